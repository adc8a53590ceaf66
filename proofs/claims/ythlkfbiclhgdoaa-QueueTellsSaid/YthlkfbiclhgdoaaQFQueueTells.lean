/-
  THE PROOF OF QueueTells: for every input the law returns true, and each argument reads behind the call as it read before. No condition.
-/
import Derived.Test.YthlkfbiclhgdoaaQ07
import Derived.Test.YthlkfbiclhgdoaaQ01
import Derived.Test.YthlkfbiclhgdoaaQ05
import Derived.Deep.DeepCutAuto
import Derived.Deep.CutBlock
import Derived.Test.YthlkfbiclhgdoaaRows
import Derived.ProofKit
import Derived.OpenShut
import Derived.ShutString
import Derived.ChangeOld
import Derived.SliceStrings
import Derived.Lib.SmallJoins

section

/-
  THE WALK OF QueueTells.
-/
namespace Go.Proofs.Ythlkfbiclhgdoaa
open Go.RowKit

theorem fewt_b {w : World} {v : Value} {t : List Row} (hv : Tab w v t) {r : Bool} (h : Hid (fewT t = r)) :
    Calls Try.prog 10 #[v] w fun e w' => e = .returned (.bool r) ∧ Below w.heap.size w w' :=
  (fewt_eq hv h).mono fun _ _ ⟨he, hw⟩ => ⟨he, hw ▸ Below.refl _ _⟩

set_option maxHeartbeats 6400000 in
set_option maxRecDepth 100000 in
theorem qtl_1 {w : World} {v vt : Value} {l : List Chg} {t : List Row} (hv : Chgs w v l) (la : Bool) (ht : Tab w vt t) (key : List UInt8) (hs : fewC l 30 = false) :
    Calls Try.prog 3 #[.agg #[v, .bool la], vt, .string ⟨key.toArray⟩] w fun e w' => e = .returned (.bool true) ∧ Below w.heap.size w w' := by
  obtain ⟨ao, cap, rfl, _hmx⟩ := hv.open'
  obtain ⟨at_, ct, rfl, _hmt⟩ := ht.open'
  have b0 := bl_newZ w (.cells #[.slice ao l.length cap, .bool la] 24)
  have HB := Lib.hid b0
  have V := Lib.hid (hv.later b0)
  have T := Lib.hid (ht.later b0)
  have A := Lib.hid (cellsAt_made (w := w) (cs := #[.slice ao l.length cap, .bool la]) (vs := [.slice ao l.length cap, .bool la]) rfl 24 rfl)
  clear b0 hv ht
  have H1 := Lib.hid hs
  clear hs
  obtain ⟨q0, q1⟩ := twoAt A.out
  go_enter Try.func3, Try.ntmps3
  go_wp2_with fail
  clear q0 q1
  refine (fewq_any V.out la H1).mono ?_
  rintro e w1 ⟨rfl, b1⟩
  replace V := Lib.hid (V.out.later b1)
  replace T := Lib.hid (T.out.later b1)
  replace A := Lib.hid (A.out.later b1)
  replace HB := Lib.hid (below2Z HB.out b1)
  clear b1
  go_wp2_with fail
  refine (live17 _).mono ?_
  rintro e w2 ⟨rfl, b2⟩
  replace V := Lib.hid (V.out.later b2)
  replace T := Lib.hid (T.out.later b2)
  replace A := Lib.hid (A.out.later b2)
  replace HB := Lib.hid (below2Z HB.out b2)
  clear b2
  go_wp2_with fail
  go_ret
  exact ⟨rfl, HB.out⟩

set_option maxHeartbeats 6400000 in
set_option maxRecDepth 100000 in
theorem qtl_2 {w : World} {v vt : Value} {l : List Chg} {t : List Row} (hv : Chgs w v l) (la : Bool) (ht : Tab w vt t) (key : List UInt8) (hs : fewC l 30 = true) (hf : fewT t = false) :
    Calls Try.prog 3 #[.agg #[v, .bool la], vt, .string ⟨key.toArray⟩] w fun e w' => e = .returned (.bool true) ∧ Below w.heap.size w w' := by
  obtain ⟨ao, cap, rfl, _hmx⟩ := hv.open'
  obtain ⟨at_, ct, rfl, _hmt⟩ := ht.open'
  have b0 := bl_newZ w (.cells #[.slice ao l.length cap, .bool la] 24)
  have HB := Lib.hid b0
  have V := Lib.hid (hv.later b0)
  have T := Lib.hid (ht.later b0)
  have A := Lib.hid (cellsAt_made (w := w) (cs := #[.slice ao l.length cap, .bool la]) (vs := [.slice ao l.length cap, .bool la]) rfl 24 rfl)
  clear b0 hv ht
  have H1 := Lib.hid hs
  have H2 := Lib.hid hf
  clear hs hf
  obtain ⟨q0, q1⟩ := twoAt A.out
  go_enter Try.func3, Try.ntmps3
  go_wp2_with fail
  clear q0 q1
  refine (fewq_any V.out la H1).mono ?_
  rintro e w1 ⟨rfl, b1⟩
  replace V := Lib.hid (V.out.later b1)
  replace T := Lib.hid (T.out.later b1)
  replace A := Lib.hid (A.out.later b1)
  replace HB := Lib.hid (below2Z HB.out b1)
  clear b1
  go_wp2_with fail
  refine (fewt_b T.out H2).mono ?_
  rintro e w2 ⟨rfl, b2⟩
  replace V := Lib.hid (V.out.later b2)
  replace T := Lib.hid (T.out.later b2)
  replace A := Lib.hid (A.out.later b2)
  replace HB := Lib.hid (below2Z HB.out b2)
  clear b2
  go_wp2_with fail
  refine (live17 _).mono ?_
  rintro e w3 ⟨rfl, b3⟩
  replace V := Lib.hid (V.out.later b3)
  replace T := Lib.hid (T.out.later b3)
  replace A := Lib.hid (A.out.later b3)
  replace HB := Lib.hid (below2Z HB.out b3)
  clear b3
  go_wp2_with fail
  go_ret
  exact ⟨rfl, HB.out⟩

set_option maxHeartbeats 6400000 in
set_option maxRecDepth 100000 in
theorem qtl_3 {w : World} {v vt : Value} {l : List Chg} {t : List Row} (hv : Chgs w v l) (la : Bool) (ht : Tab w vt t) (key : List UInt8) (hs : fewC l 30 = true) (hf : fewT t = true) (hk : 60 < key.length) :
    Calls Try.prog 3 #[.agg #[v, .bool la], vt, .string ⟨key.toArray⟩] w fun e w' => e = .returned (.bool true) ∧ Below w.heap.size w w' := by
  obtain ⟨ao, cap, rfl, _hmx⟩ := hv.open'
  obtain ⟨at_, ct, rfl, _hmt⟩ := ht.open'
  have b0 := bl_newZ w (.cells #[.slice ao l.length cap, .bool la] 24)
  have HB := Lib.hid b0
  have V := Lib.hid (hv.later b0)
  have T := Lib.hid (ht.later b0)
  have A := Lib.hid (cellsAt_made (w := w) (cs := #[.slice ao l.length cap, .bool la]) (vs := [.slice ao l.length cap, .bool la]) rfl 24 rfl)
  clear b0 hv ht
  have H1 := Lib.hid hs
  have H2 := Lib.hid hf
  have u1 : decide ((60 : Int) < (key.length : Int)) = true := decide_eq_true (by omega)
  have u2 : decide (60 < key.length) = true := decide_eq_true hk
  clear hs hf hk
  obtain ⟨q0, q1⟩ := twoAt A.out
  go_enter Try.func3, Try.ntmps3
  go_wp2_with fail
  clear q0 q1
  refine (fewq_any V.out la H1).mono ?_
  rintro e w1 ⟨rfl, b1⟩
  replace V := Lib.hid (V.out.later b1)
  replace T := Lib.hid (T.out.later b1)
  replace A := Lib.hid (A.out.later b1)
  replace HB := Lib.hid (below2Z HB.out b1)
  clear b1
  go_wp2_with fail
  refine (fewt_b T.out H2).mono ?_
  rintro e w2 ⟨rfl, b2⟩
  replace V := Lib.hid (V.out.later b2)
  replace T := Lib.hid (T.out.later b2)
  replace A := Lib.hid (A.out.later b2)
  replace HB := Lib.hid (below2Z HB.out b2)
  clear b2
  go_wp2_with fail
  refine (live17 _).mono ?_
  rintro e w3 ⟨rfl, b3⟩
  replace V := Lib.hid (V.out.later b3)
  replace T := Lib.hid (T.out.later b3)
  replace A := Lib.hid (A.out.later b3)
  replace HB := Lib.hid (below2Z HB.out b3)
  clear b3
  go_wp2_with fail
  go_ret
  exact ⟨rfl, HB.out⟩

set_option maxHeartbeats 6400000 in
set_option maxRecDepth 100000 in
theorem qtl_4 {w : World} {v vt : Value} {l : List Chg} {t : List Row} (hv : Chgs w v l) (la : Bool) (ht : Tab w vt t) (key : List UInt8) (hs : fewC l 30 = true) (hf : fewT t = true) (hk : ¬ 60 < key.length) :
    Calls Try.prog 3 #[.agg #[v, .bool la], vt, .string ⟨key.toArray⟩] w fun e w' => e = .returned (.bool true) ∧ Below w.heap.size w w' := by
  obtain ⟨ao, cap, rfl, _hmx⟩ := hv.open'
  obtain ⟨at_, ct, rfl, _hmt⟩ := ht.open'
  have b0 := bl_newZ w (.cells #[.slice ao l.length cap, .bool la] 24)
  have HB := Lib.hid b0
  have V := Lib.hid (hv.later b0)
  have T := Lib.hid (ht.later b0)
  have A := Lib.hid (cellsAt_made (w := w) (cs := #[.slice ao l.length cap, .bool la]) (vs := [.slice ao l.length cap, .bool la]) rfl 24 rfl)
  clear b0 hv ht
  have H1 := Lib.hid hs
  have H2 := Lib.hid hf
  have HSH := Lib.hid (fewC_short hs)
  have hl30 := (fewC_get hs).1
  have ht40 := Lib.hid (fewT_yes hf).1
  have u1 : decide ((60 : Int) < (key.length : Int)) = false := decide_eq_false (by omega)
  have u2 : decide (60 < key.length) = false := decide_eq_false hk
  clear hs hf hk
  obtain ⟨q0, q1⟩ := twoAt A.out
  go_enter Try.func3, Try.ntmps3
  go_wp2_with fail
  clear q0 q1
  refine (fewq_any V.out la H1).mono ?_
  rintro e w1 ⟨rfl, b1⟩
  replace V := Lib.hid (V.out.later b1)
  replace T := Lib.hid (T.out.later b1)
  replace A := Lib.hid (A.out.later b1)
  replace HB := Lib.hid (below2Z HB.out b1)
  clear b1
  go_wp2_with fail
  refine (fewt_b T.out H2).mono ?_
  rintro e w2 ⟨rfl, b2⟩
  replace V := Lib.hid (V.out.later b2)
  replace T := Lib.hid (T.out.later b2)
  replace A := Lib.hid (A.out.later b2)
  replace HB := Lib.hid (below2Z HB.out b2)
  clear b2
  go_wp2_with fail
  clear u1 u2
  go_loopw [7] (fun i wr => ∃ k : Nat, k ≤ l.length ∧ i = .int .i64 k ∧ Hid (Below w2.heap.size w2 wr)) (fun i _ => l.length - (intOf i).toNat)
  case atStart => exact ⟨0, by omega, rfl, Below.refl _ _⟩
  case round =>
    obtain ⟨k, hk, rfl, HK⟩ := hrel
    have Vk := Lib.hid (V.out.later HK.out)
    have Tk := Lib.hid (T.out.later HK.out)
    have Ak := Lib.hid (A.out.later HK.out)
    have HBk := Lib.hid (below2Z HB.out HK.out)
    obtain ⟨q0, q1⟩ := twoAt Ak.out
    by_cases hlt : k < l.length
    · obtain ⟨bo, oo, rfl, h0, h1, h2, h3, h4, h5⟩ := Vk.out.row (Below.refl _ _) k hlt
      obtain ⟨hs1, hs2⟩ := HSH.out.get hlt
      obtain ⟨⟨xc, xo, ⟨xa, xb, xd, xs⟩⟩, hx⟩ : ∃ r, l.getD k Chg.zero = r := ⟨_, rfl⟩
      rw [hx] at h0 h1 h2 h3 h4 h5 hs1 hs2
      simp only at h0 h1 h2 h3 h4 h5 hs1 hs2
      clear hx
      obtain ⟨r, hr⟩ : ∃ r, quOne ⟨xc, xo, ⟨xa, xb, xd, xs⟩⟩ = r := ⟨_, rfl⟩
      cases r
      · have HO1 := Lib.hid (quone_any xc xs xo xa xb xd hs1 hs2 (Lib.hid hr))
        have HO2 := Lib.hid (rquone_any xc xs xo xa xb xd hs1 hs2 (Lib.hid hr))
        clear hr hs1 hs2
        go_wp2_with fail
        have gh0 := cell_regrown h0
        have gh1 := cell_regrown h1
        have gh2 := cell_regrown h2
        have gh3 := cell_regrown h3
        have gh4 := cell_regrown h4
        have gh5 := cell_regrown h5
        have gq0 := cell_regrown q0
        have gq1 := cell_regrown q1
        clear h0 h1 h2 h3 h4 h5 q0 q1
        refine wp_region_quiet_below (by kernel_rfl) (by kernel_rfl) ?_
        repeat (go_big_quiet_step (first | with_reducible exact rgB HO1.out _ _ _ | with_reducible exact rgB HO2.out _ _ _))
        refine wpQuiet_nil ?_
        intro w5 hw5
        have HK5 := Lib.hid (HK.out.trans ((regrown_belowD hw5).mono HK.out.size))
        clear hw5 gh0 gh1 gh2 gh3 gh4 gh5 gq0 gq1
        go_wp2_with fail
        go_roundw
        case rel => exact ⟨k + 1, by omega, by go_num, HK5⟩
        case measure => simp [intOf]; omega
      · have HO1 := Lib.hid (quone_any xc xs xo xa xb xd hs1 hs2 (Lib.hid hr))
        have HO2 := Lib.hid (rquone_any xc xs xo xa xb xd hs1 hs2 (Lib.hid hr))
        clear hr hs1 hs2
        go_wp2_with fail
        have gh0 := cell_regrown h0
        have gh1 := cell_regrown h1
        have gh2 := cell_regrown h2
        have gh3 := cell_regrown h3
        have gh4 := cell_regrown h4
        have gh5 := cell_regrown h5
        have gq0 := cell_regrown q0
        have gq1 := cell_regrown q1
        clear h0 h1 h2 h3 h4 h5 q0 q1
        refine wp_region_quiet_below (by kernel_rfl) (by kernel_rfl) ?_
        repeat (go_big_quiet_step (first | with_reducible exact rgB HO1.out _ _ _ | with_reducible exact rgB HO2.out _ _ _))
        refine wpQuiet_nil ?_
        intro w5 hw5
        have HK5 := Lib.hid (HK.out.trans ((regrown_belowD hw5).mono HK.out.size))
        clear hw5 gh0 gh1 gh2 gh3 gh4 gh5 gq0 gq1
        go_wp2_with fail
        go_roundw
        case rel => exact ⟨k + 1, by omega, by go_num, HK5⟩
        case measure => simp [intOf]; omega
    · obtain rfl : k = l.length := by omega
      clear hlt hk
      go_wp2_with fail
      clear q0 q1 V T A HB HK
      go_loopw [8] (fun i wx => ∃ k : Int, -1 ≤ k ∧ k ≤ 18 ∧ i = .int .i64 k ∧ Hid (Below wr.heap.size wr wx)) (fun i _ => (18 - intOf i).toNat)
      case atStart => exact ⟨-1, by omega, by omega, rfl, Below.refl _ _⟩
      case round =>
      obtain ⟨k, hk1, hk2, rfl, HX⟩ := hrel
      have V := Lib.hid (Vk.out.later HX.out)
      have T := Lib.hid (Tk.out.later HX.out)
      have A := Lib.hid (Ak.out.later HX.out)
      have HB := Lib.hid (below2Z HBk.out HX.out)
      obtain ⟨q0, q1⟩ := twoAt A.out
      by_cases hlt : k < 18
      · obtain ⟨r, hr⟩ : ∃ r, quMay ⟨l, la⟩ k = r := ⟨_, rfl⟩
        have u1 : decide (k < 18) = true := decide_eq_true hlt
        cases r
        · have HM1 := Lib.hid (fun w' (hb' : Below wr.heap.size wr w') => qumay_any (V.out.later hb') HSH.out (by omega) la (Lib.hid hr))
          have HM2 := Lib.hid (fun w' (hb' : Below wr.heap.size wr w') => rqumay_any (V.out.later hb') HSH.out (by omega) la (Lib.hid hr))
          clear hr
          go_wp2_with fail
          have g0 := cell_regrown q0
          have g1 := cell_regrown q1
          clear q0 q1
          refine wp_region_quiet_below (by kernel_rfl) (by kernel_rfl) ?_
          repeat (go_big_quiet_step (first | with_reducible exact rgM HM1.out _ _ | with_reducible exact rgM HM2.out _ _))
          refine wpQuiet_nil ?_
          intro w5 hw5
          have HX5 := Lib.hid (HX.out.trans ((regrown_belowD hw5).mono HX.out.size))
          clear hw5 g0 g1 u1
          go_wp2_with fail
          go_roundw
          case rel => exact ⟨k + 1, by omega, by omega, by go_num, HX5⟩
          case measure => simp [intOf]; omega
        · have HM1 := Lib.hid (fun w' (hb' : Below wr.heap.size wr w') => qumay_any (V.out.later hb') HSH.out (by omega) la (Lib.hid hr))
          have HM2 := Lib.hid (fun w' (hb' : Below wr.heap.size wr w') => rqumay_any (V.out.later hb') HSH.out (by omega) la (Lib.hid hr))
          clear hr
          go_wp2_with fail
          have g0 := cell_regrown q0
          have g1 := cell_regrown q1
          clear q0 q1
          refine wp_region_quiet_below (by kernel_rfl) (by kernel_rfl) ?_
          repeat (go_big_quiet_step (first | with_reducible exact rgM HM1.out _ _ | with_reducible exact rgM HM2.out _ _))
          refine wpQuiet_nil ?_
          intro w5 hw5
          have HX5 := Lib.hid (HX.out.trans ((regrown_belowD hw5).mono HX.out.size))
          clear hw5 g0 g1 u1
          go_wp2_with fail
          go_roundw
          case rel => exact ⟨k + 1, by omega, by omega, by go_num, HX5⟩
          case measure => simp [intOf]; omega
      · obtain rfl : k = 18 := by omega
        clear hlt hk1 hk2 HX Vk Tk Ak HBk
        obtain ⟨⟨⟨oc, oo2, ⟨oa, ob, od, os⟩⟩, ⟨ql, qa⟩, ok⟩, hpop⟩ : ∃ p, quPop ⟨l, la⟩ = p := ⟨_, rfl⟩
        have HP := Lib.hid hpop
        obtain ⟨⟨⟨fc, fo, ⟨fa, fb, fd, fs⟩⟩, fk⟩, hfind⟩ : ∃ p, quFind ⟨l, la⟩ key = p := ⟨_, rfl⟩
        have HF := Lib.hid hfind
        obtain ⟨er, herr⟩ : ∃ r, quEmpty ⟨l, la⟩ = r := ⟨_, rfl⟩
        have HE := Lib.hid herr
        obtain ⟨nq, hnq⟩ : ∃ n, ql.length = n := ⟨_, rfl⟩
        have HNQ := Lib.hid hnq
        clear hpop hfind herr hnq
        try clear q0 q1
        obtain ⟨q0, q1⟩ := twoAt A.out
        go_wp2_with fail
        clear q0 q1
        refine (qupop_any V.out (by omega) la HP).mono ?_
        rintro e w31 ⟨u1, rfl, hu1, b31⟩
        replace V := Lib.hid (V.out.later b31)
        replace T := Lib.hid (T.out.later b31)
        replace A := Lib.hid (A.out.later b31)
        replace HB := Lib.hid (below2Z HB.out b31)
        obtain ⟨a1, c1, rfl⟩ := chgs_shape hu1 HNQ.out
        have U1 := Lib.hid hu1
        clear hu1
        clear b31
        have b32 := bl_newZ w31 (.cells #[.string ⟨oc.toArray⟩, .bool oo2, .int .i64 oa, .int .i64 ob, .int .i64 od, .string ⟨os.toArray⟩] 33)
        have P1 := Lib.hid (cellsAt_made (w := w31) (cs := #[.string ⟨oc.toArray⟩, .bool oo2, .int .i64 oa, .int .i64 ob, .int .i64 od, .string ⟨os.toArray⟩]) (vs := [.string ⟨oc.toArray⟩, .bool oo2, .int .i64 oa, .int .i64 ob, .int .i64 od, .string ⟨os.toArray⟩]) rfl 33 rfl)
        replace V := Lib.hid (V.out.later b32)
        replace T := Lib.hid (T.out.later b32)
        replace A := Lib.hid (A.out.later b32)
        replace U1 := Lib.hid (U1.out.later b32)
        replace HB := Lib.hid (below2Z HB.out b32)
        clear b32
        have b33 := bl_newZ (w31.alloc (.cells #[.string ⟨oc.toArray⟩, .bool oo2, .int .i64 oa, .int .i64 ob, .int .i64 od, .string ⟨os.toArray⟩] 33)) (.cells #[.slice a1 nq c1, .bool qa] 24)
        have Q1 := Lib.hid (cellsAt_made (w := (w31.alloc (.cells #[.string ⟨oc.toArray⟩, .bool oo2, .int .i64 oa, .int .i64 ob, .int .i64 od, .string ⟨os.toArray⟩] 33))) (cs := #[.slice a1 nq c1, .bool qa]) (vs := [.slice a1 nq c1, .bool qa]) rfl 24 (B := w31.heap.size + 1) (by simp))
        replace V := Lib.hid (V.out.later b33)
        replace T := Lib.hid (T.out.later b33)
        replace A := Lib.hid (A.out.later b33)
        replace U1 := Lib.hid (U1.out.later b33)
        replace P1 := Lib.hid (P1.out.later b33)
        replace HB := Lib.hid (below2Z HB.out b33)
        clear b33
        obtain ⟨q0, q1⟩ := twoAt A.out
        go_wp2_with fail
        clear q0 q1
        refine (rqupop_any V.out (by omega) la HP).mono ?_
        rintro e w34 ⟨u2, rfl, hu2, b34⟩
        replace V := Lib.hid (V.out.later b34)
        replace T := Lib.hid (T.out.later b34)
        replace A := Lib.hid (A.out.later b34)
        replace U1 := Lib.hid (U1.out.later b34)
        replace P1 := Lib.hid (P1.out.later b34)
        replace Q1 := Lib.hid (Q1.out.later b34)
        replace HB := Lib.hid (below2Z HB.out b34)
        obtain ⟨a2, c2, rfl⟩ := chgs_shape hu2 HNQ.out
        have U2 := Lib.hid hu2
        clear hu2
        clear b34
        have b35 := bl_newZ w34 (.cells #[.string ⟨oc.toArray⟩, .bool oo2, .int .i64 oa, .int .i64 ob, .int .i64 od, .string ⟨os.toArray⟩] 33)
        have P2 := Lib.hid (cellsAt_made (w := w34) (cs := #[.string ⟨oc.toArray⟩, .bool oo2, .int .i64 oa, .int .i64 ob, .int .i64 od, .string ⟨os.toArray⟩]) (vs := [.string ⟨oc.toArray⟩, .bool oo2, .int .i64 oa, .int .i64 ob, .int .i64 od, .string ⟨os.toArray⟩]) rfl 33 rfl)
        replace V := Lib.hid (V.out.later b35)
        replace T := Lib.hid (T.out.later b35)
        replace A := Lib.hid (A.out.later b35)
        replace U1 := Lib.hid (U1.out.later b35)
        replace P1 := Lib.hid (P1.out.later b35)
        replace Q1 := Lib.hid (Q1.out.later b35)
        replace U2 := Lib.hid (U2.out.later b35)
        replace HB := Lib.hid (below2Z HB.out b35)
        clear b35
        have b36 := bl_newZ (w34.alloc (.cells #[.string ⟨oc.toArray⟩, .bool oo2, .int .i64 oa, .int .i64 ob, .int .i64 od, .string ⟨os.toArray⟩] 33)) (.cells #[.slice a2 nq c2, .bool qa] 24)
        have Q2 := Lib.hid (cellsAt_made (w := (w34.alloc (.cells #[.string ⟨oc.toArray⟩, .bool oo2, .int .i64 oa, .int .i64 ob, .int .i64 od, .string ⟨os.toArray⟩] 33))) (cs := #[.slice a2 nq c2, .bool qa]) (vs := [.slice a2 nq c2, .bool qa]) rfl 24 (B := w34.heap.size + 1) (by simp))
        replace V := Lib.hid (V.out.later b36)
        replace T := Lib.hid (T.out.later b36)
        replace A := Lib.hid (A.out.later b36)
        replace U1 := Lib.hid (U1.out.later b36)
        replace P1 := Lib.hid (P1.out.later b36)
        replace Q1 := Lib.hid (Q1.out.later b36)
        replace U2 := Lib.hid (U2.out.later b36)
        replace P2 := Lib.hid (P2.out.later b36)
        replace HB := Lib.hid (below2Z HB.out b36)
        clear b36
        obtain ⟨q0, q1⟩ := twoAt A.out
        go_wp2_with fail
        clear q0 q1
        refine (qufind_any V.out la key HF).mono ?_
        rintro e w37 ⟨rfl, b37⟩
        replace V := Lib.hid (V.out.later b37)
        replace T := Lib.hid (T.out.later b37)
        replace A := Lib.hid (A.out.later b37)
        replace U1 := Lib.hid (U1.out.later b37)
        replace P1 := Lib.hid (P1.out.later b37)
        replace Q1 := Lib.hid (Q1.out.later b37)
        replace U2 := Lib.hid (U2.out.later b37)
        replace P2 := Lib.hid (P2.out.later b37)
        replace Q2 := Lib.hid (Q2.out.later b37)
        replace HB := Lib.hid (below2Z HB.out b37)
        clear b37
        have b38 := bl_newZ w37 (.cells #[.string ⟨fc.toArray⟩, .bool fo, .int .i64 fa, .int .i64 fb, .int .i64 fd, .string ⟨fs.toArray⟩] 33)
        have G1 := Lib.hid (cellsAt_made (w := w37) (cs := #[.string ⟨fc.toArray⟩, .bool fo, .int .i64 fa, .int .i64 fb, .int .i64 fd, .string ⟨fs.toArray⟩]) (vs := [.string ⟨fc.toArray⟩, .bool fo, .int .i64 fa, .int .i64 fb, .int .i64 fd, .string ⟨fs.toArray⟩]) rfl 33 rfl)
        replace V := Lib.hid (V.out.later b38)
        replace T := Lib.hid (T.out.later b38)
        replace A := Lib.hid (A.out.later b38)
        replace U1 := Lib.hid (U1.out.later b38)
        replace P1 := Lib.hid (P1.out.later b38)
        replace Q1 := Lib.hid (Q1.out.later b38)
        replace U2 := Lib.hid (U2.out.later b38)
        replace P2 := Lib.hid (P2.out.later b38)
        replace Q2 := Lib.hid (Q2.out.later b38)
        replace HB := Lib.hid (below2Z HB.out b38)
        clear b38
        obtain ⟨q0, q1⟩ := twoAt A.out
        go_wp2_with fail
        clear q0 q1
        refine (rqufind_any V.out la key HF).mono ?_
        rintro e w39 ⟨rfl, b39⟩
        replace V := Lib.hid (V.out.later b39)
        replace T := Lib.hid (T.out.later b39)
        replace A := Lib.hid (A.out.later b39)
        replace U1 := Lib.hid (U1.out.later b39)
        replace P1 := Lib.hid (P1.out.later b39)
        replace Q1 := Lib.hid (Q1.out.later b39)
        replace U2 := Lib.hid (U2.out.later b39)
        replace P2 := Lib.hid (P2.out.later b39)
        replace Q2 := Lib.hid (Q2.out.later b39)
        replace G1 := Lib.hid (G1.out.later b39)
        replace HB := Lib.hid (below2Z HB.out b39)
        clear b39
        have b40 := bl_newZ w39 (.cells #[.string ⟨fc.toArray⟩, .bool fo, .int .i64 fa, .int .i64 fb, .int .i64 fd, .string ⟨fs.toArray⟩] 33)
        have G2 := Lib.hid (cellsAt_made (w := w39) (cs := #[.string ⟨fc.toArray⟩, .bool fo, .int .i64 fa, .int .i64 fb, .int .i64 fd, .string ⟨fs.toArray⟩]) (vs := [.string ⟨fc.toArray⟩, .bool fo, .int .i64 fa, .int .i64 fb, .int .i64 fd, .string ⟨fs.toArray⟩]) rfl 33 rfl)
        replace V := Lib.hid (V.out.later b40)
        replace T := Lib.hid (T.out.later b40)
        replace A := Lib.hid (A.out.later b40)
        replace U1 := Lib.hid (U1.out.later b40)
        replace P1 := Lib.hid (P1.out.later b40)
        replace Q1 := Lib.hid (Q1.out.later b40)
        replace U2 := Lib.hid (U2.out.later b40)
        replace P2 := Lib.hid (P2.out.later b40)
        replace Q2 := Lib.hid (Q2.out.later b40)
        replace G1 := Lib.hid (G1.out.later b40)
        replace HB := Lib.hid (below2Z HB.out b40)
        clear b40
        go_upto_region 17 with fail
        generalize w39.alloc (.cells #[.string ⟨fc.toArray⟩, .bool fo, .int .i64 fa, .int .i64 fb, .int .i64 fd, .string ⟨fs.toArray⟩] 33) = W7 at V T A U1 P1 Q1 U2 P2 Q2 G1 G2 HB ⊢
        have e1 := eql_self6 oc oo2 oa ob od os
        have e2 := eql_self6 fc fo fa fb fd fs
        have hgd : Try.prog.eqGuardType Try.prog.depth 33 = false := by kernel_rfl
        obtain ⟨BS, hBS⟩ : ∃ BS : List (Nat × List Value), BS = [(w.heap.size, [.slice ao l.length cap, .bool la]), (w31.heap.size, [.string ⟨oc.toArray⟩, .bool oo2, .int .i64 oa, .int .i64 ob, .int .i64 od, .string ⟨os.toArray⟩]), (w31.heap.size + 1, [.slice a1 nq c1, .bool qa]), (w34.heap.size, [.string ⟨oc.toArray⟩, .bool oo2, .int .i64 oa, .int .i64 ob, .int .i64 od, .string ⟨os.toArray⟩]), (w34.heap.size + 1, [.slice a2 nq c2, .bool qa]), (w37.heap.size, [.string ⟨fc.toArray⟩, .bool fo, .int .i64 fa, .int .i64 fb, .int .i64 fd, .string ⟨fs.toArray⟩]), (w39.heap.size, [.string ⟨fc.toArray⟩, .bool fo, .int .i64 fa, .int .i64 fb, .int .i64 fd, .string ⟨fs.toArray⟩])] := ⟨_, rfl⟩
        have D0 := Lib.hid (show heldB W7 BS from by rw [hBS]; exact heldB_cons (A.out) (heldB_cons (P1.out) (heldB_cons (Q1.out) (heldB_cons (P2.out) (heldB_cons (Q2.out) (heldB_cons (G1.out) (heldB_cons (G2.out) (heldB_nil _))))))))
        have hq0 : ∀ X, heldB X BS → X.cell? ⟨w.heap.size, 0, none⟩ = some (.slice ao l.length cap) := fun X hx => heldB_get (vs := [.slice ao l.length cap, .bool la]) hx (by rw [hBS]; simp) rfl
        have hq1 : ∀ X, heldB X BS → X.cell? ⟨w.heap.size, 1, none⟩ = some (.bool la) := fun X hx => heldB_get (vs := [.slice ao l.length cap, .bool la]) hx (by rw [hBS]; simp) rfl
        have hq2 : ∀ X, heldB X BS → X.cell? ⟨w31.heap.size, 0, none⟩ = some (.string ⟨oc.toArray⟩) := fun X hx => heldB_get (vs := [.string ⟨oc.toArray⟩, .bool oo2, .int .i64 oa, .int .i64 ob, .int .i64 od, .string ⟨os.toArray⟩]) hx (by rw [hBS]; simp) rfl
        have hq3 : ∀ X, heldB X BS → X.cell? ⟨w31.heap.size, 1, none⟩ = some (.bool oo2) := fun X hx => heldB_get (vs := [.string ⟨oc.toArray⟩, .bool oo2, .int .i64 oa, .int .i64 ob, .int .i64 od, .string ⟨os.toArray⟩]) hx (by rw [hBS]; simp) rfl
        have hq4 : ∀ X, heldB X BS → X.cell? ⟨w31.heap.size, 2, none⟩ = some (.int .i64 oa) := fun X hx => heldB_get (vs := [.string ⟨oc.toArray⟩, .bool oo2, .int .i64 oa, .int .i64 ob, .int .i64 od, .string ⟨os.toArray⟩]) hx (by rw [hBS]; simp) rfl
        have hq5 : ∀ X, heldB X BS → X.cell? ⟨w31.heap.size, 3, none⟩ = some (.int .i64 ob) := fun X hx => heldB_get (vs := [.string ⟨oc.toArray⟩, .bool oo2, .int .i64 oa, .int .i64 ob, .int .i64 od, .string ⟨os.toArray⟩]) hx (by rw [hBS]; simp) rfl
        have hq6 : ∀ X, heldB X BS → X.cell? ⟨w31.heap.size, 4, none⟩ = some (.int .i64 od) := fun X hx => heldB_get (vs := [.string ⟨oc.toArray⟩, .bool oo2, .int .i64 oa, .int .i64 ob, .int .i64 od, .string ⟨os.toArray⟩]) hx (by rw [hBS]; simp) rfl
        have hq7 : ∀ X, heldB X BS → X.cell? ⟨w31.heap.size, 5, none⟩ = some (.string ⟨os.toArray⟩) := fun X hx => heldB_get (vs := [.string ⟨oc.toArray⟩, .bool oo2, .int .i64 oa, .int .i64 ob, .int .i64 od, .string ⟨os.toArray⟩]) hx (by rw [hBS]; simp) rfl
        have hq8 : ∀ X, heldB X BS → X.cell? ⟨w31.heap.size + 1, 0, none⟩ = some (.slice a1 nq c1) := fun X hx => heldB_get (vs := [.slice a1 nq c1, .bool qa]) hx (by rw [hBS]; simp) rfl
        have hq9 : ∀ X, heldB X BS → X.cell? ⟨w31.heap.size + 1, 1, none⟩ = some (.bool qa) := fun X hx => heldB_get (vs := [.slice a1 nq c1, .bool qa]) hx (by rw [hBS]; simp) rfl
        have hq10 : ∀ X, heldB X BS → X.cell? ⟨w34.heap.size, 0, none⟩ = some (.string ⟨oc.toArray⟩) := fun X hx => heldB_get (vs := [.string ⟨oc.toArray⟩, .bool oo2, .int .i64 oa, .int .i64 ob, .int .i64 od, .string ⟨os.toArray⟩]) hx (by rw [hBS]; simp) rfl
        have hq11 : ∀ X, heldB X BS → X.cell? ⟨w34.heap.size, 1, none⟩ = some (.bool oo2) := fun X hx => heldB_get (vs := [.string ⟨oc.toArray⟩, .bool oo2, .int .i64 oa, .int .i64 ob, .int .i64 od, .string ⟨os.toArray⟩]) hx (by rw [hBS]; simp) rfl
        have hq12 : ∀ X, heldB X BS → X.cell? ⟨w34.heap.size, 2, none⟩ = some (.int .i64 oa) := fun X hx => heldB_get (vs := [.string ⟨oc.toArray⟩, .bool oo2, .int .i64 oa, .int .i64 ob, .int .i64 od, .string ⟨os.toArray⟩]) hx (by rw [hBS]; simp) rfl
        have hq13 : ∀ X, heldB X BS → X.cell? ⟨w34.heap.size, 3, none⟩ = some (.int .i64 ob) := fun X hx => heldB_get (vs := [.string ⟨oc.toArray⟩, .bool oo2, .int .i64 oa, .int .i64 ob, .int .i64 od, .string ⟨os.toArray⟩]) hx (by rw [hBS]; simp) rfl
        have hq14 : ∀ X, heldB X BS → X.cell? ⟨w34.heap.size, 4, none⟩ = some (.int .i64 od) := fun X hx => heldB_get (vs := [.string ⟨oc.toArray⟩, .bool oo2, .int .i64 oa, .int .i64 ob, .int .i64 od, .string ⟨os.toArray⟩]) hx (by rw [hBS]; simp) rfl
        have hq15 : ∀ X, heldB X BS → X.cell? ⟨w34.heap.size, 5, none⟩ = some (.string ⟨os.toArray⟩) := fun X hx => heldB_get (vs := [.string ⟨oc.toArray⟩, .bool oo2, .int .i64 oa, .int .i64 ob, .int .i64 od, .string ⟨os.toArray⟩]) hx (by rw [hBS]; simp) rfl
        have hq16 : ∀ X, heldB X BS → X.cell? ⟨w34.heap.size + 1, 0, none⟩ = some (.slice a2 nq c2) := fun X hx => heldB_get (vs := [.slice a2 nq c2, .bool qa]) hx (by rw [hBS]; simp) rfl
        have hq17 : ∀ X, heldB X BS → X.cell? ⟨w34.heap.size + 1, 1, none⟩ = some (.bool qa) := fun X hx => heldB_get (vs := [.slice a2 nq c2, .bool qa]) hx (by rw [hBS]; simp) rfl
        have hq18 : ∀ X, heldB X BS → X.cell? ⟨w37.heap.size, 0, none⟩ = some (.string ⟨fc.toArray⟩) := fun X hx => heldB_get (vs := [.string ⟨fc.toArray⟩, .bool fo, .int .i64 fa, .int .i64 fb, .int .i64 fd, .string ⟨fs.toArray⟩]) hx (by rw [hBS]; simp) rfl
        have hq19 : ∀ X, heldB X BS → X.cell? ⟨w37.heap.size, 1, none⟩ = some (.bool fo) := fun X hx => heldB_get (vs := [.string ⟨fc.toArray⟩, .bool fo, .int .i64 fa, .int .i64 fb, .int .i64 fd, .string ⟨fs.toArray⟩]) hx (by rw [hBS]; simp) rfl
        have hq20 : ∀ X, heldB X BS → X.cell? ⟨w37.heap.size, 2, none⟩ = some (.int .i64 fa) := fun X hx => heldB_get (vs := [.string ⟨fc.toArray⟩, .bool fo, .int .i64 fa, .int .i64 fb, .int .i64 fd, .string ⟨fs.toArray⟩]) hx (by rw [hBS]; simp) rfl
        have hq21 : ∀ X, heldB X BS → X.cell? ⟨w37.heap.size, 3, none⟩ = some (.int .i64 fb) := fun X hx => heldB_get (vs := [.string ⟨fc.toArray⟩, .bool fo, .int .i64 fa, .int .i64 fb, .int .i64 fd, .string ⟨fs.toArray⟩]) hx (by rw [hBS]; simp) rfl
        have hq22 : ∀ X, heldB X BS → X.cell? ⟨w37.heap.size, 4, none⟩ = some (.int .i64 fd) := fun X hx => heldB_get (vs := [.string ⟨fc.toArray⟩, .bool fo, .int .i64 fa, .int .i64 fb, .int .i64 fd, .string ⟨fs.toArray⟩]) hx (by rw [hBS]; simp) rfl
        have hq23 : ∀ X, heldB X BS → X.cell? ⟨w37.heap.size, 5, none⟩ = some (.string ⟨fs.toArray⟩) := fun X hx => heldB_get (vs := [.string ⟨fc.toArray⟩, .bool fo, .int .i64 fa, .int .i64 fb, .int .i64 fd, .string ⟨fs.toArray⟩]) hx (by rw [hBS]; simp) rfl
        have hq24 : ∀ X, heldB X BS → X.cell? ⟨w39.heap.size, 0, none⟩ = some (.string ⟨fc.toArray⟩) := fun X hx => heldB_get (vs := [.string ⟨fc.toArray⟩, .bool fo, .int .i64 fa, .int .i64 fb, .int .i64 fd, .string ⟨fs.toArray⟩]) hx (by rw [hBS]; simp) rfl
        have hq25 : ∀ X, heldB X BS → X.cell? ⟨w39.heap.size, 1, none⟩ = some (.bool fo) := fun X hx => heldB_get (vs := [.string ⟨fc.toArray⟩, .bool fo, .int .i64 fa, .int .i64 fb, .int .i64 fd, .string ⟨fs.toArray⟩]) hx (by rw [hBS]; simp) rfl
        have hq26 : ∀ X, heldB X BS → X.cell? ⟨w39.heap.size, 2, none⟩ = some (.int .i64 fa) := fun X hx => heldB_get (vs := [.string ⟨fc.toArray⟩, .bool fo, .int .i64 fa, .int .i64 fb, .int .i64 fd, .string ⟨fs.toArray⟩]) hx (by rw [hBS]; simp) rfl
        have hq27 : ∀ X, heldB X BS → X.cell? ⟨w39.heap.size, 3, none⟩ = some (.int .i64 fb) := fun X hx => heldB_get (vs := [.string ⟨fc.toArray⟩, .bool fo, .int .i64 fa, .int .i64 fb, .int .i64 fd, .string ⟨fs.toArray⟩]) hx (by rw [hBS]; simp) rfl
        have hq28 : ∀ X, heldB X BS → X.cell? ⟨w39.heap.size, 4, none⟩ = some (.int .i64 fd) := fun X hx => heldB_get (vs := [.string ⟨fc.toArray⟩, .bool fo, .int .i64 fa, .int .i64 fb, .int .i64 fd, .string ⟨fs.toArray⟩]) hx (by rw [hBS]; simp) rfl
        have hq29 : ∀ X, heldB X BS → X.cell? ⟨w39.heap.size, 5, none⟩ = some (.string ⟨fs.toArray⟩) := fun X hx => heldB_get (vs := [.string ⟨fc.toArray⟩, .bool fo, .int .i64 fa, .int .i64 fb, .int .i64 fd, .string ⟨fs.toArray⟩]) hx (by rw [hBS]; simp) rfl
        clear hBS
        have K0 : Hid (Below W7.heap.size W7 W7.drew) := Lib.hid (Below.refl _ _).drew
        refine wp_region_held_drew (S := (fun X => heldB X BS)) (by kernel_rfl) ?_ (fun hHeld => ?_)
        · exact heldB_up K0.out D0.out
        generalize W7.drew = z0 at K0 hHeld ⊢
        replace V := Lib.hid (V.out.later K0.out)
        replace T := Lib.hid (T.out.later K0.out)
        replace U1 := Lib.hid (U1.out.later K0.out)
        replace U2 := Lib.hid (U2.out.later K0.out)
        refine wpAnyH_take (i := 0) (oi := { dst := some 88, op := Op.load 33 (Operand.tmp 9), type := 33, pos := "law.go:46", after := #[], guard := none }) (v := ?_) rfl (by as_aux_lemma => kernel_rfl) (by as_aux_lemma => kernel_rfl) (by as_aux_lemma => kernel_rfl) (fun _ _ _ h => h) (Or.inl ⟨by rfl, ?_⟩) (by assumption) ?_
        rotate_left
        · intro w' hSw
          try dsimp only at hSw
          go_simp
          try with_reducible rfl
        try simp only [Act.put, List.setIfInBounds_toArray, List.set_cons_zero, List.set_cons_succ]
        refine wpAnyH_take (i := 1) (oi := { dst := some 89, op := Op.load 33 (Operand.tmp 12), type := 33, pos := "law.go:46", after := #[], guard := none }) (v := ?_) rfl (by as_aux_lemma => kernel_rfl) (by as_aux_lemma => kernel_rfl) (by as_aux_lemma => kernel_rfl) (fun _ _ _ h => h) (Or.inl ⟨by rfl, ?_⟩) (by assumption) ?_
        rotate_left
        · intro w' hSw
          try dsimp only at hSw
          go_simp
          try with_reducible rfl
        try simp only [Act.put, List.setIfInBounds_toArray, List.set_cons_zero, List.set_cons_succ]
        refine wpAnyH_take (i := 2) (oi := { dst := some 90, op := Op.binOp BinOp.eql 33 (Operand.tmp 88) (Operand.tmp 89) 33, type := 4, pos := "law.go:46", after := #[{ on := 0, ground := Ground.data }, { on := 1, ground := Ground.data }], guard := none }) (v := ?_) rfl (by as_aux_lemma => kernel_rfl) (by as_aux_lemma => kernel_rfl) (by as_aux_lemma => kernel_rfl) (fun _ _ _ h => h) (Or.inl ⟨by rfl, ?_⟩) (by assumption) ?_
        rotate_left
        · intro w' hSw
          try dsimp only at hSw
          go_simp
          try with_reducible rfl
        try simp only [Act.put, List.setIfInBounds_toArray, List.set_cons_zero, List.set_cons_succ]
        refine wpAnyH_take (i := 3) (oi := { dst := some 91, op := Op.move (Operand.tmp 90), type := 4, pos := "law.go:46", after := #[{ on := 2, ground := Ground.data }], guard := none }) (v := ?_) rfl (by as_aux_lemma => kernel_rfl) (by as_aux_lemma => kernel_rfl) (by as_aux_lemma => kernel_rfl) (fun _ _ _ h => h) (Or.inl ⟨by rfl, ?_⟩) (by assumption) ?_
        rotate_left
        · intro w' hSw
          try dsimp only at hSw
          go_simp
          try with_reducible rfl
        try simp only [Act.put, List.setIfInBounds_toArray, List.set_cons_zero, List.set_cons_succ]
        refine wpAnyH_take (i := 4) (oi := { dst := some 92, op := Op.load 24 (Operand.tmp 10), type := 24, pos := "law.go:46", after := #[{ on := 3, ground := Ground.guard }], guard := some (3, true) }) (v := ?_) rfl (by as_aux_lemma => kernel_rfl) (by as_aux_lemma => kernel_rfl) (by as_aux_lemma => kernel_rfl) (fun _ _ _ h => h) (Or.inl ⟨by rfl, ?_⟩) (by assumption) ?_
        rotate_left
        · intro w' hSw
          try dsimp only at hSw
          go_simp
          try with_reducible rfl
        try simp only [Act.put, List.setIfInBounds_toArray, List.set_cons_zero, List.set_cons_succ]
        refine wpAnyH_take (i := 5) (oi := { dst := some 93, op := Op.load 24 (Operand.tmp 13), type := 24, pos := "law.go:46", after := #[{ on := 3, ground := Ground.guard }], guard := some (3, true) }) (v := ?_) rfl (by as_aux_lemma => kernel_rfl) (by as_aux_lemma => kernel_rfl) (by as_aux_lemma => kernel_rfl) (fun _ _ _ h => h) (Or.inl ⟨by rfl, ?_⟩) (by assumption) ?_
        rotate_left
        · intro w' hSw
          try dsimp only at hSw
          go_simp
          try with_reducible rfl
        try simp only [Act.put, List.setIfInBounds_toArray, List.set_cons_zero, List.set_cons_succ]
        refine wpAnyH_ready (rs := [6]) (by as_aux_lemma => kernel_rfl) (by simp) ?_
        refine AllReadyH.cons (o := { dst := some 94, op := Op.call { callee := Callee.value (Operand.func 20), args := #[Operand.tmp 92, Operand.tmp 93], argTypes := #[24, 24] }, type := 4, pos := "law.go:46", after := #[{ on := 4, ground := Ground.data }, { on := 5, ground := Ground.data }, { on := 3, ground := Ground.chain }, { on := 3, ground := Ground.guard }], guard := some (3, true) }) rfl (fun Kx hK => ?_) AllReadyH.nil
        go_simp
        refine (qusame_any U1.out U2.out qa qa (Lib.hid (quSame_self _))).mono ?_
        rintro e z1 ⟨rfl, bz1⟩
        have K1 := Lib.hid (below2Z K0.out bz1)
        have D1 := Lib.hid (heldB_up K1.out D0.out)
        replace V := Lib.hid (Chgs.later V.out bz1)
        replace T := Lib.hid (Tab.later T.out bz1)
        replace U1 := Lib.hid (Chgs.later U1.out bz1)
        replace U2 := Lib.hid (Chgs.later U2.out bz1)
        clear bz1
        go_wp2_with fail
        refine hK.out _ _ ?_ (fun hHeld2 => ?_)
        · exact D1.out
        clear hK Kx hHeld
        have hHeld := hHeld2
        clear hHeld2
        try simp only [Act.put, List.setIfInBounds_toArray, List.set_cons_zero, List.set_cons_succ]
        refine wpAnyH_take (i := 7) (oi := { dst := some 95, op := Op.pick (Operand.tmp 91) (Operand.tmp 94) (Operand.const (Value.bool false)), type := 4, pos := "law.go:46", after := #[{ on := 3, ground := Ground.data }, { on := 6, ground := Ground.data }], guard := none }) (v := ?_) rfl (by as_aux_lemma => kernel_rfl) (by as_aux_lemma => kernel_rfl) (by as_aux_lemma => kernel_rfl) (fun _ _ _ h => h) (Or.inl ⟨by rfl, ?_⟩) (by assumption) ?_
        rotate_left
        · intro w' hSw
          try dsimp only at hSw
          go_simp
          try with_reducible rfl
        try simp only [Act.put, List.setIfInBounds_toArray, List.set_cons_zero, List.set_cons_succ]
        refine wpAnyH_take (i := 8) (oi := { dst := some 96, op := Op.move (Operand.tmp 95), type := 4, pos := "law.go:46", after := #[{ on := 7, ground := Ground.data }, { on := 6, ground := Ground.chain }], guard := none }) (v := ?_) rfl (by as_aux_lemma => kernel_rfl) (by as_aux_lemma => kernel_rfl) (by as_aux_lemma => kernel_rfl) (fun _ _ _ h => h) (Or.inl ⟨by rfl, ?_⟩) (by assumption) ?_
        rotate_left
        · intro w' hSw
          try dsimp only at hSw
          go_simp
          try with_reducible rfl
        try simp only [Act.put, List.setIfInBounds_toArray, List.set_cons_zero, List.set_cons_succ]
        refine wpAnyH_take (i := 9) (oi := { dst := some 97, op := Op.move (Operand.tmp 11), type := 4, pos := "law.go:46", after := #[{ on := 8, ground := Ground.guard }], guard := some (8, true) }) (v := ?_) rfl (by as_aux_lemma => kernel_rfl) (by as_aux_lemma => kernel_rfl) (by as_aux_lemma => kernel_rfl) (fun _ _ _ h => h) (Or.inl ⟨by rfl, ?_⟩) (by assumption) ?_
        rotate_left
        · intro w' hSw
          try dsimp only at hSw
          go_simp
          try with_reducible rfl
        try simp only [Act.put, List.setIfInBounds_toArray, List.set_cons_zero, List.set_cons_succ]
        refine wpAnyH_take (i := 10) (oi := { dst := some 98, op := Op.move (Operand.tmp 14), type := 4, pos := "law.go:46", after := #[{ on := 8, ground := Ground.guard }], guard := some (8, true) }) (v := ?_) rfl (by as_aux_lemma => kernel_rfl) (by as_aux_lemma => kernel_rfl) (by as_aux_lemma => kernel_rfl) (fun _ _ _ h => h) (Or.inl ⟨by rfl, ?_⟩) (by assumption) ?_
        rotate_left
        · intro w' hSw
          try dsimp only at hSw
          go_simp
          try with_reducible rfl
        try simp only [Act.put, List.setIfInBounds_toArray, List.set_cons_zero, List.set_cons_succ]
        refine wpAnyH_take (i := 11) (oi := { dst := some 99, op := Op.binOp BinOp.eql 4 (Operand.tmp 97) (Operand.tmp 98) 4, type := 4, pos := "law.go:46", after := #[{ on := 9, ground := Ground.data }, { on := 10, ground := Ground.data }, { on := 8, ground := Ground.guard }], guard := some (8, true) }) (v := ?_) rfl (by as_aux_lemma => kernel_rfl) (by as_aux_lemma => kernel_rfl) (by as_aux_lemma => kernel_rfl) (fun _ _ _ h => h) (Or.inl ⟨by rfl, ?_⟩) (by assumption) ?_
        rotate_left
        · intro w' hSw
          try dsimp only at hSw
          go_simp
          try with_reducible rfl
        try simp only [Act.put, List.setIfInBounds_toArray, List.set_cons_zero, List.set_cons_succ]
        refine wpAnyH_take (i := 12) (oi := { dst := some 100, op := Op.pick (Operand.tmp 96) (Operand.tmp 99) (Operand.const (Value.bool false)), type := 4, pos := "law.go:46", after := #[{ on := 8, ground := Ground.data }, { on := 11, ground := Ground.data }], guard := none }) (v := ?_) rfl (by as_aux_lemma => kernel_rfl) (by as_aux_lemma => kernel_rfl) (by as_aux_lemma => kernel_rfl) (fun _ _ _ h => h) (Or.inl ⟨by rfl, ?_⟩) (by assumption) ?_
        rotate_left
        · intro w' hSw
          try dsimp only at hSw
          go_simp
          try with_reducible rfl
        try simp only [Act.put, List.setIfInBounds_toArray, List.set_cons_zero, List.set_cons_succ]
        refine wpAnyH_take (i := 13) (oi := { dst := some 101, op := Op.move (Operand.tmp 100), type := 4, pos := "law.go:46", after := #[{ on := 12, ground := Ground.data }, { on := 8, ground := Ground.chain }], guard := none }) (v := ?_) rfl (by as_aux_lemma => kernel_rfl) (by as_aux_lemma => kernel_rfl) (by as_aux_lemma => kernel_rfl) (fun _ _ _ h => h) (Or.inl ⟨by rfl, ?_⟩) (by assumption) ?_
        rotate_left
        · intro w' hSw
          try dsimp only at hSw
          go_simp
          try with_reducible rfl
        try simp only [Act.put, List.setIfInBounds_toArray, List.set_cons_zero, List.set_cons_succ]
        refine wpAnyH_take (i := 14) (oi := { dst := some 102, op := Op.load 33 (Operand.tmp 15), type := 33, pos := "law.go:46", after := #[{ on := 13, ground := Ground.guard }], guard := some (13, true) }) (v := ?_) rfl (by as_aux_lemma => kernel_rfl) (by as_aux_lemma => kernel_rfl) (by as_aux_lemma => kernel_rfl) (fun _ _ _ h => h) (Or.inl ⟨by rfl, ?_⟩) (by assumption) ?_
        rotate_left
        · intro w' hSw
          try dsimp only at hSw
          go_simp
          try with_reducible rfl
        try simp only [Act.put, List.setIfInBounds_toArray, List.set_cons_zero, List.set_cons_succ]
        refine wpAnyH_take (i := 15) (oi := { dst := some 103, op := Op.load 33 (Operand.tmp 17), type := 33, pos := "law.go:46", after := #[{ on := 13, ground := Ground.guard }], guard := some (13, true) }) (v := ?_) rfl (by as_aux_lemma => kernel_rfl) (by as_aux_lemma => kernel_rfl) (by as_aux_lemma => kernel_rfl) (fun _ _ _ h => h) (Or.inl ⟨by rfl, ?_⟩) (by assumption) ?_
        rotate_left
        · intro w' hSw
          try dsimp only at hSw
          go_simp
          try with_reducible rfl
        try simp only [Act.put, List.setIfInBounds_toArray, List.set_cons_zero, List.set_cons_succ]
        refine wpAnyH_take (i := 16) (oi := { dst := some 104, op := Op.binOp BinOp.eql 33 (Operand.tmp 102) (Operand.tmp 103) 33, type := 4, pos := "law.go:46", after := #[{ on := 14, ground := Ground.data }, { on := 15, ground := Ground.data }, { on := 13, ground := Ground.guard }], guard := some (13, true) }) (v := ?_) rfl (by as_aux_lemma => kernel_rfl) (by as_aux_lemma => kernel_rfl) (by as_aux_lemma => kernel_rfl) (fun _ _ _ h => h) (Or.inl ⟨by rfl, ?_⟩) (by assumption) ?_
        rotate_left
        · intro w' hSw
          try dsimp only at hSw
          go_simp
          try with_reducible rfl
        try simp only [Act.put, List.setIfInBounds_toArray, List.set_cons_zero, List.set_cons_succ]
        refine wpAnyH_take (i := 17) (oi := { dst := some 105, op := Op.pick (Operand.tmp 101) (Operand.tmp 104) (Operand.const (Value.bool false)), type := 4, pos := "law.go:46", after := #[{ on := 13, ground := Ground.data }, { on := 16, ground := Ground.data }], guard := none }) (v := ?_) rfl (by as_aux_lemma => kernel_rfl) (by as_aux_lemma => kernel_rfl) (by as_aux_lemma => kernel_rfl) (fun _ _ _ h => h) (Or.inl ⟨by rfl, ?_⟩) (by assumption) ?_
        rotate_left
        · intro w' hSw
          try dsimp only at hSw
          go_simp
          try with_reducible rfl
        try simp only [Act.put, List.setIfInBounds_toArray, List.set_cons_zero, List.set_cons_succ]
        refine wpAnyH_take (i := 18) (oi := { dst := some 106, op := Op.move (Operand.tmp 105), type := 4, pos := "law.go:46", after := #[{ on := 17, ground := Ground.data }, { on := 13, ground := Ground.chain }], guard := none }) (v := ?_) rfl (by as_aux_lemma => kernel_rfl) (by as_aux_lemma => kernel_rfl) (by as_aux_lemma => kernel_rfl) (fun _ _ _ h => h) (Or.inl ⟨by rfl, ?_⟩) (by assumption) ?_
        rotate_left
        · intro w' hSw
          try dsimp only at hSw
          go_simp
          try with_reducible rfl
        try simp only [Act.put, List.setIfInBounds_toArray, List.set_cons_zero, List.set_cons_succ]
        refine wpAnyH_take (i := 19) (oi := { dst := some 107, op := Op.move (Operand.tmp 16), type := 4, pos := "law.go:46", after := #[{ on := 18, ground := Ground.guard }], guard := some (18, true) }) (v := ?_) rfl (by as_aux_lemma => kernel_rfl) (by as_aux_lemma => kernel_rfl) (by as_aux_lemma => kernel_rfl) (fun _ _ _ h => h) (Or.inl ⟨by rfl, ?_⟩) (by assumption) ?_
        rotate_left
        · intro w' hSw
          try dsimp only at hSw
          go_simp
          try with_reducible rfl
        try simp only [Act.put, List.setIfInBounds_toArray, List.set_cons_zero, List.set_cons_succ]
        refine wpAnyH_take (i := 20) (oi := { dst := some 108, op := Op.move (Operand.tmp 18), type := 4, pos := "law.go:46", after := #[{ on := 18, ground := Ground.guard }], guard := some (18, true) }) (v := ?_) rfl (by as_aux_lemma => kernel_rfl) (by as_aux_lemma => kernel_rfl) (by as_aux_lemma => kernel_rfl) (fun _ _ _ h => h) (Or.inl ⟨by rfl, ?_⟩) (by assumption) ?_
        rotate_left
        · intro w' hSw
          try dsimp only at hSw
          go_simp
          try with_reducible rfl
        try simp only [Act.put, List.setIfInBounds_toArray, List.set_cons_zero, List.set_cons_succ]
        refine wpAnyH_take (i := 21) (oi := { dst := some 109, op := Op.binOp BinOp.eql 4 (Operand.tmp 107) (Operand.tmp 108) 4, type := 4, pos := "law.go:46", after := #[{ on := 19, ground := Ground.data }, { on := 20, ground := Ground.data }, { on := 18, ground := Ground.guard }], guard := some (18, true) }) (v := ?_) rfl (by as_aux_lemma => kernel_rfl) (by as_aux_lemma => kernel_rfl) (by as_aux_lemma => kernel_rfl) (fun _ _ _ h => h) (Or.inl ⟨by rfl, ?_⟩) (by assumption) ?_
        rotate_left
        · intro w' hSw
          try dsimp only at hSw
          go_simp
          try with_reducible rfl
        try simp only [Act.put, List.setIfInBounds_toArray, List.set_cons_zero, List.set_cons_succ]
        refine wpAnyH_take (i := 22) (oi := { dst := some 110, op := Op.pick (Operand.tmp 106) (Operand.tmp 109) (Operand.const (Value.bool false)), type := 4, pos := "law.go:46", after := #[{ on := 18, ground := Ground.data }, { on := 21, ground := Ground.data }], guard := none }) (v := ?_) rfl (by as_aux_lemma => kernel_rfl) (by as_aux_lemma => kernel_rfl) (by as_aux_lemma => kernel_rfl) (fun _ _ _ h => h) (Or.inl ⟨by rfl, ?_⟩) (by assumption) ?_
        rotate_left
        · intro w' hSw
          try dsimp only at hSw
          go_simp
          try with_reducible rfl
        try simp only [Act.put, List.setIfInBounds_toArray, List.set_cons_zero, List.set_cons_succ]
        refine wpAnyH_take (i := 23) (oi := { dst := some 111, op := Op.move (Operand.tmp 110), type := 4, pos := "law.go:46", after := #[{ on := 22, ground := Ground.data }, { on := 18, ground := Ground.chain }], guard := none }) (v := ?_) rfl (by as_aux_lemma => kernel_rfl) (by as_aux_lemma => kernel_rfl) (by as_aux_lemma => kernel_rfl) (fun _ _ _ h => h) (Or.inl ⟨by rfl, ?_⟩) (by assumption) ?_
        rotate_left
        · intro w' hSw
          try dsimp only at hSw
          go_simp
          try with_reducible rfl
        try simp only [Act.put, List.setIfInBounds_toArray, List.set_cons_zero, List.set_cons_succ]
        refine wpAnyH_take (i := 24) (oi := { dst := some 112, op := Op.load 24 (Operand.tmp 3), type := 24, pos := "law.go:46", after := #[{ on := 23, ground := Ground.guard }], guard := some (23, true) }) (v := ?_) rfl (by as_aux_lemma => kernel_rfl) (by as_aux_lemma => kernel_rfl) (by as_aux_lemma => kernel_rfl) (fun _ _ _ h => h) (Or.inl ⟨by rfl, ?_⟩) (by assumption) ?_
        rotate_left
        · intro w' hSw
          try dsimp only at hSw
          go_simp
          try with_reducible rfl
        try simp only [Act.put, List.setIfInBounds_toArray, List.set_cons_zero, List.set_cons_succ]
        refine wpAnyH_take (i := 26) (oi := { dst := some 114, op := Op.load 24 (Operand.tmp 3), type := 24, pos := "law.go:46", after := #[{ on := 23, ground := Ground.guard }], guard := some (23, true) }) (v := ?_) rfl (by as_aux_lemma => kernel_rfl) (by as_aux_lemma => kernel_rfl) (by as_aux_lemma => kernel_rfl) (fun _ _ _ h => h) (Or.inl ⟨by rfl, ?_⟩) (by assumption) ?_
        rotate_left
        · intro w' hSw
          try dsimp only at hSw
          go_simp
          try with_reducible rfl
        try simp only [Act.put, List.setIfInBounds_toArray, List.set_cons_zero, List.set_cons_succ]
        refine wpAnyH_ready (rs := [25]) (by as_aux_lemma => kernel_rfl) (by simp) ?_
        refine AllReadyH.cons (o := { dst := some 113, op := Op.call { callee := Callee.value (Operand.func 21), args := #[Operand.tmp 112], argTypes := #[24] }, type := 4, pos := "law.go:46", after := #[{ on := 24, ground := Ground.data }, { on := 23, ground := Ground.chain }, { on := 23, ground := Ground.guard }], guard := some (23, true) }) rfl (fun Kx hK => ?_) AllReadyH.nil
        go_simp
        refine (quempty_any V.out la HE).mono ?_
        rintro e z2 ⟨rfl, bz2⟩
        have K2 := Lib.hid (below2Z K1.out bz2)
        have D2 := Lib.hid (heldB_up K2.out D0.out)
        replace V := Lib.hid (Chgs.later V.out bz2)
        replace T := Lib.hid (Tab.later T.out bz2)
        replace U1 := Lib.hid (Chgs.later U1.out bz2)
        replace U2 := Lib.hid (Chgs.later U2.out bz2)
        clear bz2
        go_wp2_with fail
        refine hK.out _ _ ?_ (fun hHeld2 => ?_)
        · exact D2.out
        clear hK Kx hHeld
        have hHeld := hHeld2
        clear hHeld2
        try simp only [Act.put, List.setIfInBounds_toArray, List.set_cons_zero, List.set_cons_succ]
        refine wpAnyH_ready (rs := [27]) (by as_aux_lemma => kernel_rfl) (by simp) ?_
        refine AllReadyH.cons (o := { dst := some 115, op := Op.call { callee := Callee.value (Operand.func 22), args := #[Operand.tmp 114], argTypes := #[24] }, type := 4, pos := "law.go:46", after := #[{ on := 26, ground := Ground.data }, { on := 25, ground := Ground.chain }, { on := 23, ground := Ground.guard }], guard := some (23, true) }) rfl (fun Kx hK => ?_) AllReadyH.nil
        go_simp
        refine (rquempty_any V.out la HE).mono ?_
        rintro e z3 ⟨rfl, bz3⟩
        have K3 := Lib.hid (below2Z K2.out bz3)
        have D3 := Lib.hid (heldB_up K3.out D0.out)
        replace V := Lib.hid (Chgs.later V.out bz3)
        replace T := Lib.hid (Tab.later T.out bz3)
        replace U1 := Lib.hid (Chgs.later U1.out bz3)
        replace U2 := Lib.hid (Chgs.later U2.out bz3)
        clear bz3
        go_wp2_with fail
        refine hK.out _ _ ?_ (fun hHeld2 => ?_)
        · exact D3.out
        clear hK Kx hHeld
        have hHeld := hHeld2
        clear hHeld2
        try simp only [Act.put, List.setIfInBounds_toArray, List.set_cons_zero, List.set_cons_succ]
        refine wpAnyH_take (i := 28) (oi := { dst := some 116, op := Op.binOp BinOp.eql 4 (Operand.tmp 113) (Operand.tmp 115) 4, type := 4, pos := "law.go:46", after := #[{ on := 25, ground := Ground.data }, { on := 27, ground := Ground.data }, { on := 23, ground := Ground.guard }], guard := some (23, true) }) (v := ?_) rfl (by as_aux_lemma => kernel_rfl) (by as_aux_lemma => kernel_rfl) (by as_aux_lemma => kernel_rfl) (fun _ _ _ h => h) (Or.inl ⟨by rfl, ?_⟩) (by assumption) ?_
        rotate_left
        · intro w' hSw
          try dsimp only at hSw
          go_simp
          try with_reducible rfl
        try simp only [Act.put, List.setIfInBounds_toArray, List.set_cons_zero, List.set_cons_succ]
        refine wpAnyH_take (i := 29) (oi := { dst := some 117, op := Op.pick (Operand.tmp 111) (Operand.tmp 116) (Operand.const (Value.bool false)), type := 4, pos := "law.go:46", after := #[{ on := 23, ground := Ground.data }, { on := 28, ground := Ground.data }], guard := none }) (v := ?_) rfl (by as_aux_lemma => kernel_rfl) (by as_aux_lemma => kernel_rfl) (by as_aux_lemma => kernel_rfl) (fun _ _ _ h => h) (Or.inl ⟨by rfl, ?_⟩) (by assumption) ?_
        rotate_left
        · intro w' hSw
          try dsimp only at hSw
          go_simp
          try with_reducible rfl
        try simp only [Act.put, List.setIfInBounds_toArray, List.set_cons_zero, List.set_cons_succ]
        refine wpAnyH_take (i := 30) (oi := { dst := some 118, op := Op.move (Operand.tmp 117), type := 4, pos := "law.go:46", after := #[{ on := 29, ground := Ground.data }, { on := 27, ground := Ground.chain }], guard := none }) (v := ?_) rfl (by as_aux_lemma => kernel_rfl) (by as_aux_lemma => kernel_rfl) (by as_aux_lemma => kernel_rfl) (fun _ _ _ h => h) (Or.inl ⟨by rfl, ?_⟩) (by assumption) ?_
        rotate_left
        · intro w' hSw
          try dsimp only at hSw
          go_simp
          try with_reducible rfl
        try simp only [Act.put, List.setIfInBounds_toArray, List.set_cons_zero, List.set_cons_succ]
        refine wpAnyH_take (i := 31) (oi := { dst := some 119, op := Op.move (Operand.tmp 1), type := 25, pos := "law.go:46", after := #[{ on := 30, ground := Ground.guard }], guard := some (30, true) }) (v := ?_) rfl (by as_aux_lemma => kernel_rfl) (by as_aux_lemma => kernel_rfl) (by as_aux_lemma => kernel_rfl) (fun _ _ _ h => h) (Or.inl ⟨by rfl, ?_⟩) (by assumption) ?_
        rotate_left
        · intro w' hSw
          try dsimp only at hSw
          go_simp
          try with_reducible rfl
        try simp only [Act.put, List.setIfInBounds_toArray, List.set_cons_zero, List.set_cons_succ]
        refine wpAnyH_take (i := 32) (oi := { dst := some 120, op := Op.load 24 (Operand.tmp 3), type := 24, pos := "law.go:46", after := #[{ on := 30, ground := Ground.guard }], guard := some (30, true) }) (v := ?_) rfl (by as_aux_lemma => kernel_rfl) (by as_aux_lemma => kernel_rfl) (by as_aux_lemma => kernel_rfl) (fun _ _ _ h => h) (Or.inl ⟨by rfl, ?_⟩) (by assumption) ?_
        rotate_left
        · intro w' hSw
          try dsimp only at hSw
          go_simp
          try with_reducible rfl
        try simp only [Act.put, List.setIfInBounds_toArray, List.set_cons_zero, List.set_cons_succ]
        refine wpAnyH_take (i := 34) (oi := { dst := some 122, op := Op.move (Operand.tmp 1), type := 25, pos := "law.go:46", after := #[{ on := 30, ground := Ground.guard }], guard := some (30, true) }) (v := ?_) rfl (by as_aux_lemma => kernel_rfl) (by as_aux_lemma => kernel_rfl) (by as_aux_lemma => kernel_rfl) (fun _ _ _ h => h) (Or.inl ⟨by rfl, ?_⟩) (by assumption) ?_
        rotate_left
        · intro w' hSw
          try dsimp only at hSw
          go_simp
          try with_reducible rfl
        try simp only [Act.put, List.setIfInBounds_toArray, List.set_cons_zero, List.set_cons_succ]
        refine wpAnyH_take (i := 35) (oi := { dst := some 123, op := Op.load 24 (Operand.tmp 3), type := 24, pos := "law.go:46", after := #[{ on := 30, ground := Ground.guard }], guard := some (30, true) }) (v := ?_) rfl (by as_aux_lemma => kernel_rfl) (by as_aux_lemma => kernel_rfl) (by as_aux_lemma => kernel_rfl) (fun _ _ _ h => h) (Or.inl ⟨by rfl, ?_⟩) (by assumption) ?_
        rotate_left
        · intro w' hSw
          try dsimp only at hSw
          go_simp
          try with_reducible rfl
        try simp only [Act.put, List.setIfInBounds_toArray, List.set_cons_zero, List.set_cons_succ]
        refine wpAnyH_ready (rs := [33]) (by as_aux_lemma => kernel_rfl) (by simp) ?_
        refine AllReadyH.cons (o := { dst := some 121, op := Op.call { callee := Callee.value (Operand.func 24), args := #[Operand.tmp 119, Operand.tmp 120], argTypes := #[25, 24] }, type := 25, pos := "law.go:46", after := #[{ on := 31, ground := Ground.data }, { on := 32, ground := Ground.data }, { on := 30, ground := Ground.chain }, { on := 30, ground := Ground.guard }], guard := some (30, true) }) rfl (fun Kx hK => ?_) AllReadyH.nil
        go_simp
        refine (quover_any T.out (by have := ht40.out; omega) V.out (by omega) la).mono ?_
        rintro e z4 ⟨x1, rfl, hx1, bz4⟩
        have K4 := Lib.hid (below2Z K3.out bz4)
        have D4 := Lib.hid (heldB_up K4.out D0.out)
        replace V := Lib.hid (Chgs.later V.out bz4)
        replace T := Lib.hid (Tab.later T.out bz4)
        replace U1 := Lib.hid (Chgs.later U1.out bz4)
        replace U2 := Lib.hid (Chgs.later U2.out bz4)
        obtain ⟨xa1, xc1, rfl, -⟩ := hx1.open'
        have X1 := Lib.hid hx1
        clear hx1
        clear bz4
        go_wp2_with fail
        refine hK.out _ _ ?_ (fun hHeld2 => ?_)
        · exact D4.out
        clear hK Kx hHeld
        have hHeld := hHeld2
        clear hHeld2
        try simp only [Act.put, List.setIfInBounds_toArray, List.set_cons_zero, List.set_cons_succ]
        refine wpAnyH_ready (rs := [36]) (by as_aux_lemma => kernel_rfl) (by simp) ?_
        refine AllReadyH.cons (o := { dst := some 124, op := Op.call { callee := Callee.value (Operand.func 25), args := #[Operand.tmp 122, Operand.tmp 123], argTypes := #[25, 24] }, type := 25, pos := "law.go:46", after := #[{ on := 34, ground := Ground.data }, { on := 35, ground := Ground.data }, { on := 33, ground := Ground.chain }, { on := 30, ground := Ground.guard }], guard := some (30, true) }) rfl (fun Kx hK => ?_) AllReadyH.nil
        go_simp
        refine (rquover_any T.out (by have := ht40.out; omega) V.out (by omega) la).mono ?_
        rintro e z5 ⟨x2, rfl, hx2, bz5⟩
        have K5 := Lib.hid (below2Z K4.out bz5)
        have D5 := Lib.hid (heldB_up K5.out D0.out)
        replace V := Lib.hid (Chgs.later V.out bz5)
        replace T := Lib.hid (Tab.later T.out bz5)
        replace U1 := Lib.hid (Chgs.later U1.out bz5)
        replace U2 := Lib.hid (Chgs.later U2.out bz5)
        replace X1 := Lib.hid (Tab.later X1.out bz5)
        obtain ⟨xa2, xc2, rfl, -⟩ := hx2.open'
        have X2 := Lib.hid hx2
        clear hx2
        clear bz5
        go_wp2_with fail
        refine hK.out _ _ ?_ (fun hHeld2 => ?_)
        · exact D5.out
        clear hK Kx hHeld
        have hHeld := hHeld2
        clear hHeld2
        try simp only [Act.put, List.setIfInBounds_toArray, List.set_cons_zero, List.set_cons_succ]
        refine wpAnyH_ready (rs := [37]) (by as_aux_lemma => kernel_rfl) (by simp) ?_
        refine AllReadyH.cons (o := { dst := some 125, op := Op.call { callee := Callee.value (Operand.func 23), args := #[Operand.tmp 121, Operand.tmp 124], argTypes := #[25, 25] }, type := 4, pos := "law.go:46", after := #[{ on := 33, ground := Ground.data }, { on := 36, ground := Ground.data }, { on := 36, ground := Ground.chain }, { on := 30, ground := Ground.guard }], guard := some (30, true) }) rfl (fun Kx hK => ?_) AllReadyH.nil
        go_simp
        refine (tsame_eq X1.out X2.out (Lib.hid (tSame_iff.2 rfl))).mono ?_
        rintro e z6 ⟨rfl, bz6⟩
        have K6 := Lib.hid (below2Z K5.out bz6)
        have D6 := Lib.hid (heldB_up K6.out D0.out)
        replace V := Lib.hid (Chgs.later V.out bz6)
        replace T := Lib.hid (Tab.later T.out bz6)
        replace U1 := Lib.hid (Chgs.later U1.out bz6)
        replace U2 := Lib.hid (Chgs.later U2.out bz6)
        replace X1 := Lib.hid (Tab.later X1.out bz6)
        replace X2 := Lib.hid (Tab.later X2.out bz6)
        clear bz6
        go_wp2_with fail
        refine hK.out _ _ ?_ (fun hHeld2 => ?_)
        · exact D6.out
        clear hK Kx hHeld
        have hHeld := hHeld2
        clear hHeld2
        try simp only [Act.put, List.setIfInBounds_toArray, List.set_cons_zero, List.set_cons_succ]
        refine wpAnyH_take (i := 38) (oi := { dst := some 126, op := Op.pick (Operand.tmp 118) (Operand.tmp 125) (Operand.const (Value.bool false)), type := 4, pos := "law.go:46", after := #[{ on := 30, ground := Ground.data }, { on := 37, ground := Ground.data }], guard := none }) (v := ?_) rfl (by as_aux_lemma => kernel_rfl) (by as_aux_lemma => kernel_rfl) (by as_aux_lemma => kernel_rfl) (fun _ _ _ h => h) (Or.inl ⟨by rfl, ?_⟩) (by assumption) ?_
        rotate_left
        · intro w' hSw
          try dsimp only at hSw
          go_simp
          try with_reducible rfl
        try simp only [Act.put, List.setIfInBounds_toArray, List.set_cons_zero, List.set_cons_succ]
        refine wpAnyH_take (i := 39) (oi := { dst := some 127, op := Op.move (Operand.tmp 126), type := 4, pos := "law.go:46", after := #[{ on := 38, ground := Ground.data }, { on := 37, ground := Ground.chain }], guard := none }) (v := ?_) rfl (by as_aux_lemma => kernel_rfl) (by as_aux_lemma => kernel_rfl) (by as_aux_lemma => kernel_rfl) (fun _ _ _ h => h) (Or.inl ⟨by rfl, ?_⟩) (by assumption) ?_
        rotate_left
        · intro w' hSw
          try dsimp only at hSw
          go_simp
          try with_reducible rfl
        try simp only [Act.put, List.setIfInBounds_toArray, List.set_cons_zero, List.set_cons_succ]
        refine wpAnyH_ready (rs := [40]) (by as_aux_lemma => kernel_rfl) (by simp) ?_
        refine AllReadyH.cons (o := { dst := some 128, op := Op.call { callee := Callee.value (Operand.func 11), args := #[], argTypes := #[] }, type := 4, pos := "law.go:46", after := #[{ on := 39, ground := Ground.chain }, { on := 39, ground := Ground.guard }], guard := some (39, true) }) rfl (fun Kx hK => ?_) AllReadyH.nil
        go_simp
        refine (live17 _).mono ?_
        rintro e z7 ⟨rfl, bz7⟩
        have K7 := Lib.hid (below2Z K6.out bz7)
        have D7 := Lib.hid (heldB_up K7.out D0.out)
        replace V := Lib.hid (Chgs.later V.out bz7)
        replace T := Lib.hid (Tab.later T.out bz7)
        replace U1 := Lib.hid (Chgs.later U1.out bz7)
        replace U2 := Lib.hid (Chgs.later U2.out bz7)
        replace X1 := Lib.hid (Tab.later X1.out bz7)
        replace X2 := Lib.hid (Tab.later X2.out bz7)
        clear bz7
        go_wp2_with fail
        refine hK.out _ _ ?_ (fun hHeld2 => ?_)
        · exact D7.out
        clear hK Kx hHeld
        have hHeld := hHeld2
        clear hHeld2
        try simp only [Act.put, List.setIfInBounds_toArray, List.set_cons_zero, List.set_cons_succ]
        refine wpAnyH_take (i := 41) (oi := { dst := some 129, op := Op.pick (Operand.tmp 127) (Operand.tmp 128) (Operand.const (Value.bool false)), type := 4, pos := "law.go:46", after := #[{ on := 39, ground := Ground.data }, { on := 40, ground := Ground.data }], guard := none }) (v := ?_) rfl (by as_aux_lemma => kernel_rfl) (by as_aux_lemma => kernel_rfl) (by as_aux_lemma => kernel_rfl) (fun _ _ _ h => h) (Or.inl ⟨by rfl, ?_⟩) (by assumption) ?_
        rotate_left
        · intro w' hSw
          try dsimp only at hSw
          go_simp
          try with_reducible rfl
        try simp only [Act.put, List.setIfInBounds_toArray, List.set_cons_zero, List.set_cons_succ]
        refine wpAnyH_take (i := 42) (oi := { dst := some 6, op := Op.assign (Operand.tmp 129), type := 4, pos := "law.go:46", after := #[{ on := 41, ground := Ground.data }, { on := 40, ground := Ground.chain }, { on := 0, ground := Ground.phase }, { on := 1, ground := Ground.phase }, { on := 2, ground := Ground.phase }, { on := 3, ground := Ground.phase }, { on := 4, ground := Ground.phase }, { on := 5, ground := Ground.phase }, { on := 6, ground := Ground.phase }, { on := 7, ground := Ground.phase }, { on := 8, ground := Ground.phase }, { on := 9, ground := Ground.phase }, { on := 10, ground := Ground.phase }, { on := 11, ground := Ground.phase }, { on := 12, ground := Ground.phase }, { on := 13, ground := Ground.phase }, { on := 14, ground := Ground.phase }, { on := 15, ground := Ground.phase }, { on := 16, ground := Ground.phase }, { on := 17, ground := Ground.phase }, { on := 18, ground := Ground.phase }, { on := 19, ground := Ground.phase }, { on := 20, ground := Ground.phase }, { on := 21, ground := Ground.phase }, { on := 22, ground := Ground.phase }, { on := 23, ground := Ground.phase }, { on := 24, ground := Ground.phase }, { on := 25, ground := Ground.phase }, { on := 26, ground := Ground.phase }, { on := 27, ground := Ground.phase }, { on := 28, ground := Ground.phase }, { on := 29, ground := Ground.phase }, { on := 30, ground := Ground.phase }, { on := 31, ground := Ground.phase }, { on := 32, ground := Ground.phase }, { on := 33, ground := Ground.phase }, { on := 34, ground := Ground.phase }, { on := 35, ground := Ground.phase }, { on := 36, ground := Ground.phase }, { on := 37, ground := Ground.phase }, { on := 38, ground := Ground.phase }, { on := 39, ground := Ground.phase }, { on := 40, ground := Ground.phase }, { on := 41, ground := Ground.phase }], guard := none }) (v := ?_) rfl (by as_aux_lemma => kernel_rfl) (by as_aux_lemma => kernel_rfl) (by as_aux_lemma => kernel_rfl) (fun _ _ _ h => h) (Or.inl ⟨by rfl, ?_⟩) (by assumption) ?_
        rotate_left
        · intro w' hSw
          try dsimp only at hSw
          go_simp
          try with_reducible rfl
        try simp only [Act.put, List.setIfInBounds_toArray, List.set_cons_zero, List.set_cons_succ]
        refine wpAnyH_done (by kernel_rfl) ?_ _
        replace HB := Lib.hid (below2Z HB.out K7.out)
        go_wp2_with fail
        go_ret
        exact ⟨rfl, HB.out⟩

theorem walkQueueTells {w : World} {v vt : Value} {q : Que} {t : List Row} (hv : Chgs w v q.l) (ht : Tab w vt t) (key : List UInt8) (_ : key.length ≤ maxLen) :
    Calls Try.prog 3 #[.agg #[v, .bool q.la], vt, .string ⟨key.toArray⟩] w fun e w' => e = .returned (.bool true) ∧ Below w.heap.size w w' := by
  obtain ⟨l, la⟩ := q
  cases hs : fewC l 30 with
  | false => exact qtl_1 hv la ht key hs
  | true =>
    cases hf : fewT t with
    | false => exact qtl_2 hv la ht key hs hf
    | true =>
      by_cases hk : 60 < key.length
      · exact qtl_3 hv la ht key hs hf hk
      · exact qtl_4 hv la ht key hs hf hk

end Go.Proofs.Ythlkfbiclhgdoaa

end

section

/-
  THE FRAME OF THE PROOF OF QueueTells: for every input the law returns true, and each argument reads behind the call as it read before. No condition.
-/
namespace Go.Proofs.Ythlkfbiclhgdoaa.queueTells
open Go.ChangeShapes Go.WideShapes Go.ChangeAt Go.RowKit
open Go.ChangeMaps (open_string shut_string)
set_option linter.unusedVariables false

theorem own : ownKnob Try.prog.godebug = none := by kernel_rfl
theorem laidOut : laidOutB Try.prog = true := by kernel_rfl

set_option maxRecDepth 100000 in
theorem lifted (os : Os) (started : os.Started) (H : Type) (enc : TypeId × Value → H) :
    ReturnsInHanded {} Try.checked os 3 .any (Rows.queueTellsSpec.pre6 enc Try.prog Try.f3 Rows.queueTellsRow.domain false) (Rows.queueTellsSpec.post enc Try.prog Try.f3 false true false false) := by
  refine returnsInHanded_of_change (C := Try.checked) own started (by kernel_rfl) Try.func3
    (ChangeSpec.witness6 (enc := enc) (C := Try.checked) false ⟨#[], #[.agg #[.slice none 0 0, .bool false], .slice none 0 0, .string ByteArray.empty], []⟩ 8 (by kernel_rfl) (by kernel_rfl) (by kernel_rfl) (by kernel_rfl)) ?_
  intro W base args ds gs before hval0 hW hcnd _
  have hval : ∀ (j : Nat) t v, Try.f3.params[j]? = some t → args[j]? = some v → Value.okWide Try.prog W .any base t v := hval0
  have hW' := hW
  obtain ⟨p, q, hA0, hV, rfl, hfz, hnd⟩ := hW
  have hA : DataW.TrodAll enc Try.prog W 0 (fun _ => true) true Try.f3.params.toList args.toList ds p := hA0
  rw [Try.params3] at hA hval
  obtain ⟨v0, vs0, d0, ds0, p0, q0, hargs, rfl, rfl, h0, r0⟩ := trodAll_cons hA
  obtain ⟨v1, vs1, d1, ds1, p1, q1, rfl, rfl, rfl, h1, r1⟩ := trodAll_cons r0
  obtain ⟨v2, vs2, d2, ds2, p2, q2, rfl, rfl, rfl, h2, r2⟩ := trodAll_cons r1
  obtain ⟨rfl, rfl, rfl⟩ := trodAll_nil r2
  obtain rfl : args = #[v0, v1, v2] := by cases args; simp_all
  obtain ⟨rfl, rfl⟩ := trodVars_none hV
  have k0 := h0
  have lt0 : ∀ x ∈ p0, x.block < W.heap.size := by obtain ⟨m, hm⟩ := k0; exact DataW.trod_lt m _ _ _ hm
  obtain ⟨x0, a0, rfl, w0⟩ := open_que (hval 0 24 v0 rfl rfl) h0
  have k1 := h1
  have lt1 : ∀ x ∈ p1, x.block < W.heap.size := by obtain ⟨m, hm⟩ := k1; exact DataW.trod_lt m _ _ _ hm
  obtain ⟨l1, w1, f1⟩ := open_tab (hval 1 25 v1 rfl rfl) h1
  have k2 := h2
  have lt2 : ∀ x ∈ p2, x.block < W.heap.size := by obtain ⟨m, hm⟩ := k2; exact DataW.trod_lt m _ _ _ hm
  obtain ⟨s2, rfl, hd2, hp2, w2⟩ := open_string Try.underlying9 (hval 2 9 v2 rfl rfl) h2
  obtain ⟨a2, e2⟩ : ∃ l : List UInt8, s2 = ⟨l.toArray⟩ := ⟨s2.data.toList, by cases s2; simp⟩
  subst e2
  have w2 : a2.length ≤ maxLen := by rw [← size_bytes]; exact w2
  clear hA0 hval0
  refine (walkQueueTells (w := W) w0 w1 a2 w2).mono fun e W' ⟨he, bel⟩ => ?_
  subst he
  exact ⟨_, rfl, _, _, _, [], _, [], hW', trodAll_mk1 (shut_bool Try.underlying4 _), (trodAll_cons_mk (Below.trod laidOut (by kernel_rfl) (of_decide_eq_true (by kernel_rfl)) k0 bel lt0) (trodAll_cons_mk (Below.trod laidOut (by kernel_rfl) (of_decide_eq_true (by kernel_rfl)) k1 bel lt1) (trodAll_cons_mk (Below.trod laidOut (by kernel_rfl) (of_decide_eq_true (by kernel_rfl)) k2 bel lt2) trodAll_mk0))), rfl, bel.frame _, fun h => by cases h⟩

theorem over : Rows.queueTellsRow.holds Try.pinned (OpenSpec.ofChange Rows.queueTellsSpec) :=
  OpenClaim.holds_of_wide 3 Try.f3 rfl rfl rfl rfl rfl rfl rfl ⟨rfl, rfl, rfl, rfl, rfl⟩ rfl rfl rfl rfl rfl (by kernel_rfl) Try.func3 (by kernel_rfl)
    (of_decide_eq_true (by kernel_rfl)) (by unfold Func.isWrapper; first | (rw [if_pos (by decide +kernel)]; kernel_rfl) | (rw [if_neg (by decide +kernel)]; exact ⟨rfl, rfl⟩))
    (fun os started H enc _ => lifted os started H enc)

/-- THE STATEMENT. -/
theorem proved : Rows.QueueTellsSaid := over
#print axioms proved
end Go.Proofs.Ythlkfbiclhgdoaa.queueTells

end
