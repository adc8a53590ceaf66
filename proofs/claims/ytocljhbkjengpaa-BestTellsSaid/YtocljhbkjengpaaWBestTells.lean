/-
  THE WALK OF BestTells.
-/
import Derived.Test.YtocljhbkjengpaaBesBoth
namespace Go.Proofs.Ytocljhbkjengpaa
open Go.RowKit

set_option maxHeartbeats 6400000 in
set_option maxRecDepth 100000 in
theorem btells_few {w : World} {v : Value} {l : List Ses} (hv : Sess w v l) (hf : ∀ s ∈ l, SesFit s) (hw : fewSes l = true) (p p' : List UInt8) (x y z x' y' z' : Int) (ha : ValFit ⟨x, y, z, p⟩) (hb : ValFit ⟨x', y', z', p'⟩) (h1 : p.length ≤ 60) (h2 : p'.length ≤ 60) :
    Calls Try.prog 4 #[v, .agg #[.int .i64 x, .int .i64 y, .int .i64 z, .string ⟨p.toArray⟩], .agg #[.int .i64 x', .int .i64 y', .int .i64 z', .string ⟨p'.toArray⟩]] w fun e w' => e = .returned (.bool true) ∧ Below w.heap.size w w' := by
  have hW2 := (show Below w.heap.size w ((w.alloc (.cells #[.int .i64 x, .int .i64 y, .int .i64 z, .string ⟨p.toArray⟩] 50)).alloc (.cells #[.int .i64 x', .int .i64 y', .int .i64 z', .string ⟨p'.toArray⟩] 50)) from ((Below.refl _ _).alloc (Nat.le_refl _) _).alloc (by simp) _)
  have HFw := Lib.hid (few09_eq (hv.later hW2) hw)
  have HV := Lib.hid (hv.later hW2)
  have HA := Lib.hid ((cellsAt_made (w := w) (cs := #[.int .i64 x, .int .i64 y, .int .i64 z, .string ⟨p.toArray⟩]) (vs := [.int .i64 x, .int .i64 y, .int .i64 z, .string ⟨p.toArray⟩]) rfl 50 rfl).later (bl_newZ _ (.cells #[.int .i64 x', .int .i64 y', .int .i64 z', .string ⟨p'.toArray⟩] 50)))
  have HB := Lib.hid (cellsAt_made (w := w.alloc (.cells #[.int .i64 x, .int .i64 y, .int .i64 z, .string ⟨p.toArray⟩] 50)) (cs := #[.int .i64 x', .int .i64 y', .int .i64 z', .string ⟨p'.toArray⟩]) (vs := [.int .i64 x', .int .i64 y', .int .i64 z', .string ⟨p'.toArray⟩]) rfl 50 (B := w.heap.size + 1) (by simp))
  have BB := Lib.hid hW2
  have HF := Lib.hid hf
  obtain ⟨⟨n, i, ⟨a, b, c, st⟩⟩, hs⟩ : ∃ s, bestB l = s := ⟨_, rfl⟩
  obtain ⟨⟨a', b', c', st'⟩, ht⟩ : ∃ s, valB l = s := ⟨_, rfl⟩
  obtain ⟨q, hq⟩ : ∃ q, someB l = q := ⟨_, rfl⟩
  obtain ⟨r, hr⟩ : ∃ r, worth ⟨x, y, z, p⟩ ⟨x', y', z', p'⟩ = r := ⟨_, rfl⟩
  have HS := Lib.hid hs
  have HT := Lib.hid ht
  have HQ := Lib.hid hq
  have HWo := Lib.hid (bworth_eq x y z x' y' z' p p' ha.sh ha.pr hb.sh hb.pr hr)
  have HWr := Lib.hid (rbworth_eq x y z x' y' z' p p' hr)
  have hl50 := (few_get hw).1
  have t1 : decide (60 < (p.length : Int)) = false := by simp; omega
  have t2 : decide (60 < (p'.length : Int)) = false := by simp; omega
  have e1 : ∀ w, (binOp .eql 54 (.agg #[.string ⟨n.toArray⟩, .int .i64 i, .int .i64 a, .int .i64 b, .int .i64 c, .string ⟨st.toArray⟩]) (.agg #[.string ⟨n.toArray⟩, .int .i64 i, .int .i64 a, .int .i64 b, .int .i64 c, .string ⟨st.toArray⟩])).run Try.prog w = .ok (.bool true) w := fun w => by rw [ses_eql, sesSame_self]
  have e2 : ∀ w, (binOp .eql 50 (.agg #[.int .i64 a', .int .i64 b', .int .i64 c', .string ⟨st'.toArray⟩]) (.agg #[.int .i64 a', .int .i64 b', .int .i64 c', .string ⟨st'.toArray⟩])).run Try.prog w = .ok (.bool true) w := fun w => by rw [val_eql, valSame_iff.2 rfl]
  obtain ⟨ao, cap, rfl, hm⟩ := hv.open'
  clear hv hf hs ht hq hr hW2 ha hb h1 h2 hw
  go_enter Try.func4, Try.ntmps4
  go_wp2_with fail
  refine HFw.out.mono ?_
  rintro e w2 ⟨rfl, rfl⟩
  clear HFw
  go_wp2_with fail
  generalize (w.alloc (.cells #[.int .i64 x, .int .i64 y, .int .i64 z, .string ⟨p.toArray⟩] 50)).alloc (.cells #[.int .i64 x', .int .i64 y', .int .i64 z', .string ⟨p'.toArray⟩] 50) = W0 at HV HA HB BB ⊢
  go_loopw [7] (fun t wr => ∃ k : Nat, k ≤ l.length ∧ t = .int .i64 k ∧ Hid (Below W0.heap.size W0 wr)) (fun t _ => l.length - (intOf t).toNat)
  case atStart => exact ⟨0, by omega, rfl, Below.refl _ _⟩
  case round =>
    obtain ⟨k, hk, rfl, HN⟩ := hrel
    by_cases hlt : k < l.length
    · obtain ⟨bd, od, rfl, hc⟩ := HV.out.row HN.out k hlt
      rw [show l.getD k Ses.zero = sat l k from rfl] at hc
      obtain ⟨⟨xn, xi, ⟨xa, xb, xc, xs⟩⟩, hx⟩ : ∃ s, sat l k = s := ⟨_, rfl⟩
      rw [hx] at hc
      obtain ⟨p0, p1, p2, p3, p4, p5⟩ := cells6_regrown hc
      try simp only at p0 p1 p2 p3 p4 p5
      have t3 : (0 : Int) ≤ (k : Int) := by omega
      have t4 : (k : Int) < (l.length : Int) := by omega
      have G1 := Lib.hid (bslot_any xn xs xi xa xb xc)
      have G2 := Lib.hid (rbslot_any xn xs xi xa xb xc)
      have G3 := Lib.hid (bshown_any xn xs xi xa xb xc)
      have G4 := Lib.hid (rbshown_any xn xs xi xa xb xc)
      clear hx hc
      go_wp2_with fail
      refine wp_region_quiet_below (by kernel_rfl) (by kernel_rfl) ?_
      repeat (go_big_quiet_step (first | with_reducible exact rgB G1.out _ _ _ | with_reducible exact rgB G2.out _ _ _ | with_reducible exact rgB G3.out _ _ _ | with_reducible exact rgB G4.out _ _ _ | with_reducible exact rgB (bsame_yes _ _ _ _) _ _ _))
      refine wpQuiet_nil ?_
      intro w5 hw
      have b5 := regrownZ hw
      have HN5 := Lib.hid (below2Z HN.out b5)
      clear hw b5 p0 p1 p2 p3 p4 p5
      go_wp2_with fail
      go_roundw
      case rel => exact ⟨k + 1, by omega, by go_num, HN5⟩
      case measure => simp [intOf]; omega
    · obtain rfl : k = l.length := by omega
      replace HV := Lib.hid (HV.out.later HN.out)
      replace HA := Lib.hid (HA.out.later HN.out)
      replace HB := Lib.hid (HB.out.later HN.out)
      replace BB := Lib.hid (below2Z BB.out HN.out)
      clear HN
      go_wp2_with fail
      refine (bbest_any HV.out HF.out HS.out HQ.out).mono ?_
      rintro e w3 ⟨rfl, b1⟩
      have b2 := below2Z b1 (bl_newZ w3 (.cells #[.string ⟨n.toArray⟩, .int .i64 i, .int .i64 a, .int .i64 b, .int .i64 c, .string ⟨st.toArray⟩] 54))
      replace HV := Lib.hid (HV.out.later b2)
      replace HA := Lib.hid (HA.out.later b2)
      replace HB := Lib.hid (HB.out.later b2)
      replace BB := Lib.hid (below2Z BB.out b2)
      have H3 := Lib.hid (cellsAt_made (w := w3) (cs := #[.string ⟨n.toArray⟩, .int .i64 i, .int .i64 a, .int .i64 b, .int .i64 c, .string ⟨st.toArray⟩]) (vs := sesVals ⟨n, i, ⟨a, b, c, st⟩⟩) rfl 54 rfl)
      clear b1 b2
      go_wp2_with fail
      refine (rbest_any HV.out HS.out HQ.out).mono ?_
      rintro e w4 ⟨rfl, b1⟩
      have b2 := below2Z b1 (bl_newZ w4 (.cells #[.string ⟨n.toArray⟩, .int .i64 i, .int .i64 a, .int .i64 b, .int .i64 c, .string ⟨st.toArray⟩] 54))
      replace HV := Lib.hid (HV.out.later b2)
      replace HA := Lib.hid (HA.out.later b2)
      replace HB := Lib.hid (HB.out.later b2)
      replace H3 := Lib.hid (H3.out.later b2)
      replace BB := Lib.hid (below2Z BB.out b2)
      have H4 := Lib.hid (cellsAt_made (w := w4) (cs := #[.string ⟨n.toArray⟩, .int .i64 i, .int .i64 a, .int .i64 b, .int .i64 c, .string ⟨st.toArray⟩]) (vs := sesVals ⟨n, i, ⟨a, b, c, st⟩⟩) rfl 54 rfl)
      clear b1 b2
      go_wp2_with fail
      refine (bvalue_any HV.out HF.out HT.out HQ.out).mono ?_
      rintro e w5 ⟨rfl, b1⟩
      have b2 := below2Z b1 (bl_newZ w5 (.cells #[.int .i64 a', .int .i64 b', .int .i64 c', .string ⟨st'.toArray⟩] 50))
      replace HV := Lib.hid (HV.out.later b2)
      replace HA := Lib.hid (HA.out.later b2)
      replace HB := Lib.hid (HB.out.later b2)
      replace H3 := Lib.hid (H3.out.later b2)
      replace H4 := Lib.hid (H4.out.later b2)
      replace BB := Lib.hid (below2Z BB.out b2)
      have H5 := Lib.hid (cellsAt_made (w := w5) (cs := #[.int .i64 a', .int .i64 b', .int .i64 c', .string ⟨st'.toArray⟩]) (vs := [.int .i64 a', .int .i64 b', .int .i64 c', .string ⟨st'.toArray⟩]) rfl 50 rfl)
      clear b1 b2
      go_wp2_with fail
      refine (rbvalue_any HV.out HT.out HQ.out).mono ?_
      rintro e w6 ⟨rfl, b1⟩
      have b2 := below2Z b1 (bl_newZ w6 (.cells #[.int .i64 a', .int .i64 b', .int .i64 c', .string ⟨st'.toArray⟩] 50))
      replace HA := Lib.hid (HA.out.later b2)
      replace HB := Lib.hid (HB.out.later b2)
      replace H3 := Lib.hid (H3.out.later b2)
      replace H4 := Lib.hid (H4.out.later b2)
      replace H5 := Lib.hid (H5.out.later b2)
      replace BB := Lib.hid (below2Z BB.out b2)
      have H6 := Lib.hid (cellsAt_made (w := w6) (cs := #[.int .i64 a', .int .i64 b', .int .i64 c', .string ⟨st'.toArray⟩]) (vs := [.int .i64 a', .int .i64 b', .int .i64 c', .string ⟨st'.toArray⟩]) rfl 50 rfl)
      obtain ⟨W6, hW6⟩ : ∃ W, W = w6.alloc (.cells #[.int .i64 a', .int .i64 b', .int .i64 c', .string ⟨st'.toArray⟩] 50) := ⟨_, rfl⟩
      rw [← hW6] at HA HB H3 H4 H5 H6 BB
      clear b1 b2 HV
      go_wp2_with fail
      rw [← hW6]
      clear hW6
      obtain ⟨p0, p1, p2, p3, p4, p5⟩ := cells6_regrown H3.out
      obtain ⟨q0, q1, q2, q3, q4, q5⟩ := cells6_regrown H4.out
      obtain ⟨r0, r1, r2, r3⟩ := cells4v H5.out
      obtain ⟨s0, s1, s2, s3⟩ := cells4v H6.out
      obtain ⟨u0, u1, u2, u3⟩ := cells4v HA.out
      obtain ⟨v0, v1, v2, v3⟩ := cells4v HB.out
      replace r0 := cell_regrown r0
      replace r1 := cell_regrown r1
      replace r2 := cell_regrown r2
      replace r3 := cell_regrown r3
      replace s0 := cell_regrown s0
      replace s1 := cell_regrown s1
      replace s2 := cell_regrown s2
      replace s3 := cell_regrown s3
      replace u0 := cell_regrown u0
      replace u1 := cell_regrown u1
      replace u2 := cell_regrown u2
      replace u3 := cell_regrown u3
      replace v0 := cell_regrown v0
      replace v1 := cell_regrown v1
      replace v2 := cell_regrown v2
      replace v3 := cell_regrown v3
      simp only [Nat.zero_add] at p0 p1 p2 p3 p4 p5 q0 q1 q2 q3 q4 q5 r0 r1 r2 r3 s0 s1 s2 s3 u0 u1 u2 u3 v0 v1 v2 v3
      refine wp_region_quiet_below (by kernel_rfl) (by kernel_rfl) ?_
      repeat (go_big_quiet_step (first | with_reducible exact rgB HWo.out _ _ _ | with_reducible exact rgB HWr.out _ _ _ | with_reducible exact rgB live11 _ _ _))
      refine wpQuiet_nil ?_
      intro w7 hw
      have b7 := regrownZ hw
      replace BB := Lib.hid (below2Z BB.out b7)
      clear hw b7
      go_wp2_with fail
      go_ret
      exact ⟨rfl, BB.out⟩

set_option maxHeartbeats 800000 in
set_option maxRecDepth 100000 in
theorem btells_many {w : World} {v : Value} {l : List Ses} (hv : Sess w v l) (p p' : List UInt8) (x y z x' y' z' : Int) (hw : fewSes l = false) :
    Calls Try.prog 4 #[v, .agg #[.int .i64 x, .int .i64 y, .int .i64 z, .string ⟨p.toArray⟩], .agg #[.int .i64 x', .int .i64 y', .int .i64 z', .string ⟨p'.toArray⟩]] w fun e w' => e = .returned (.bool true) ∧ Below w.heap.size w w' := by
  have hW2 := (show Below w.heap.size w ((w.alloc (.cells #[.int .i64 x, .int .i64 y, .int .i64 z, .string ⟨p.toArray⟩] 50)).alloc (.cells #[.int .i64 x', .int .i64 y', .int .i64 z', .string ⟨p'.toArray⟩] 50)) from ((Below.refl _ _).alloc (Nat.le_refl _) _).alloc (by simp) _)
  have HFw := Lib.hid (few09_eq (hv.later hW2) hw)
  have BB := Lib.hid hW2
  clear hv hW2 hw
  go_enter Try.func4, Try.ntmps4
  go_wp2_with fail
  refine HFw.out.mono ?_
  rintro e w2 ⟨rfl, rfl⟩
  go_wp2_with fail
  refine (live11 _).mono ?_
  rintro e w3 ⟨rfl, b1⟩
  replace BB := Lib.hid (below2Z BB.out b1)
  clear b1
  go_wp2_with fail
  go_ret
  exact ⟨rfl, BB.out⟩

set_option maxHeartbeats 800000 in
set_option maxRecDepth 100000 in
theorem btells_l1 {w : World} {v : Value} {l : List Ses} (hv : Sess w v l) (p p' : List UInt8) (x y z x' y' z' : Int) (hw : fewSes l = true) (h1 : ¬ p.length ≤ 60) :
    Calls Try.prog 4 #[v, .agg #[.int .i64 x, .int .i64 y, .int .i64 z, .string ⟨p.toArray⟩], .agg #[.int .i64 x', .int .i64 y', .int .i64 z', .string ⟨p'.toArray⟩]] w fun e w' => e = .returned (.bool true) ∧ Below w.heap.size w w' := by
  have hW2 := (show Below w.heap.size w ((w.alloc (.cells #[.int .i64 x, .int .i64 y, .int .i64 z, .string ⟨p.toArray⟩] 50)).alloc (.cells #[.int .i64 x', .int .i64 y', .int .i64 z', .string ⟨p'.toArray⟩] 50)) from ((Below.refl _ _).alloc (Nat.le_refl _) _).alloc (by simp) _)
  have HFw := Lib.hid (few09_eq (hv.later hW2) hw)
  have BB := Lib.hid hW2
  have t1 : decide (60 < (p.length : Int)) = true := by simp; omega
  clear h1
  clear hv hW2 hw
  go_enter Try.func4, Try.ntmps4
  go_wp2_with fail
  refine HFw.out.mono ?_
  rintro e w2 ⟨rfl, rfl⟩
  go_wp2_with fail
  refine (live11 _).mono ?_
  rintro e w3 ⟨rfl, b1⟩
  replace BB := Lib.hid (below2Z BB.out b1)
  clear b1
  go_wp2_with fail
  go_ret
  exact ⟨rfl, BB.out⟩

set_option maxHeartbeats 800000 in
set_option maxRecDepth 100000 in
theorem btells_l2 {w : World} {v : Value} {l : List Ses} (hv : Sess w v l) (p p' : List UInt8) (x y z x' y' z' : Int) (hw : fewSes l = true) (h1 : p.length ≤ 60) (h2 : ¬ p'.length ≤ 60) :
    Calls Try.prog 4 #[v, .agg #[.int .i64 x, .int .i64 y, .int .i64 z, .string ⟨p.toArray⟩], .agg #[.int .i64 x', .int .i64 y', .int .i64 z', .string ⟨p'.toArray⟩]] w fun e w' => e = .returned (.bool true) ∧ Below w.heap.size w w' := by
  have hW2 := (show Below w.heap.size w ((w.alloc (.cells #[.int .i64 x, .int .i64 y, .int .i64 z, .string ⟨p.toArray⟩] 50)).alloc (.cells #[.int .i64 x', .int .i64 y', .int .i64 z', .string ⟨p'.toArray⟩] 50)) from ((Below.refl _ _).alloc (Nat.le_refl _) _).alloc (by simp) _)
  have HFw := Lib.hid (few09_eq (hv.later hW2) hw)
  have BB := Lib.hid hW2
  have t1 : decide (60 < (p.length : Int)) = false := by simp; omega
  have t2 : decide (60 < (p'.length : Int)) = true := by simp; omega
  clear h1 h2
  clear hv hW2 hw
  go_enter Try.func4, Try.ntmps4
  go_wp2_with fail
  refine HFw.out.mono ?_
  rintro e w2 ⟨rfl, rfl⟩
  go_wp2_with fail
  refine (live11 _).mono ?_
  rintro e w3 ⟨rfl, b1⟩
  replace BB := Lib.hid (below2Z BB.out b1)
  clear b1
  go_wp2_with fail
  go_ret
  exact ⟨rfl, BB.out⟩

theorem walkBestTells {w : World} {v : Value} {l : List Ses} (hv : Sess w v l) (hf : ∀ s ∈ l, SesFit s) (a : Val) (ha : ValFit a) (b : Val) (hb : ValFit b) :
    Calls Try.prog 4 #[v, .agg #[.int .i64 a.sh, .int .i64 a.pr, .int .i64 a.si, .string ⟨a.st.toArray⟩], .agg #[.int .i64 b.sh, .int .i64 b.pr, .int .i64 b.si, .string ⟨b.st.toArray⟩]] w fun e w' => e = .returned (.bool true) ∧ Below w.heap.size w w' := by
  cases hw : fewSes l with
  | false => exact btells_many hv _ _ _ _ _ _ _ _ hw
  | true =>
    by_cases h1 : a.st.length ≤ 60
    · by_cases h2 : b.st.length ≤ 60
      · exact btells_few hv hf hw a.st b.st a.sh a.pr a.si b.sh b.pr b.si ha hb h1 h2
      · exact btells_l2 hv _ _ _ _ _ _ _ _ hw h1 h2
    · exact btells_l1 hv _ _ _ _ _ _ _ _ hw h1

end Go.Proofs.Ytocljhbkjengpaa
