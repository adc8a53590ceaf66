/-
  THE PROOF OF RostDoes: for every input the law returns true, and each argument reads behind the call as it read before. No condition.
-/
import Derived.Test.YtfkadkopolenbaaGR21
import Derived.Test.YtfkadkopolenbaaGR13
import Derived.Test.YtfkadkopolenbaaGR22
import Derived.Test.YtfkadkopolenbaaGR18
import Derived.Test.YtfkadkopolenbaaRows
import Derived.ProofKit
import Derived.OpenShut
import Derived.ShutString
import Derived.ChangeOld
import Derived.SliceStrings
import Derived.Lib.SmallJoins

section

/-
  THE WALK OF RostDoes.
-/
namespace Go.Proofs.Ytfkadkopolenbaa
open Go.RowKit

theorem threeD {X : World} {b : Nat} {k : Int} {u o : List UInt8} (h : CellsAt X b 0 (rmovVals ⟨k, u, o⟩)) : X.cell? ⟨b, 0, none⟩ = some (.int .i64 k) ∧ X.cell? ⟨b, 1, none⟩ = some (.string ⟨u.toArray⟩) ∧ X.cell? ⟨b, 2, none⟩ = some (.string ⟨o.toArray⟩) := by
  have h0 := h 0 _ rfl
  have h1 := h 1 _ rfl
  have h2 := h 2 _ rfl
  simp only [Nat.zero_add] at h0 h1 h2
  exact ⟨h0, h1, h2⟩

set_option maxHeartbeats 3200000 in
set_option maxRecDepth 100000 in
theorem rdoes_1 {w : World} {v : Value} {l : List Ent} (hv : Ents w v l) (k : Int) (u o : List UInt8) (hw : fewR l = false) :
    Calls Try.prog 4 #[v, .agg #[.int .i64 k, .string ⟨u.toArray⟩, .string ⟨o.toArray⟩]] w fun e w' => e = .returned (.bool true) ∧ Below w.heap.size w w' := by
  have b0 := bl_newZ w (.cells #[.int .i64 k, .string ⟨u.toArray⟩, .string ⟨o.toArray⟩] 33)
  have HB := Lib.hid b0
  have C := Lib.hid (cellsAt_made (w := w) (cs := #[.int .i64 k, .string ⟨u.toArray⟩, .string ⟨o.toArray⟩]) (vs := rmovVals ⟨k, u, o⟩) rfl 33 rfl)
  have V := Lib.hid (hv.later b0)
  have HF := Lib.hid (few8_any V.out (Lib.hid hw))
  obtain ⟨ao, cap, rfl, hm⟩ := hv.open'
  clear b0 hv
  obtain ⟨c0, c1, c2⟩ := threeD C.out
  go_enter Try.func4, Try.ntmps4
  go_wp2_with fail
  refine HF.out.mono ?_
  rintro e w0 ⟨rfl, rfl⟩
  clear c0 c1 c2
  go_wp2_with fail
  refine (live8 _).mono ?_
  rintro e w1 ⟨rfl, b1⟩
  replace HB := Lib.hid (below2Z HB.out b1)
  clear b1
  go_wp2_with fail
  go_ret
  exact ⟨rfl, HB.out⟩

set_option maxHeartbeats 3200000 in
set_option maxRecDepth 100000 in
theorem rdoes_2 {w : World} {v : Value} {l : List Ent} (hv : Ents w v l) (k : Int) (u o : List UInt8) (hw : fewR l = true) (hu : ¬ u.length ≤ 40) :
    Calls Try.prog 4 #[v, .agg #[.int .i64 k, .string ⟨u.toArray⟩, .string ⟨o.toArray⟩]] w fun e w' => e = .returned (.bool true) ∧ Below w.heap.size w w' := by
  have b0 := bl_newZ w (.cells #[.int .i64 k, .string ⟨u.toArray⟩, .string ⟨o.toArray⟩] 33)
  have HB := Lib.hid b0
  have C := Lib.hid (cellsAt_made (w := w) (cs := #[.int .i64 k, .string ⟨u.toArray⟩, .string ⟨o.toArray⟩]) (vs := rmovVals ⟨k, u, o⟩) rfl 33 rfl)
  have V := Lib.hid (hv.later b0)
  have HF := Lib.hid (few8_any V.out (Lib.hid hw))
  have HL := (fewR_get hw).1
  have HS := Lib.hid (fewR_short hw)
  obtain ⟨ao, cap, rfl, hm⟩ := hv.open'
  clear b0 hv
  obtain ⟨c0, c1, c2⟩ := threeD C.out
  have tu : decide ((40 : Int) < (u.length : Int)) = true := by rw [decide_eq_true_eq]; omega
  go_enter Try.func4, Try.ntmps4
  go_wp2_with fail
  refine HF.out.mono ?_
  rintro e w0 ⟨rfl, rfl⟩
  go_wp2_with fail
  refine (live8 _).mono ?_
  rintro e w1 ⟨rfl, b1⟩
  replace HB := Lib.hid (below2Z HB.out b1)
  clear b1
  go_wp2_with fail
  go_ret
  exact ⟨rfl, HB.out⟩

set_option maxHeartbeats 3200000 in
set_option maxRecDepth 100000 in
theorem rdoes_3 {w : World} {v : Value} {l : List Ent} (hv : Ents w v l) (k : Int) (u o : List UInt8) (hw : fewR l = true) (hu : u.length ≤ 40) (ho : ¬ o.length ≤ 40) :
    Calls Try.prog 4 #[v, .agg #[.int .i64 k, .string ⟨u.toArray⟩, .string ⟨o.toArray⟩]] w fun e w' => e = .returned (.bool true) ∧ Below w.heap.size w w' := by
  have b0 := bl_newZ w (.cells #[.int .i64 k, .string ⟨u.toArray⟩, .string ⟨o.toArray⟩] 33)
  have HB := Lib.hid b0
  have C := Lib.hid (cellsAt_made (w := w) (cs := #[.int .i64 k, .string ⟨u.toArray⟩, .string ⟨o.toArray⟩]) (vs := rmovVals ⟨k, u, o⟩) rfl 33 rfl)
  have V := Lib.hid (hv.later b0)
  have HF := Lib.hid (few8_any V.out (Lib.hid hw))
  have HL := (fewR_get hw).1
  have HS := Lib.hid (fewR_short hw)
  obtain ⟨ao, cap, rfl, hm⟩ := hv.open'
  clear b0 hv
  obtain ⟨c0, c1, c2⟩ := threeD C.out
  have tu : decide ((40 : Int) < (u.length : Int)) = false := by rw [decide_eq_false_iff_not]; omega
  have to : decide ((40 : Int) < (o.length : Int)) = true := by rw [decide_eq_true_eq]; omega
  go_enter Try.func4, Try.ntmps4
  go_wp2_with fail
  refine HF.out.mono ?_
  rintro e w0 ⟨rfl, rfl⟩
  go_wp2_with fail
  refine (live8 _).mono ?_
  rintro e w1 ⟨rfl, b1⟩
  replace HB := Lib.hid (below2Z HB.out b1)
  clear b1
  go_wp2_with fail
  go_ret
  exact ⟨rfl, HB.out⟩

set_option maxHeartbeats 3200000 in
set_option maxRecDepth 100000 in
theorem rdoes_4 {w : World} {v : Value} {l : List Ent} (hv : Ents w v l) (k : Int) (u o : List UInt8) (hk : (Lit.int .i64 k).wf = true) (hw : fewR l = true) (hu : u.length ≤ 40) (ho : o.length ≤ 40) :
    Calls Try.prog 4 #[v, .agg #[.int .i64 k, .string ⟨u.toArray⟩, .string ⟨o.toArray⟩]] w fun e w' => e = .returned (.bool true) ∧ Below w.heap.size w w' := by
  have b0 := bl_newZ w (.cells #[.int .i64 k, .string ⟨u.toArray⟩, .string ⟨o.toArray⟩] 33)
  have HB := Lib.hid b0
  have C := Lib.hid (cellsAt_made (w := w) (cs := #[.int .i64 k, .string ⟨u.toArray⟩, .string ⟨o.toArray⟩]) (vs := rmovVals ⟨k, u, o⟩) rfl 33 rfl)
  have V := Lib.hid (hv.later b0)
  have HF := Lib.hid (few8_any V.out (Lib.hid hw))
  have HL := (fewR_get hw).1
  have HS := Lib.hid (fewR_short hw)
  obtain ⟨ao, cap, rfl, hm⟩ := hv.open'
  clear b0 hv
  obtain ⟨c0, c1, c2⟩ := threeD C.out
  have tu : decide ((40 : Int) < (u.length : Int)) = false := by rw [decide_eq_false_iff_not]; omega
  have to : decide ((40 : Int) < (o.length : Int)) = false := by rw [decide_eq_false_iff_not]; omega
  obtain ⟨m, n, hd⟩ : ∃ m n, roDo l k u o = (m, n) := ⟨_, _, rfl⟩
  have HD := Lib.hid hd
  have t2 : ((n : Int) == (n : Int)) = true := beq_self_eq_true _
  clear hd
  go_enter Try.func4, Try.ntmps4
  go_wp2_with fail
  refine HF.out.mono ?_
  rintro e w0 ⟨rfl, rfl⟩
  go_wp2_with fail
  refine (rdo_any V.out HS.out (by omega) u o (by omega) (by omega) k hk HD.out).mono ?_
  rintro e w1 ⟨x1, rfl, h1, b1⟩
  replace V := Lib.hid (V.out.later b1)
  replace C := Lib.hid (C.out.later b1)
  replace HB := Lib.hid (below2Z HB.out b1)
  have X1 := Lib.hid (h1)
  clear h1 c0 c1 c2
  obtain ⟨c0, c1, c2⟩ := threeD C.out
  clear b1
  go_wp2_with fail
  refine (rdo8_any V.out HS.out (by omega) u o (by omega) (by omega) k HD.out).mono ?_
  rintro e w2 ⟨x2, rfl, h2, b2⟩
  replace V := Lib.hid (V.out.later b2)
  replace X1 := Lib.hid (X1.out.later b2)
  replace HB := Lib.hid (below2Z HB.out b2)
  have X2 := Lib.hid (h2)
  clear h2 c0 c1 c2
  clear b2
  go_wp2_with fail
  refine (rsame8_yes X1.out X2.out).mono ?_
  rintro e w3 ⟨rfl, b3⟩
  replace HB := Lib.hid (below2Z HB.out b3)
  clear b3
  go_wp2_with fail
  refine (live8 _).mono ?_
  rintro e w4 ⟨rfl, b4⟩
  replace HB := Lib.hid (below2Z HB.out b4)
  clear b4
  go_wp2_with fail
  go_ret
  exact ⟨rfl, HB.out⟩

theorem walkRostDoes {w : World} {v : Value} {l : List Ent} (hv : Ents w v l) (m : RMov) (hm : rmovFit m) :
    Calls Try.prog 4 #[v, .agg #[.int .i64 m.k, .string ⟨m.u.toArray⟩, .string ⟨m.o.toArray⟩]] w fun e w' => e = .returned (.bool true) ∧ Below w.heap.size w w' := by
  cases hw : fewR l with
  | false => exact rdoes_1 hv _ _ _ hw
  | true =>
    by_cases hu : m.u.length ≤ 40
    · by_cases ho : m.o.length ≤ 40
      · exact rdoes_4 hv _ _ _ hm hw hu ho
      · exact rdoes_3 hv _ _ _ hw hu ho
    · exact rdoes_2 hv _ _ _ hw hu

end Go.Proofs.Ytfkadkopolenbaa

end

section

/-
  THE FRAME OF THE PROOF OF RostDoes: for every input the law returns true, and each argument reads behind the call as it read before. No condition.
-/
namespace Go.Proofs.Ytfkadkopolenbaa.rostDoes
open Go.ChangeShapes Go.WideShapes Go.ChangeAt Go.RowKit
open Go.ChangeMaps (open_string shut_string)
set_option linter.unusedVariables false

theorem own : ownKnob Try.prog.godebug = none := by kernel_rfl
theorem laidOut : laidOutB Try.prog = true := by kernel_rfl

set_option maxRecDepth 100000 in
theorem lifted (os : Os) (started : os.Started) (H : Type) (enc : TypeId × Value → H) :
    ReturnsInHanded {} Try.checked os 4 .any (Rows.rostDoesSpec.pre6 enc Try.prog Try.f4 Rows.rostDoesRow.domain false) (Rows.rostDoesSpec.post enc Try.prog Try.f4 false true false false) := by
  refine returnsInHanded_of_change (C := Try.checked) own started (by kernel_rfl) Try.func4
    (ChangeSpec.witness6 (enc := enc) (C := Try.checked) false ⟨#[], #[.slice none 0 0, .agg #[.int .i64 0, .string ByteArray.empty, .string ByteArray.empty]], []⟩ 8 (by kernel_rfl) (by kernel_rfl) (by kernel_rfl) (by kernel_rfl)) ?_
  intro W base args ds gs before hval0 hW hcnd _
  have hval : ∀ (j : Nat) t v, Try.f4.params[j]? = some t → args[j]? = some v → Value.okWide Try.prog W .any base t v := hval0
  have hW' := hW
  obtain ⟨p, q, hA0, hV, rfl, hfz, hnd⟩ := hW
  have hA : DataW.TrodAll enc Try.prog W 0 (fun _ => true) true Try.f4.params.toList args.toList ds p := hA0
  rw [Try.params4] at hA hval
  obtain ⟨v0, vs0, d0, ds0, p0, q0, hargs, rfl, rfl, h0, r0⟩ := trodAll_cons hA
  obtain ⟨v1, vs1, d1, ds1, p1, q1, rfl, rfl, rfl, h1, r1⟩ := trodAll_cons r0
  obtain ⟨rfl, rfl, rfl⟩ := trodAll_nil r1
  obtain rfl : args = #[v0, v1] := by cases args; simp_all
  obtain ⟨rfl, rfl⟩ := trodVars_none hV
  have k0 := h0
  have lt0 : ∀ x ∈ p0, x.block < W.heap.size := by obtain ⟨m, hm⟩ := k0; exact DataW.trod_lt m _ _ _ hm
  obtain ⟨l0, w0⟩ := open_ents (hval 0 22 v0 rfl rfl) h0
  have k1 := h1
  have lt1 : ∀ x ∈ p1, x.block < W.heap.size := by obtain ⟨m, hm⟩ := k1; exact DataW.trod_lt m _ _ _ hm
  obtain ⟨a1, rfl, w1⟩ := open_rmove (hval 1 33 v1 rfl rfl) h1
  clear hA0 hval0
  refine (walkRostDoes (w := W) w0 a1 w1).mono fun e W' ⟨he, bel⟩ => ?_
  subst he
  exact ⟨_, rfl, _, _, _, [], _, [], hW', trodAll_mk1 (shut_bool Try.underlying4 _), (trodAll_cons_mk (Below.trod laidOut (by kernel_rfl) (of_decide_eq_true (by kernel_rfl)) k0 bel lt0) (trodAll_cons_mk (Below.trod laidOut (by kernel_rfl) (of_decide_eq_true (by kernel_rfl)) k1 bel lt1) trodAll_mk0)), rfl, bel.frame _, fun h => by cases h⟩

theorem over : Rows.rostDoesRow.holds Try.pinned (OpenSpec.ofChange Rows.rostDoesSpec) :=
  OpenClaim.holds_of_wide 4 Try.f4 rfl rfl rfl rfl rfl rfl rfl ⟨rfl, rfl, rfl, rfl, rfl⟩ rfl rfl rfl rfl rfl (by kernel_rfl) Try.func4 (by kernel_rfl)
    (of_decide_eq_true (by kernel_rfl)) (by unfold Func.isWrapper; first | (rw [if_pos (by decide +kernel)]; kernel_rfl) | (rw [if_neg (by decide +kernel)]; exact ⟨rfl, rfl⟩))
    (fun os started H enc _ => lifted os started H enc)

/-- THE STATEMENT. -/
theorem proved : Rows.RostDoesSaid := over
#print axioms proved
end Go.Proofs.Ytfkadkopolenbaa.rostDoes

end
