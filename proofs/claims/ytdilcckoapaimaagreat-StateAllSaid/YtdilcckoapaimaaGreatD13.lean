/-
  TEXTS OF THE PROOF, one behind the other: RosSet, RosDoD, SesRput, StaRdo.
-/
import Derived.Test.YtdilcckoapaimaaGreatD07
import Derived.Test.YtdilcckoapaimaaGreatD01
import Derived.WalkSpells
import Derived.Test.YtdilcckoapaimaaGreatD06
import Derived.Test.YtdilcckoapaimaaGreatD10
import Derived.Deep.DeepCutAuto
import Derived.Deep.CutBlock

set_option linter.unusedVariables false

section

/-
  LAYER 8, THE DOCUMENT's: set.
-/
namespace Go.Proofs.YtdilcckoapaimaaGreat
open Go.RowKit

theorem rsO_step {l : List Ent} {k : Nat} (hk : k < l.length) {e : Ent} (he : l.getD k Ent.zero = e) (x : Ent) (d : Bool) :
    rsO entLt entIs x (l.drop k) d = if entIs e x = true then rsO entLt entIs x (l.drop (k + 1)) d else if (!d && entLt x e) = true then x :: e :: rsO entLt entIs x (l.drop (k + 1)) true else e :: rsO entLt entIs x (l.drop (k + 1)) d := by
  rw [List.drop_eq_getElem_cons hk, ← getD_at hk, he]
  rfl

theorem rsO_len (x : Ent) : ∀ (l : List Ent) (d : Bool), (rsO entLt entIs x l d).length ≤ l.length + 1
  | [], d => by unfold rsO; split <;> simp
  | e :: t, d => by
    have ht := rsO_drop (lt := entLt) (eq := entIs) t x
    have hd : (rsO entLt entIs x t true).length ≤ t.length := by rw [ht]; exact List.length_filter_le _ _
    have := rsO_len x t d
    unfold rsO
    split
    · simp; omega
    · split
      · simp; omega
      · simp; omega

theorem Cells7.later_at {W0 wr : World} {n : Nat} {x : Ent} (h : Cells7 W0 n 0 x) (hb : Below W0.heap.size W0 wr) (hs : W0.heap.size = n + 1) : Cells7 wr n 0 x :=
  cells7_at.2 fun j u hu => (hb.cell (p := ⟨n, 0 + j, none⟩) (by show n < W0.heap.size; omega)).trans (cells7_at.1 h j u hu)

set_option maxHeartbeats 3200000 in
set_option maxRecDepth 100000 in
theorem rset8_any {w : World} {v : Value} {l : List Ent} (hv : Ents w v l) (hl : l.length ≤ 1000) (xo xc : List UInt8) (x1 x2 x3 x4 x5 : Bool) (keep : Bool) :
    Calls Tryz.prog 92 #[v, .agg #[.string ⟨xo.toArray⟩, .string ⟨xc.toArray⟩, .bool x1, .bool x2, .bool x3, .bool x4, .bool x5], .bool keep] w fun e w' => ∃ u, e = .returned u ∧ OwnS entVals 7 87 w' w.heap.size u (rsO entLt entIs ⟨xo, xc, ⟨x1, x2, x3, x4, x5⟩⟩ l (!keep)) ∧ Below w.heap.size w w' := by
  have bn := bl_newZ w (.cells #[.string ⟨xo.toArray⟩, .string ⟨xc.toArray⟩, .bool x1, .bool x2, .bool x3, .bool x4, .bool x5] 87)
  have B0 := Lib.hid bn
  have HV := Lib.hid (hv.later bn)
  have K0 := Lib.hid (cells7_made w ⟨xo, xc, ⟨x1, x2, x3, x4, x5⟩⟩ 87)
  have HSZ := Lib.hid (show (w.alloc (.cells #[.string ⟨xo.toArray⟩, .string ⟨xc.toArray⟩, .bool x1, .bool x2, .bool x3, .bool x4, .bool x5] 87)).heap.size = w.heap.size + 1 by simp)
  obtain ⟨W0, hW0⟩ : ∃ W0, W0 = w.alloc (.cells #[.string ⟨xo.toArray⟩, .string ⟨xc.toArray⟩, .bool x1, .bool x2, .bool x3, .bool x4, .bool x5] 87) := ⟨_, rfl⟩
  rw [← hW0] at HSZ B0 HV K0
  have HW0 := Lib.hid hW0
  obtain ⟨R, hR⟩ : ∃ R, rsO entLt entIs ⟨xo, xc, ⟨x1, x2, x3, x4, x5⟩⟩ l (!keep) = R := ⟨_, rfl⟩
  rw [hR]
  have HRL : Hid (R.length ≤ 1001) := by
    show _ ≤ _
    rw [← hR]
    have := rsO_len ⟨xo, xc, ⟨x1, x2, x3, x4, x5⟩⟩ l (!keep)
    omega
  have HR := Lib.hid hR
  obtain ⟨a, cap, rfl, hm⟩ := hv.open'
  clear hv bn hR hW0
  go_enter Tryz.func92, Tryz.ntmps92
  go_wp2_with fail
  rw [← HW0.out]
  go_loopw [7, 8, 9] (fun s d i wr => ∃ (k : Nat) (dn : Bool) (out : List Ent) (sv : Value), k ≤ l.length ∧ i = .int .i64 k ∧ d = .bool dn ∧ sv = s ∧ Hid (OwnS entVals 7 87 wr W0.heap.size sv out) ∧ Hid (out ++ rsO entLt entIs ⟨xo, xc, ⟨x1, x2, x3, x4, x5⟩⟩ (l.drop k) dn = R) ∧ Hid (Below W0.heap.size W0 wr)) (fun _ _ i _ => l.length - (intOf i).toNat)
  case atStart => exact ⟨0, !keep, [], _, by omega, rfl, rfl, rfl, ownS_nil _ _, by show _ = _; rw [List.nil_append, List.drop_zero]; exact HR.out, Below.refl _ _⟩
  case round =>
    obtain ⟨k, dn, out, sv, hk, rfl, rfl, rfl, HO, HI, HN⟩ := hrel
    by_cases hlt : k < l.length
    · obtain ⟨b, off, rfl, hc⟩ := HV.out.row HN.out k hlt
      obtain ⟨⟨eo, ec, ⟨e1, e2, e3, e4, e5⟩⟩, hr⟩ : ∃ r, l.getD k Ent.zero = r := ⟨_, rfl⟩
      have hst := rsO_step hlt hr ⟨xo, xc, ⟨x1, x2, x3, x4, x5⟩⟩ dn
      rw [hr] at hc
      have HE := Lib.hid hc
      have KX := Lib.hid (K0.out.later_at HN.out HSZ.out)
      have hout : out.length ≤ 1001 := by
        have h1 := congrArg List.length HI.out
        rw [List.length_append] at h1
        have := HRL.out
        omega
      have HOL := Lib.hid hout
      have hnn : (0 : Int) ≤ (k : Int) := by omega
      have hli : (k : Int) < (l.length : Int) := by omega
      have t1 : decide ((k : Int) < (l.length : Int)) = true := by simpa using hli
      have HER := Lib.hid hr
      clear hr hc hout
      by_cases ho : eo = xo
      · by_cases hc : ec = xc
        · subst ho hc
          have hs : entIs ⟨eo, ec, ⟨e1, e2, e3, e4, e5⟩⟩ ⟨eo, ec, ⟨x1, x2, x3, x4, x5⟩⟩ = true := entIs_iff.2 ⟨rfl, rfl⟩
          rw [if_pos hs] at hst
          have HI2 : Hid (out ++ rsO entLt entIs ⟨eo, ec, ⟨x1, x2, x3, x4, x5⟩⟩ (l.drop (k + 1)) dn = R) := by
            show _ = _
            rw [← hst]
            exact HI.out
          clear hst hs
          obtain ⟨q0, q1, q2, q3, q4, q5, q6⟩ := cells7_regrown HE.out
          obtain ⟨k0, k1, k2, k3, k4, k5, k6⟩ := cells7_regrown KX.out
          simp only [Nat.zero_add] at k0 k1 k2 k3 k4 k5 k6
          try simp only at q0 q1 q2 q3 q4 q5 q6
          go_wp2_with fail
          refine wp_region_quiet_below (by kernel_rfl) (by kernel_rfl) ?_
          repeat (go_big_quiet_step (fail))
          refine wpQuiet_nil ?_
          intro w5 hw5
          have b5 := regrown_belowP hw5
          replace HE := Lib.hid (HE.out.later b5)
          replace KX := Lib.hid (KX.out.later b5)
          replace HO := Lib.hid (HO.out.later b5)
          replace HN := Lib.hid (below2S HN.out b5)
          clear hw5 b5 q0 q1 q2 q3 q4 q5 q6 k0 k1 k2 k3 k4 k5 k6
          go_wp2_with fail
          go_roundw
          case rel => exact ⟨k + 1, dn, out, _, by omega, by go_num, rfl, rfl, HO, HI2, HN⟩
          case measure => simp [intOf]; omega
        · subst ho
          have t2 : (eo == eo) = true := by simp
          have t3 : (ec == xc) = false := by rw [beq_eq_false_iff_ne]; exact hc
          have hs : entIs ⟨eo, ec, ⟨e1, e2, e3, e4, e5⟩⟩ ⟨eo, xc, ⟨x1, x2, x3, x4, x5⟩⟩ = false := by
            rw [Bool.eq_false_iff]
            intro h'
            have h2 := entIs_iff.1 h'
            exact hc h2.2
          rw [if_neg (by rw [hs]; decide)] at hst
          cases dn with
          | true =>
            rw [if_neg (by simp)] at hst
            have HI2 : Hid (out ++ [⟨eo, ec, ⟨e1, e2, e3, e4, e5⟩⟩] ++ rsO entLt entIs ⟨eo, xc, ⟨x1, x2, x3, x4, x5⟩⟩ (l.drop (k + 1)) true = R) := by
              show _ = _
              rw [List.append_assoc, List.singleton_append, ← hst]
              exact HI.out
            clear hst hs
            obtain ⟨q0, q1, q2, q3, q4, q5, q6⟩ := cells7_regrown HE.out
            obtain ⟨k0, k1, k2, k3, k4, k5, k6⟩ := cells7_regrown KX.out
            simp only [Nat.zero_add] at k0 k1 k2 k3 k4 k5 k6
            try simp only at q0 q1 q2 q3 q4 q5 q6
            go_wp2_with fail
            refine wp_region_quiet_below (by kernel_rfl) (by kernel_rfl) ?_
            repeat (go_big_quiet_step (fail))
            refine wpQuiet_nil ?_
            intro w5 hw5
            have b5 := regrown_belowP hw5
            replace HE := Lib.hid (HE.out.later b5)
            replace KX := Lib.hid (KX.out.later b5)
            replace HO := Lib.hid (HO.out.later b5)
            replace HN := Lib.hid (below2S HN.out b5)
            clear hw5 b5 q0 q1 q2 q3 q4 q5 q6 k0 k1 k2 k3 k4 k5 k6
            go_wp2_with fail
            obtain ⟨q0, q1, q2, q3, q4, q5, q6⟩ := cells7_regrown HE.out
            obtain ⟨k0, k1, k2, k3, k4, k5, k6⟩ := cells7_regrown KX.out
            simp only [Nat.zero_add] at k0 k1 k2 k3 k4 k5 k6
            try simp only at q0 q1 q2 q3 q4 q5 q6
            refine wp_region_quiet_below (by kernel_rfl) (by kernel_rfl) ?_
            repeat (go_big_quiet_step (fail))
            refine wpQuiet_nil ?_
            intro w6 hw6
            have b6 := regrown_belowP hw6
            replace HE := Lib.hid (HE.out.later b6)
            replace KX := Lib.hid (KX.out.later b6)
            replace HO := Lib.hid (HO.out.later b6)
            replace HN := Lib.hid (below2S HN.out b6)
            clear hw6 b6 q0 q1 q2 q3 q4 q5 q6 k0 k1 k2 k3 k4 k5 k6
            obtain ⟨q0, q1, q2, q3, q4, q5, q6⟩ := HE.out
            try simp only at q0 q1 q2 q3 q4 q5 q6
            have bb := bl_newZ w6 (.cells #[.string ⟨eo.toArray⟩, .string ⟨ec.toArray⟩, .bool e1, .bool e2, .bool e3, .bool e4, .bool e5] 87)
            have O2 := Lib.hid (HO.out.later bb)
            have N2 := Lib.hid (below2S HN.out bb)
            have HS := Lib.hid (srcS_new (vals := entVals) (w := w6) (r := ⟨eo, ec, ⟨e1, e2, e3, e4, e5⟩⟩) (cs := #[.string ⟨eo.toArray⟩, .string ⟨ec.toArray⟩, .bool e1, .bool e2, .bool e3, .bool e4, .bool e5]) rfl (e := 87) (B := w6.heap.size) rfl)
            have HBS := Lib.hid N2.out.size
            have HCL : Hid ((out).length + 1 < 4294967296) := by show _ < _; have := HOL.out; simp; omega
            clear bb
            go_wp2_with (at_builtin; go_must (refine wpList_append_S entOK rfl _ _ rfl W0.heap.size _ (out) rfl (by exact O2.out) _ 1 1 [⟨eo, ec, ⟨e1, e2, e3, e4, e5⟩⟩] rfl rfl (fun e => nomatch e) ?c1 (by exact HCL.out) (by exact HBS.out) ?_))
            case c1 => first | exact HS.out _ rfl | exact HS.out
            intro v9 w9 hown hb'
            replace HO := Lib.hid hown
            replace HN := Lib.hid (N2.out.trans hb')
            clear hown O2 N2 HS HBS HCL
            clear q0 q1 q2 q3 q4 q5 q6
            go_wp2_with fail
            go_roundw
            case rel => exact ⟨k + 1, true, _, _, by omega, by go_num, rfl, rfl, HO, HI2, HN⟩
            case measure => simp [intOf]; omega
          | false =>
            obtain ⟨p, hp⟩ : ∃ p, entLt ⟨eo, xc, ⟨x1, x2, x3, x4, x5⟩⟩ ⟨eo, ec, ⟨e1, e2, e3, e4, e5⟩⟩ = p := ⟨_, rfl⟩
            have AH := Lib.hid (rahead8_any eo xc x1 x2 x3 x4 x5 eo ec e1 e2 e3 e4 e5 (Lib.hid hp))
            rw [hp] at hst
            clear hp hs
            cases p with
            | false =>
              rw [if_neg (by simp)] at hst
              have HI2 : Hid (out ++ [⟨eo, ec, ⟨e1, e2, e3, e4, e5⟩⟩] ++ rsO entLt entIs ⟨eo, xc, ⟨x1, x2, x3, x4, x5⟩⟩ (l.drop (k + 1)) false = R) := by
                show _ = _
                rw [List.append_assoc, List.singleton_append, ← hst]
                exact HI.out
              clear hst
              obtain ⟨q0, q1, q2, q3, q4, q5, q6⟩ := cells7_regrown HE.out
              obtain ⟨k0, k1, k2, k3, k4, k5, k6⟩ := cells7_regrown KX.out
              simp only [Nat.zero_add] at k0 k1 k2 k3 k4 k5 k6
              try simp only at q0 q1 q2 q3 q4 q5 q6
              go_wp2_with fail
              refine wp_region_quiet_below (by kernel_rfl) (by kernel_rfl) ?_
              repeat (go_big_quiet_step (fail))
              refine wpQuiet_nil ?_
              intro w5 hw5
              have b5 := regrown_belowP hw5
              replace HE := Lib.hid (HE.out.later b5)
              replace KX := Lib.hid (KX.out.later b5)
              replace HO := Lib.hid (HO.out.later b5)
              replace HN := Lib.hid (below2S HN.out b5)
              clear hw5 b5 q0 q1 q2 q3 q4 q5 q6 k0 k1 k2 k3 k4 k5 k6
              go_wp2_with fail
              obtain ⟨q0, q1, q2, q3, q4, q5, q6⟩ := cells7_regrown HE.out
              obtain ⟨k0, k1, k2, k3, k4, k5, k6⟩ := cells7_regrown KX.out
              simp only [Nat.zero_add] at k0 k1 k2 k3 k4 k5 k6
              try simp only at q0 q1 q2 q3 q4 q5 q6
              refine wp_region_quiet_below (by kernel_rfl) (by kernel_rfl) ?_
              repeat (go_big_quiet_step (with_reducible exact rgB AH.out _ _ _))
              refine wpQuiet_nil ?_
              intro w6 hw6
              have b6 := regrown_belowP hw6
              replace HE := Lib.hid (HE.out.later b6)
              replace KX := Lib.hid (KX.out.later b6)
              replace HO := Lib.hid (HO.out.later b6)
              replace HN := Lib.hid (below2S HN.out b6)
              clear hw6 b6 q0 q1 q2 q3 q4 q5 q6 k0 k1 k2 k3 k4 k5 k6
              obtain ⟨q0, q1, q2, q3, q4, q5, q6⟩ := HE.out
              try simp only at q0 q1 q2 q3 q4 q5 q6
              have bb := bl_newZ w6 (.cells #[.string ⟨eo.toArray⟩, .string ⟨ec.toArray⟩, .bool e1, .bool e2, .bool e3, .bool e4, .bool e5] 87)
              have O2 := Lib.hid (HO.out.later bb)
              have N2 := Lib.hid (below2S HN.out bb)
              have HS := Lib.hid (srcS_new (vals := entVals) (w := w6) (r := ⟨eo, ec, ⟨e1, e2, e3, e4, e5⟩⟩) (cs := #[.string ⟨eo.toArray⟩, .string ⟨ec.toArray⟩, .bool e1, .bool e2, .bool e3, .bool e4, .bool e5]) rfl (e := 87) (B := w6.heap.size) rfl)
              have HBS := Lib.hid N2.out.size
              have HCL : Hid ((out).length + 1 < 4294967296) := by show _ < _; have := HOL.out; simp; omega
              clear bb
              go_wp2_with (at_builtin; go_must (refine wpList_append_S entOK rfl _ _ rfl W0.heap.size _ (out) rfl (by exact O2.out) _ 1 1 [⟨eo, ec, ⟨e1, e2, e3, e4, e5⟩⟩] rfl rfl (fun e => nomatch e) ?c1 (by exact HCL.out) (by exact HBS.out) ?_))
              case c1 => first | exact HS.out _ rfl | exact HS.out
              intro v9 w9 hown hb'
              replace HO := Lib.hid hown
              replace HN := Lib.hid (N2.out.trans hb')
              clear hown O2 N2 HS HBS HCL
              clear q0 q1 q2 q3 q4 q5 q6
              go_wp2_with fail
              go_roundw
              case rel => exact ⟨k + 1, false, _, _, by omega, by go_num, rfl, rfl, HO, HI2, HN⟩
              case measure => simp [intOf]; omega
            | true =>
              rw [if_pos (by simp)] at hst
              have HI2 : Hid (out ++ [⟨eo, xc, ⟨x1, x2, x3, x4, x5⟩⟩, ⟨eo, ec, ⟨e1, e2, e3, e4, e5⟩⟩] ++ rsO entLt entIs ⟨eo, xc, ⟨x1, x2, x3, x4, x5⟩⟩ (l.drop (k + 1)) true = R) := by
                show _ = _
                rw [List.append_assoc, List.cons_append, List.singleton_append, ← hst]
                exact HI.out
              clear hst
              obtain ⟨q0, q1, q2, q3, q4, q5, q6⟩ := cells7_regrown HE.out
              obtain ⟨k0, k1, k2, k3, k4, k5, k6⟩ := cells7_regrown KX.out
              simp only [Nat.zero_add] at k0 k1 k2 k3 k4 k5 k6
              try simp only at q0 q1 q2 q3 q4 q5 q6
              go_wp2_with fail
              refine wp_region_quiet_below (by kernel_rfl) (by kernel_rfl) ?_
              repeat (go_big_quiet_step (fail))
              refine wpQuiet_nil ?_
              intro w5 hw5
              have b5 := regrown_belowP hw5
              replace HE := Lib.hid (HE.out.later b5)
              replace KX := Lib.hid (KX.out.later b5)
              replace HO := Lib.hid (HO.out.later b5)
              replace HN := Lib.hid (below2S HN.out b5)
              clear hw5 b5 q0 q1 q2 q3 q4 q5 q6 k0 k1 k2 k3 k4 k5 k6
              go_wp2_with fail
              obtain ⟨q0, q1, q2, q3, q4, q5, q6⟩ := cells7_regrown HE.out
              obtain ⟨k0, k1, k2, k3, k4, k5, k6⟩ := cells7_regrown KX.out
              simp only [Nat.zero_add] at k0 k1 k2 k3 k4 k5 k6
              try simp only at q0 q1 q2 q3 q4 q5 q6
              refine wp_region_quiet_below (by kernel_rfl) (by kernel_rfl) ?_
              repeat (go_big_quiet_step (with_reducible exact rgB AH.out _ _ _))
              refine wpQuiet_nil ?_
              intro w6 hw6
              have b6 := regrown_belowP hw6
              replace HE := Lib.hid (HE.out.later b6)
              replace KX := Lib.hid (KX.out.later b6)
              replace HO := Lib.hid (HO.out.later b6)
              replace HN := Lib.hid (below2S HN.out b6)
              clear hw6 b6 q0 q1 q2 q3 q4 q5 q6 k0 k1 k2 k3 k4 k5 k6
              obtain ⟨k0, k1, k2, k3, k4, k5, k6⟩ := KX.out
              simp only [Nat.zero_add] at k0 k1 k2 k3 k4 k5 k6
              have bb := bl_newZ w6 (.cells #[.string ⟨eo.toArray⟩, .string ⟨xc.toArray⟩, .bool x1, .bool x2, .bool x3, .bool x4, .bool x5] 87)
              have O2 := Lib.hid (HO.out.later bb)
              have N2 := Lib.hid (below2S HN.out bb)
              have HS := Lib.hid (srcS_new (vals := entVals) (w := w6) (r := ⟨eo, xc, ⟨x1, x2, x3, x4, x5⟩⟩) (cs := #[.string ⟨eo.toArray⟩, .string ⟨xc.toArray⟩, .bool x1, .bool x2, .bool x3, .bool x4, .bool x5]) rfl (e := 87) (B := w6.heap.size) rfl)
              have HBS := Lib.hid N2.out.size
              have HCL : Hid ((out).length + 1 < 4294967296) := by show _ < _; have := HOL.out; simp; omega
              clear bb
              go_wp2_with (at_builtin; go_must (refine wpList_append_S entOK rfl _ _ rfl W0.heap.size _ (out) rfl (by exact O2.out) _ 1 1 [⟨eo, xc, ⟨x1, x2, x3, x4, x5⟩⟩] rfl rfl (fun e => nomatch e) ?c1 (by exact HCL.out) (by exact HBS.out) ?_))
              case c1 => first | exact HS.out _ rfl | exact HS.out
              intro v8 w8 hown hb'
              replace HO := Lib.hid hown
              replace HN := Lib.hid (N2.out.trans hb')
              clear hown O2 N2 HS HBS HCL
              have HE8 := (HV.out.row HN.out k hlt)
              rw [HER.out] at HE8
              obtain ⟨b8, off8, e8, hc8⟩ := HE8
              injection e8 with e8
              injection e8 with e9 e10 _
              subst e9 e10
              replace HE := Lib.hid hc8
              clear hc8
              clear k0 k1 k2 k3 k4 k5 k6
              obtain ⟨q0, q1, q2, q3, q4, q5, q6⟩ := HE.out
              try simp only at q0 q1 q2 q3 q4 q5 q6
              have bb := bl_newZ w8 (.cells #[.string ⟨eo.toArray⟩, .string ⟨ec.toArray⟩, .bool e1, .bool e2, .bool e3, .bool e4, .bool e5] 87)
              have O2 := Lib.hid (HO.out.later bb)
              have N2 := Lib.hid (below2S HN.out bb)
              have HS := Lib.hid (srcS_new (vals := entVals) (w := w8) (r := ⟨eo, ec, ⟨e1, e2, e3, e4, e5⟩⟩) (cs := #[.string ⟨eo.toArray⟩, .string ⟨ec.toArray⟩, .bool e1, .bool e2, .bool e3, .bool e4, .bool e5]) rfl (e := 87) (B := w8.heap.size) rfl)
              have HBS := Lib.hid N2.out.size
              have HCL : Hid ((out ++ ([⟨eo, xc, ⟨x1, x2, x3, x4, x5⟩⟩] : List Ent)).length + 1 < 4294967296) := by show _ < _; have := HOL.out; simp; omega
              clear bb
              go_wp2_with (at_builtin; go_must (refine wpList_append_S entOK rfl _ _ rfl W0.heap.size _ (out ++ ([⟨eo, xc, ⟨x1, x2, x3, x4, x5⟩⟩] : List Ent)) rfl (by exact O2.out) _ 1 1 [⟨eo, ec, ⟨e1, e2, e3, e4, e5⟩⟩] rfl rfl (fun e => nomatch e) ?c1 (by exact HCL.out) (by exact HBS.out) ?_))
              case c1 => first | exact HS.out _ rfl | exact HS.out
              intro v9 w9 hown hb'
              replace HO := Lib.hid hown
              replace HN := Lib.hid (N2.out.trans hb')
              clear hown O2 N2 HS HBS HCL
              clear q0 q1 q2 q3 q4 q5 q6
              go_wp2_with fail
              go_roundw
              case rel => exact ⟨k + 1, true, _, _, by omega, by go_num, rfl, rfl, HO, HI2, HN⟩
              case measure => simp [intOf]; omega

      · skip
        have t2 : (eo == xo) = false := by rw [beq_eq_false_iff_ne]; exact ho
        have hs : entIs ⟨eo, ec, ⟨e1, e2, e3, e4, e5⟩⟩ ⟨xo, xc, ⟨x1, x2, x3, x4, x5⟩⟩ = false := by
          rw [Bool.eq_false_iff]
          intro h'
          have h2 := entIs_iff.1 h'
          exact ho h2.1
        rw [if_neg (by rw [hs]; decide)] at hst
        cases dn with
        | true =>
          rw [if_neg (by simp)] at hst
          have HI2 : Hid (out ++ [⟨eo, ec, ⟨e1, e2, e3, e4, e5⟩⟩] ++ rsO entLt entIs ⟨xo, xc, ⟨x1, x2, x3, x4, x5⟩⟩ (l.drop (k + 1)) true = R) := by
            show _ = _
            rw [List.append_assoc, List.singleton_append, ← hst]
            exact HI.out
          clear hst hs
          obtain ⟨q0, q1, q2, q3, q4, q5, q6⟩ := cells7_regrown HE.out
          obtain ⟨k0, k1, k2, k3, k4, k5, k6⟩ := cells7_regrown KX.out
          simp only [Nat.zero_add] at k0 k1 k2 k3 k4 k5 k6
          try simp only at q0 q1 q2 q3 q4 q5 q6
          go_wp2_with fail
          refine wp_region_quiet_below (by kernel_rfl) (by kernel_rfl) ?_
          repeat (go_big_quiet_step (fail))
          refine wpQuiet_nil ?_
          intro w5 hw5
          have b5 := regrown_belowP hw5
          replace HE := Lib.hid (HE.out.later b5)
          replace KX := Lib.hid (KX.out.later b5)
          replace HO := Lib.hid (HO.out.later b5)
          replace HN := Lib.hid (below2S HN.out b5)
          clear hw5 b5 q0 q1 q2 q3 q4 q5 q6 k0 k1 k2 k3 k4 k5 k6
          go_wp2_with fail
          obtain ⟨q0, q1, q2, q3, q4, q5, q6⟩ := cells7_regrown HE.out
          obtain ⟨k0, k1, k2, k3, k4, k5, k6⟩ := cells7_regrown KX.out
          simp only [Nat.zero_add] at k0 k1 k2 k3 k4 k5 k6
          try simp only at q0 q1 q2 q3 q4 q5 q6
          refine wp_region_quiet_below (by kernel_rfl) (by kernel_rfl) ?_
          repeat (go_big_quiet_step (fail))
          refine wpQuiet_nil ?_
          intro w6 hw6
          have b6 := regrown_belowP hw6
          replace HE := Lib.hid (HE.out.later b6)
          replace KX := Lib.hid (KX.out.later b6)
          replace HO := Lib.hid (HO.out.later b6)
          replace HN := Lib.hid (below2S HN.out b6)
          clear hw6 b6 q0 q1 q2 q3 q4 q5 q6 k0 k1 k2 k3 k4 k5 k6
          obtain ⟨q0, q1, q2, q3, q4, q5, q6⟩ := HE.out
          try simp only at q0 q1 q2 q3 q4 q5 q6
          have bb := bl_newZ w6 (.cells #[.string ⟨eo.toArray⟩, .string ⟨ec.toArray⟩, .bool e1, .bool e2, .bool e3, .bool e4, .bool e5] 87)
          have O2 := Lib.hid (HO.out.later bb)
          have N2 := Lib.hid (below2S HN.out bb)
          have HS := Lib.hid (srcS_new (vals := entVals) (w := w6) (r := ⟨eo, ec, ⟨e1, e2, e3, e4, e5⟩⟩) (cs := #[.string ⟨eo.toArray⟩, .string ⟨ec.toArray⟩, .bool e1, .bool e2, .bool e3, .bool e4, .bool e5]) rfl (e := 87) (B := w6.heap.size) rfl)
          have HBS := Lib.hid N2.out.size
          have HCL : Hid ((out).length + 1 < 4294967296) := by show _ < _; have := HOL.out; simp; omega
          clear bb
          go_wp2_with (at_builtin; go_must (refine wpList_append_S entOK rfl _ _ rfl W0.heap.size _ (out) rfl (by exact O2.out) _ 1 1 [⟨eo, ec, ⟨e1, e2, e3, e4, e5⟩⟩] rfl rfl (fun e => nomatch e) ?c1 (by exact HCL.out) (by exact HBS.out) ?_))
          case c1 => first | exact HS.out _ rfl | exact HS.out
          intro v9 w9 hown hb'
          replace HO := Lib.hid hown
          replace HN := Lib.hid (N2.out.trans hb')
          clear hown O2 N2 HS HBS HCL
          clear q0 q1 q2 q3 q4 q5 q6
          go_wp2_with fail
          go_roundw
          case rel => exact ⟨k + 1, true, _, _, by omega, by go_num, rfl, rfl, HO, HI2, HN⟩
          case measure => simp [intOf]; omega
        | false =>
          obtain ⟨p, hp⟩ : ∃ p, entLt ⟨xo, xc, ⟨x1, x2, x3, x4, x5⟩⟩ ⟨eo, ec, ⟨e1, e2, e3, e4, e5⟩⟩ = p := ⟨_, rfl⟩
          have AH := Lib.hid (rahead8_any xo xc x1 x2 x3 x4 x5 eo ec e1 e2 e3 e4 e5 (Lib.hid hp))
          rw [hp] at hst
          clear hp hs
          cases p with
          | false =>
            rw [if_neg (by simp)] at hst
            have HI2 : Hid (out ++ [⟨eo, ec, ⟨e1, e2, e3, e4, e5⟩⟩] ++ rsO entLt entIs ⟨xo, xc, ⟨x1, x2, x3, x4, x5⟩⟩ (l.drop (k + 1)) false = R) := by
              show _ = _
              rw [List.append_assoc, List.singleton_append, ← hst]
              exact HI.out
            clear hst
            obtain ⟨q0, q1, q2, q3, q4, q5, q6⟩ := cells7_regrown HE.out
            obtain ⟨k0, k1, k2, k3, k4, k5, k6⟩ := cells7_regrown KX.out
            simp only [Nat.zero_add] at k0 k1 k2 k3 k4 k5 k6
            try simp only at q0 q1 q2 q3 q4 q5 q6
            go_wp2_with fail
            refine wp_region_quiet_below (by kernel_rfl) (by kernel_rfl) ?_
            repeat (go_big_quiet_step (fail))
            refine wpQuiet_nil ?_
            intro w5 hw5
            have b5 := regrown_belowP hw5
            replace HE := Lib.hid (HE.out.later b5)
            replace KX := Lib.hid (KX.out.later b5)
            replace HO := Lib.hid (HO.out.later b5)
            replace HN := Lib.hid (below2S HN.out b5)
            clear hw5 b5 q0 q1 q2 q3 q4 q5 q6 k0 k1 k2 k3 k4 k5 k6
            go_wp2_with fail
            obtain ⟨q0, q1, q2, q3, q4, q5, q6⟩ := cells7_regrown HE.out
            obtain ⟨k0, k1, k2, k3, k4, k5, k6⟩ := cells7_regrown KX.out
            simp only [Nat.zero_add] at k0 k1 k2 k3 k4 k5 k6
            try simp only at q0 q1 q2 q3 q4 q5 q6
            refine wp_region_quiet_below (by kernel_rfl) (by kernel_rfl) ?_
            repeat (go_big_quiet_step (with_reducible exact rgB AH.out _ _ _))
            refine wpQuiet_nil ?_
            intro w6 hw6
            have b6 := regrown_belowP hw6
            replace HE := Lib.hid (HE.out.later b6)
            replace KX := Lib.hid (KX.out.later b6)
            replace HO := Lib.hid (HO.out.later b6)
            replace HN := Lib.hid (below2S HN.out b6)
            clear hw6 b6 q0 q1 q2 q3 q4 q5 q6 k0 k1 k2 k3 k4 k5 k6
            obtain ⟨q0, q1, q2, q3, q4, q5, q6⟩ := HE.out
            try simp only at q0 q1 q2 q3 q4 q5 q6
            have bb := bl_newZ w6 (.cells #[.string ⟨eo.toArray⟩, .string ⟨ec.toArray⟩, .bool e1, .bool e2, .bool e3, .bool e4, .bool e5] 87)
            have O2 := Lib.hid (HO.out.later bb)
            have N2 := Lib.hid (below2S HN.out bb)
            have HS := Lib.hid (srcS_new (vals := entVals) (w := w6) (r := ⟨eo, ec, ⟨e1, e2, e3, e4, e5⟩⟩) (cs := #[.string ⟨eo.toArray⟩, .string ⟨ec.toArray⟩, .bool e1, .bool e2, .bool e3, .bool e4, .bool e5]) rfl (e := 87) (B := w6.heap.size) rfl)
            have HBS := Lib.hid N2.out.size
            have HCL : Hid ((out).length + 1 < 4294967296) := by show _ < _; have := HOL.out; simp; omega
            clear bb
            go_wp2_with (at_builtin; go_must (refine wpList_append_S entOK rfl _ _ rfl W0.heap.size _ (out) rfl (by exact O2.out) _ 1 1 [⟨eo, ec, ⟨e1, e2, e3, e4, e5⟩⟩] rfl rfl (fun e => nomatch e) ?c1 (by exact HCL.out) (by exact HBS.out) ?_))
            case c1 => first | exact HS.out _ rfl | exact HS.out
            intro v9 w9 hown hb'
            replace HO := Lib.hid hown
            replace HN := Lib.hid (N2.out.trans hb')
            clear hown O2 N2 HS HBS HCL
            clear q0 q1 q2 q3 q4 q5 q6
            go_wp2_with fail
            go_roundw
            case rel => exact ⟨k + 1, false, _, _, by omega, by go_num, rfl, rfl, HO, HI2, HN⟩
            case measure => simp [intOf]; omega
          | true =>
            rw [if_pos (by simp)] at hst
            have HI2 : Hid (out ++ [⟨xo, xc, ⟨x1, x2, x3, x4, x5⟩⟩, ⟨eo, ec, ⟨e1, e2, e3, e4, e5⟩⟩] ++ rsO entLt entIs ⟨xo, xc, ⟨x1, x2, x3, x4, x5⟩⟩ (l.drop (k + 1)) true = R) := by
              show _ = _
              rw [List.append_assoc, List.cons_append, List.singleton_append, ← hst]
              exact HI.out
            clear hst
            obtain ⟨q0, q1, q2, q3, q4, q5, q6⟩ := cells7_regrown HE.out
            obtain ⟨k0, k1, k2, k3, k4, k5, k6⟩ := cells7_regrown KX.out
            simp only [Nat.zero_add] at k0 k1 k2 k3 k4 k5 k6
            try simp only at q0 q1 q2 q3 q4 q5 q6
            go_wp2_with fail
            refine wp_region_quiet_below (by kernel_rfl) (by kernel_rfl) ?_
            repeat (go_big_quiet_step (fail))
            refine wpQuiet_nil ?_
            intro w5 hw5
            have b5 := regrown_belowP hw5
            replace HE := Lib.hid (HE.out.later b5)
            replace KX := Lib.hid (KX.out.later b5)
            replace HO := Lib.hid (HO.out.later b5)
            replace HN := Lib.hid (below2S HN.out b5)
            clear hw5 b5 q0 q1 q2 q3 q4 q5 q6 k0 k1 k2 k3 k4 k5 k6
            go_wp2_with fail
            obtain ⟨q0, q1, q2, q3, q4, q5, q6⟩ := cells7_regrown HE.out
            obtain ⟨k0, k1, k2, k3, k4, k5, k6⟩ := cells7_regrown KX.out
            simp only [Nat.zero_add] at k0 k1 k2 k3 k4 k5 k6
            try simp only at q0 q1 q2 q3 q4 q5 q6
            refine wp_region_quiet_below (by kernel_rfl) (by kernel_rfl) ?_
            repeat (go_big_quiet_step (with_reducible exact rgB AH.out _ _ _))
            refine wpQuiet_nil ?_
            intro w6 hw6
            have b6 := regrown_belowP hw6
            replace HE := Lib.hid (HE.out.later b6)
            replace KX := Lib.hid (KX.out.later b6)
            replace HO := Lib.hid (HO.out.later b6)
            replace HN := Lib.hid (below2S HN.out b6)
            clear hw6 b6 q0 q1 q2 q3 q4 q5 q6 k0 k1 k2 k3 k4 k5 k6
            obtain ⟨k0, k1, k2, k3, k4, k5, k6⟩ := KX.out
            simp only [Nat.zero_add] at k0 k1 k2 k3 k4 k5 k6
            have bb := bl_newZ w6 (.cells #[.string ⟨xo.toArray⟩, .string ⟨xc.toArray⟩, .bool x1, .bool x2, .bool x3, .bool x4, .bool x5] 87)
            have O2 := Lib.hid (HO.out.later bb)
            have N2 := Lib.hid (below2S HN.out bb)
            have HS := Lib.hid (srcS_new (vals := entVals) (w := w6) (r := ⟨xo, xc, ⟨x1, x2, x3, x4, x5⟩⟩) (cs := #[.string ⟨xo.toArray⟩, .string ⟨xc.toArray⟩, .bool x1, .bool x2, .bool x3, .bool x4, .bool x5]) rfl (e := 87) (B := w6.heap.size) rfl)
            have HBS := Lib.hid N2.out.size
            have HCL : Hid ((out).length + 1 < 4294967296) := by show _ < _; have := HOL.out; simp; omega
            clear bb
            go_wp2_with (at_builtin; go_must (refine wpList_append_S entOK rfl _ _ rfl W0.heap.size _ (out) rfl (by exact O2.out) _ 1 1 [⟨xo, xc, ⟨x1, x2, x3, x4, x5⟩⟩] rfl rfl (fun e => nomatch e) ?c1 (by exact HCL.out) (by exact HBS.out) ?_))
            case c1 => first | exact HS.out _ rfl | exact HS.out
            intro v8 w8 hown hb'
            replace HO := Lib.hid hown
            replace HN := Lib.hid (N2.out.trans hb')
            clear hown O2 N2 HS HBS HCL
            have HE8 := (HV.out.row HN.out k hlt)
            rw [HER.out] at HE8
            obtain ⟨b8, off8, e8, hc8⟩ := HE8
            injection e8 with e8
            injection e8 with e9 e10 _
            subst e9 e10
            replace HE := Lib.hid hc8
            clear hc8
            clear k0 k1 k2 k3 k4 k5 k6
            obtain ⟨q0, q1, q2, q3, q4, q5, q6⟩ := HE.out
            try simp only at q0 q1 q2 q3 q4 q5 q6
            have bb := bl_newZ w8 (.cells #[.string ⟨eo.toArray⟩, .string ⟨ec.toArray⟩, .bool e1, .bool e2, .bool e3, .bool e4, .bool e5] 87)
            have O2 := Lib.hid (HO.out.later bb)
            have N2 := Lib.hid (below2S HN.out bb)
            have HS := Lib.hid (srcS_new (vals := entVals) (w := w8) (r := ⟨eo, ec, ⟨e1, e2, e3, e4, e5⟩⟩) (cs := #[.string ⟨eo.toArray⟩, .string ⟨ec.toArray⟩, .bool e1, .bool e2, .bool e3, .bool e4, .bool e5]) rfl (e := 87) (B := w8.heap.size) rfl)
            have HBS := Lib.hid N2.out.size
            have HCL : Hid ((out ++ ([⟨xo, xc, ⟨x1, x2, x3, x4, x5⟩⟩] : List Ent)).length + 1 < 4294967296) := by show _ < _; have := HOL.out; simp; omega
            clear bb
            go_wp2_with (at_builtin; go_must (refine wpList_append_S entOK rfl _ _ rfl W0.heap.size _ (out ++ ([⟨xo, xc, ⟨x1, x2, x3, x4, x5⟩⟩] : List Ent)) rfl (by exact O2.out) _ 1 1 [⟨eo, ec, ⟨e1, e2, e3, e4, e5⟩⟩] rfl rfl (fun e => nomatch e) ?c1 (by exact HCL.out) (by exact HBS.out) ?_))
            case c1 => first | exact HS.out _ rfl | exact HS.out
            intro v9 w9 hown hb'
            replace HO := Lib.hid hown
            replace HN := Lib.hid (N2.out.trans hb')
            clear hown O2 N2 HS HBS HCL
            clear q0 q1 q2 q3 q4 q5 q6
            go_wp2_with fail
            go_roundw
            case rel => exact ⟨k + 1, true, _, _, by omega, by go_num, rfl, rfl, HO, HI2, HN⟩
            case measure => simp [intOf]; omega


    · obtain rfl : k = l.length := by omega
      have hI := HI.out
      rw [List.drop_length] at hI
      have hwz : Hid (w.heap.size ≤ W0.heap.size) := by show _ ≤ _; have := HSZ.out; omega
      have HOL : Hid (out.length ≤ 1001) := by
        show _ ≤ _
        have h1 := congrArg List.length HI.out
        rw [List.length_append] at h1
        have := HRL.out
        omega
      cases dn with
      | true =>
        have HI2 : Hid (out = R) := by
          show _ = _
          rw [← hI]
          unfold rsO
          simp
        clear hI
        go_wp2_with fail
        go_ret
        exact ⟨_, rfl, by rw [← HI2.out]; exact ownS_low HO.out hwz.out, B0.out.trans (HN.out.mono hwz.out)⟩
      | false =>
        have HI2 : Hid (out ++ [⟨xo, xc, ⟨x1, x2, x3, x4, x5⟩⟩] = R) := by
          show _ = _
          rw [← hI]
          unfold rsO
          simp
        have KX := Lib.hid (K0.out.later_at HN.out HSZ.out)
        clear hI
        obtain ⟨k0, k1, k2, k3, k4, k5, k6⟩ := KX.out
        simp only [Nat.zero_add] at k0 k1 k2 k3 k4 k5 k6
        have bb := bl_newZ wr (.cells #[.string ⟨xo.toArray⟩, .string ⟨xc.toArray⟩, .bool x1, .bool x2, .bool x3, .bool x4, .bool x5] 87)
        have O2 := Lib.hid (HO.out.later bb)
        have N2 := Lib.hid (below2S HN.out bb)
        have HS := Lib.hid (srcS_new (vals := entVals) (w := wr) (r := ⟨xo, xc, ⟨x1, x2, x3, x4, x5⟩⟩) (cs := #[.string ⟨xo.toArray⟩, .string ⟨xc.toArray⟩, .bool x1, .bool x2, .bool x3, .bool x4, .bool x5]) rfl (e := 87) (B := wr.heap.size) rfl)
        have HBS := Lib.hid N2.out.size
        have HCL : Hid ((out).length + 1 < 4294967296) := by show _ < _; have := HOL.out; simp; omega
        clear bb
        go_wp2_with (at_builtin; go_must (refine wpList_append_S entOK rfl _ _ rfl W0.heap.size _ (out) rfl (by exact O2.out) _ 1 1 [⟨xo, xc, ⟨x1, x2, x3, x4, x5⟩⟩] rfl rfl (fun e => nomatch e) ?c1 (by exact HCL.out) (by exact HBS.out) ?_))
        case c1 => first | exact HS.out _ rfl | exact HS.out
        intro v8 w8 hown hb'
        replace HO := Lib.hid hown
        replace HN := Lib.hid (N2.out.trans hb')
        clear hown O2 N2 HS HBS HCL
        clear k0 k1 k2 k3 k4 k5 k6
        go_wp2_with fail
        go_ret
        exact ⟨_, rfl, by rw [← HI2.out]; exact ownS_low HO.out hwz.out, B0.out.trans (HN.out.mono hwz.out)⟩

end Go.Proofs.YtdilcckoapaimaaGreat

end

section

/-
  LAYER 8, THE DOCUMENT's: Do.
-/
namespace Go.Proofs.YtdilcckoapaimaaGreat
open Go.RowKit

set_option maxHeartbeats 3200000 in
set_option maxRecDepth 100000 in
theorem rdodA {w : World} {v : Value} {l : List Ent} (hv : Ents w v l) (hs : ShortE l) (hl : l.length ≤ 900) (u o : List UInt8) (hu : u.length ≤ 4294967296) (ho : o.length ≤ 4294967296) (k : Int) (hm : roMayD l = false) :
    Calls Tryz.prog 49 #[v, .int .i64 k, .string ⟨u.toArray⟩, .string ⟨o.toArray⟩] w fun e w' => ∃ v', e = .returned (.tuple #[v', .int .i64 1]) ∧ Ents w' v' l ∧ Below w.heap.size w w' := by
  have HV := Lib.hid hv
  have HM := Lib.hid (rmay8_any hv hs (by omega) (Lib.hid hm))
  obtain ⟨a, cap, rfl, hmx⟩ := hv.open'
  clear hv hs hm
  go_enter Tryz.func49, Tryz.ntmps49
  go_wp2_with fail
  refine HM.out.mono ?_
  rintro e w1 ⟨rfl, b⟩
  have HB := Lib.hid b
  clear b
  go_wp2_with fail
  go_ret2
  exact ⟨_, rfl, HV.out.later HB.out, HB.out⟩

set_option maxHeartbeats 3200000 in
set_option maxRecDepth 100000 in
theorem rdodB {w : World} {v : Value} {l : List Ent} (hv : Ents w v l) (hs : ShortE l) (hl : l.length ≤ 900) (u o : List UInt8) (hu : u.length ≤ 4294967296) (ho : o.length ≤ 4294967296) (k : Int) (hm : roMayD l = true) (h1 : idIs u = false) :
    Calls Tryz.prog 49 #[v, .int .i64 k, .string ⟨u.toArray⟩, .string ⟨o.toArray⟩] w fun e w' => ∃ v', e = .returned (.tuple #[v', .int .i64 1]) ∧ Ents w' v' l ∧ Below w.heap.size w w' := by
  have HV := Lib.hid hv
  have HM := Lib.hid (rmay8_any hv hs (by omega) (Lib.hid hm))
  have I1 := ris_any u hu
  rw [h1] at I1
  replace I1 := Lib.hid I1
  clear h1
  obtain ⟨a, cap, rfl, hmx⟩ := hv.open'
  clear hv hs hm
  go_enter Tryz.func49, Tryz.ntmps49
  go_wp2_with fail
  refine HM.out.mono ?_
  rintro e w1 ⟨rfl, b⟩
  have HB := Lib.hid b
  clear b
  go_wp2_with fail
  refine (I1.out _).mono ?_
  rintro e w2 ⟨rfl, rfl⟩
  go_wp2_with fail
  go_ret2
  exact ⟨_, rfl, HV.out.later HB.out, HB.out⟩

set_option maxHeartbeats 3200000 in
set_option maxRecDepth 100000 in
theorem rdodC {w : World} {v : Value} {l : List Ent} (hv : Ents w v l) (hs : ShortE l) (hl : l.length ≤ 900) (u o : List UInt8) (hu : u.length ≤ 4294967296) (ho : o.length ≤ 4294967296) (k : Int) (hm : roMayD l = true) (h1 : idIs u = true) (h2 : idIs o = false) :
    Calls Tryz.prog 49 #[v, .int .i64 k, .string ⟨u.toArray⟩, .string ⟨o.toArray⟩] w fun e w' => ∃ v', e = .returned (.tuple #[v', .int .i64 1]) ∧ Ents w' v' l ∧ Below w.heap.size w w' := by
  have HV := Lib.hid hv
  have HM := Lib.hid (rmay8_any hv hs (by omega) (Lib.hid hm))
  have I1 := ris_any u hu
  rw [h1] at I1
  replace I1 := Lib.hid I1
  have I2 := ris_any o ho
  rw [h2] at I2
  replace I2 := Lib.hid I2
  clear h1 h2
  obtain ⟨a, cap, rfl, hmx⟩ := hv.open'
  clear hv hs hm
  go_enter Tryz.func49, Tryz.ntmps49
  go_wp2_with fail
  refine HM.out.mono ?_
  rintro e w1 ⟨rfl, b⟩
  have HB := Lib.hid b
  clear b
  go_wp2_with fail
  refine (I1.out _).mono ?_
  rintro e w2 ⟨rfl, rfl⟩
  go_wp2_with fail
  refine (I2.out _).mono ?_
  rintro e w2 ⟨rfl, rfl⟩
  go_wp2_with fail
  go_ret2
  exact ⟨_, rfl, HV.out.later HB.out, HB.out⟩

set_option maxHeartbeats 3200000 in
set_option maxRecDepth 100000 in
theorem rdodD {w : World} {v : Value} {l : List Ent} (hv : Ents w v l) (hs : ShortE l) (hl : l.length ≤ 900) (u o : List UInt8) (hu : u.length ≤ 4294967296) (ho : o.length ≤ 4294967296) (k : Int) (hm : roMayD l = true) (h1 : idIs u = true) (h2 : idIs o = true) (h3 : (u == o) = true) :
    Calls Tryz.prog 49 #[v, .int .i64 k, .string ⟨u.toArray⟩, .string ⟨o.toArray⟩] w fun e w' => ∃ v', e = .returned (.tuple #[v', .int .i64 1]) ∧ Ents w' v' l ∧ Below w.heap.size w w' := by
  have HV := Lib.hid hv
  have HM := Lib.hid (rmay8_any hv hs (by omega) (Lib.hid hm))
  have I1 := ris_any u hu
  rw [h1] at I1
  replace I1 := Lib.hid I1
  have I2 := ris_any o ho
  rw [h2] at I2
  replace I2 := Lib.hid I2
  clear h1 h2
  obtain ⟨a, cap, rfl, hmx⟩ := hv.open'
  clear hv hs hm
  go_enter Tryz.func49, Tryz.ntmps49
  go_wp2_with fail
  refine HM.out.mono ?_
  rintro e w1 ⟨rfl, b⟩
  have HB := Lib.hid b
  clear b
  go_wp2_with fail
  refine (I1.out _).mono ?_
  rintro e w2 ⟨rfl, rfl⟩
  go_wp2_with fail
  refine (I2.out _).mono ?_
  rintro e w2 ⟨rfl, rfl⟩
  go_wp2_with fail
  go_ret2
  exact ⟨_, rfl, HV.out.later HB.out, HB.out⟩

set_option maxHeartbeats 3200000 in
set_option maxRecDepth 100000 in
theorem rdodE {w : World} {v : Value} {l : List Ent} (hv : Ents w v l) (hs : ShortE l) (hl : l.length ≤ 900) (u o : List UInt8) (hu : u.length ≤ 4294967296) (ho : o.length ≤ 4294967296) (k : Int) (hm : roMayD l = true) (h1 : idIs u = true) (h2 : idIs o = true) (h3 : (u == o) = false) (h4 : k < 1) :
    Calls Tryz.prog 49 #[v, .int .i64 k, .string ⟨u.toArray⟩, .string ⟨o.toArray⟩] w fun e w' => ∃ v', e = .returned (.tuple #[v', .int .i64 1]) ∧ Ents w' v' l ∧ Below w.heap.size w w' := by
  have HV := Lib.hid hv
  have HM := Lib.hid (rmay8_any hv hs (by omega) (Lib.hid hm))
  have I1 := ris_any u hu
  rw [h1] at I1
  replace I1 := Lib.hid I1
  have I2 := ris_any o ho
  rw [h2] at I2
  replace I2 := Lib.hid I2
  have t4 : decide (k < 1) = true := by simpa using h4
  clear h1 h2 h4
  obtain ⟨a, cap, rfl, hmx⟩ := hv.open'
  clear hv hs hm
  go_enter Tryz.func49, Tryz.ntmps49
  go_wp2_with fail
  refine HM.out.mono ?_
  rintro e w1 ⟨rfl, b⟩
  have HB := Lib.hid b
  clear b
  go_wp2_with fail
  refine (I1.out _).mono ?_
  rintro e w2 ⟨rfl, rfl⟩
  go_wp2_with fail
  refine (I2.out _).mono ?_
  rintro e w2 ⟨rfl, rfl⟩
  go_wp2_with fail
  go_ret2
  exact ⟨_, rfl, HV.out.later HB.out, HB.out⟩

set_option maxHeartbeats 3200000 in
set_option maxRecDepth 100000 in
theorem rdodF {w : World} {v : Value} {l : List Ent} (hv : Ents w v l) (hs : ShortE l) (hl : l.length ≤ 900) (u o : List UInt8) (hu : u.length ≤ 4294967296) (ho : o.length ≤ 4294967296) (k : Int) (hm : roMayD l = true) (h1 : idIs u = true) (h2 : idIs o = true) (h3 : (u == o) = false) (h4 : 1 ≤ k) (h5 : 6 < k) :
    Calls Tryz.prog 49 #[v, .int .i64 k, .string ⟨u.toArray⟩, .string ⟨o.toArray⟩] w fun e w' => ∃ v', e = .returned (.tuple #[v', .int .i64 1]) ∧ Ents w' v' l ∧ Below w.heap.size w w' := by
  have HV := Lib.hid hv
  have HM := Lib.hid (rmay8_any hv hs (by omega) (Lib.hid hm))
  have I1 := ris_any u hu
  rw [h1] at I1
  replace I1 := Lib.hid I1
  have I2 := ris_any o ho
  rw [h2] at I2
  replace I2 := Lib.hid I2
  have t4 : decide (k < 1) = false := by simp; omega
  have t5 : decide (6 < k) = true := by simpa using h5
  clear h1 h2 h4 h5
  obtain ⟨a, cap, rfl, hmx⟩ := hv.open'
  clear hv hs hm
  go_enter Tryz.func49, Tryz.ntmps49
  go_wp2_with fail
  refine HM.out.mono ?_
  rintro e w1 ⟨rfl, b⟩
  have HB := Lib.hid b
  clear b
  go_wp2_with fail
  refine (I1.out _).mono ?_
  rintro e w2 ⟨rfl, rfl⟩
  go_wp2_with fail
  refine (I2.out _).mono ?_
  rintro e w2 ⟨rfl, rfl⟩
  go_wp2_with fail
  go_ret2
  exact ⟨_, rfl, HV.out.later HB.out, HB.out⟩

set_option maxHeartbeats 3200000 in
set_option maxRecDepth 100000 in
theorem rdodG {w : World} {v : Value} {l : List Ent} (hv : Ents w v l) (hs : ShortE l) (hl : l.length ≤ 900) (u o : List UInt8) (hu : u.length ≤ 4294967296) (ho : o.length ≤ 4294967296) (k : Int) (hm : roMayD l = true) (h1 : idIs u = true) (h2 : idIs o = true) (h3 : (u == o) = false) (h4 : 1 ≤ k) (h5 : k ≤ 6) {i1 i2 i3 i4 i5 j1 j2 j3 j4 j5 a1 a2 a3 a4 a5 b1 b2 b3 b4 b5 : Bool} {er : Nat} (hi : roGet l u o = ⟨i1, i2, i3, i4, i5⟩) (hj : roGet l o u = ⟨j1, j2, j3, j4, j5⟩) (hact : suAct ⟨i1, i2, i3, i4, i5⟩ ⟨j1, j2, j3, j4, j5⟩ k = (⟨a1, a2, a3, a4, a5⟩, ⟨b1, b2, b3, b4, b5⟩, er)) (her : er ≠ 0) :
    Calls Tryz.prog 49 #[v, .int .i64 k, .string ⟨u.toArray⟩, .string ⟨o.toArray⟩] w fun e w' => ∃ v', e = .returned (.tuple #[v', .int .i64 (er : Int)]) ∧ Ents w' v' l ∧ Below w.heap.size w w' := by
  have HV := Lib.hid hv
  have HM := Lib.hid (rmay8_any hv hs (by omega) (Lib.hid hm))
  have I1 := ris_any u hu
  rw [h1] at I1
  replace I1 := Lib.hid I1
  have I2 := ris_any o ho
  rw [h2] at I2
  replace I2 := Lib.hid I2
  have t4 : decide (k < 1) = false := by simp; omega
  have t5 : decide (6 < k) = false := by simp; omega
  have FI := Lib.hid hi
  have FJ := Lib.hid hj
  have HA := Lib.hid (ract_eq (Lib.hid hact))
  have t9 : ((er : Int) != 0) = true := by rw [bne_iff_ne]; omega
  clear her
  obtain ⟨a, cap, rfl, hmx⟩ := hv.open'
  clear hv hs hm h1 h2 h4 h5 hi hj hact
  go_enter Tryz.func49, Tryz.ntmps49
  go_wp2_with fail
  refine HM.out.mono ?_
  rintro e w1 ⟨rfl, b⟩
  have HB := Lib.hid b
  clear b
  go_wp2_with fail
  refine (I1.out _).mono ?_
  rintro e w2 ⟨rfl, rfl⟩
  go_wp2_with fail
  refine (I2.out _).mono ?_
  rintro e w2 ⟨rfl, rfl⟩
  go_wp2_with fail
  refine (rget8_eq (HV.out.later HB.out) u o FI).mono ?_
  rintro e w2 ⟨rfl, b⟩
  replace HB := Lib.hid (below2S HB.out b)
  clear b
  go_wp2_with fail
  refine (rget8_eq (HV.out.later HB.out) o u FJ).mono ?_
  rintro e w3 ⟨rfl, b⟩
  replace HB := Lib.hid (below2S HB.out b)
  clear b
  go_wp2_with fail
  refine (HA.out _).mono ?_
  rintro e w4 ⟨rfl, b⟩
  have bb := below2S b (below2S (bl_newZ w4 (.cells #[.bool a1, .bool a2, .bool a3, .bool a4, .bool a5] 51)) (bl_newZ _ (.cells #[.bool b1, .bool b2, .bool b3, .bool b4, .bool b5] 51)))
  have KA := Lib.hid ((itAt_made w4 ⟨a1, a2, a3, a4, a5⟩ w4.heap.size rfl).later (bl_newZ _ (.cells #[.bool b1, .bool b2, .bool b3, .bool b4, .bool b5] 51)))
  have KB := Lib.hid (itAt_made (w4.alloc (.cells #[.bool a1, .bool a2, .bool a3, .bool a4, .bool a5] 51)) ⟨b1, b2, b3, b4, b5⟩ (w4.heap.size + 1) (by simp))
  replace HB := Lib.hid (below2S HB.out bb)
  clear b bb
  obtain ⟨c0, c1, c2, c3, c4⟩ := KA.out
  obtain ⟨d0, d1, d2, d3, d4⟩ := KB.out
  go_wp2_with fail
  go_ret2
  exact ⟨_, rfl, HV.out.later HB.out, HB.out⟩

set_option maxHeartbeats 3200000 in
set_option maxRecDepth 100000 in
theorem rdodH1 {w : World} {v : Value} {l : List Ent} (hv : Ents w v l) (hs : ShortE l) (hl : l.length ≤ 900) (u o : List UInt8) (hu : u.length ≤ 4294967296) (ho : o.length ≤ 4294967296) (k : Int) (hm : roMayD l = true) (h1 : idIs u = true) (h2 : idIs o = true) (h3 : (u == o) = false) (h4 : 1 ≤ k) (h5 : k ≤ 6) {i1 i2 i3 i4 i5 j1 j2 j3 j4 j5 a1 a2 a3 a4 a5 b1 b2 b3 b4 b5 : Bool} (hi : roGet l u o = ⟨i1, i2, i3, i4, i5⟩) (hj : roGet l o u = ⟨j1, j2, j3, j4, j5⟩) (hact : suAct ⟨i1, i2, i3, i4, i5⟩ ⟨j1, j2, j3, j4, j5⟩ k = (⟨a1, a2, a3, a4, a5⟩, ⟨b1, b2, b3, b4, b5⟩, 0)) (hq : roHas l u o = false) (gu : decide (16 ≤ (roOf l u).length) = true) :
    Calls Tryz.prog 49 #[v, .int .i64 k, .string ⟨u.toArray⟩, .string ⟨o.toArray⟩] w fun e w' => ∃ v', e = .returned (.tuple #[v', .int .i64 5]) ∧ Ents w' v' l ∧ Below w.heap.size w w' := by
  have HV := Lib.hid hv
  have HM := Lib.hid (rmay8_any hv hs (by omega) (Lib.hid hm))
  have I1 := ris_any u hu
  rw [h1] at I1
  replace I1 := Lib.hid I1
  have I2 := ris_any o ho
  rw [h2] at I2
  replace I2 := Lib.hid I2
  have t4 : decide (k < 1) = false := by simp; omega
  have t5 : decide (6 < k) = false := by simp; omega
  have FI := Lib.hid hi
  have FJ := Lib.hid hj
  have HA := Lib.hid (ract_eq (Lib.hid hact))
  have FQ := Lib.hid hq
  clear hq
  have tgu : decide ((16 : Int) ≤ ((roOf l u).length : Int)) = true := by rw [← gu]; congr 1; apply propext; omega
  clear gu
  obtain ⟨a, cap, rfl, hmx⟩ := hv.open'
  clear hv hs hm h1 h2 h4 h5 hi hj hact
  go_enter Tryz.func49, Tryz.ntmps49
  go_wp2_with fail
  refine HM.out.mono ?_
  rintro e w1 ⟨rfl, b⟩
  have HB := Lib.hid b
  clear b
  go_wp2_with fail
  refine (I1.out _).mono ?_
  rintro e w2 ⟨rfl, rfl⟩
  go_wp2_with fail
  refine (I2.out _).mono ?_
  rintro e w2 ⟨rfl, rfl⟩
  go_wp2_with fail
  refine (rget8_eq (HV.out.later HB.out) u o FI).mono ?_
  rintro e w2 ⟨rfl, b⟩
  replace HB := Lib.hid (below2S HB.out b)
  clear b
  go_wp2_with fail
  refine (rget8_eq (HV.out.later HB.out) o u FJ).mono ?_
  rintro e w3 ⟨rfl, b⟩
  replace HB := Lib.hid (below2S HB.out b)
  clear b
  go_wp2_with fail
  refine (HA.out _).mono ?_
  rintro e w4 ⟨rfl, b⟩
  have bb := below2S b (below2S (bl_newZ w4 (.cells #[.bool a1, .bool a2, .bool a3, .bool a4, .bool a5] 51)) (bl_newZ _ (.cells #[.bool b1, .bool b2, .bool b3, .bool b4, .bool b5] 51)))
  have KA := Lib.hid ((itAt_made w4 ⟨a1, a2, a3, a4, a5⟩ w4.heap.size rfl).later (bl_newZ _ (.cells #[.bool b1, .bool b2, .bool b3, .bool b4, .bool b5] 51)))
  have KB := Lib.hid (itAt_made (w4.alloc (.cells #[.bool a1, .bool a2, .bool a3, .bool a4, .bool a5] 51)) ⟨b1, b2, b3, b4, b5⟩ (w4.heap.size + 1) (by simp))
  replace HB := Lib.hid (below2S HB.out bb)
  clear b bb
  obtain ⟨c0, c1, c2, c3, c4⟩ := KA.out
  obtain ⟨d0, d1, d2, d3, d4⟩ := KB.out
  go_wp2_with fail
  generalize hW : (w4.alloc (.cells #[.bool a1, .bool a2, .bool a3, .bool a4, .bool a5] 51)).alloc (.cells #[.bool b1, .bool b2, .bool b3, .bool b4, .bool b5] 51) = w5 at HB KA KB c0 c1 c2 c3 c4 d0 d1 d2 d3 d4 ⊢
  clear hW c0 c1 c2 c3 c4 d0 d1 d2 d3 d4
  have RH := rhas_any (HV.out.later HB.out) u o
  rw [FQ.out] at RH
  refine RH.mono ?_
  rintro e w6 ⟨rfl, rfl⟩
  clear RH
  go_wp2_with fail
  refine (rof_any (HV.out.later HB.out) (by omega) u).mono ?_
  rintro e w7 ⟨u7, rfl, hot, b⟩
  obtain ⟨a7', k7', rfl⟩ := ownT_slice hot
  replace HB := Lib.hid (below2S HB.out b)
  replace KA := Lib.hid (KA.out.later b)
  replace KB := Lib.hid (KB.out.later b)
  clear b hot
  go_wp2_with fail
  go_ret2
  exact ⟨_, rfl, HV.out.later HB.out, HB.out⟩

set_option maxHeartbeats 3200000 in
set_option maxRecDepth 100000 in
theorem rdodH2 {w : World} {v : Value} {l : List Ent} (hv : Ents w v l) (hs : ShortE l) (hl : l.length ≤ 900) (u o : List UInt8) (hu : u.length ≤ 4294967296) (ho : o.length ≤ 4294967296) (k : Int) (hm : roMayD l = true) (h1 : idIs u = true) (h2 : idIs o = true) (h3 : (u == o) = false) (h4 : 1 ≤ k) (h5 : k ≤ 6) {i1 i2 i3 i4 i5 j1 j2 j3 j4 j5 a1 a2 a3 a4 a5 b1 b2 b3 b4 b5 : Bool} (hi : roGet l u o = ⟨i1, i2, i3, i4, i5⟩) (hj : roGet l o u = ⟨j1, j2, j3, j4, j5⟩) (hact : suAct ⟨i1, i2, i3, i4, i5⟩ ⟨j1, j2, j3, j4, j5⟩ k = (⟨a1, a2, a3, a4, a5⟩, ⟨b1, b2, b3, b4, b5⟩, 0)) (hq : roHas l u o = false) (gu : decide (16 ≤ (roOf l u).length) = false) (go : decide (16 ≤ (roOf l o).length) = true) :
    Calls Tryz.prog 49 #[v, .int .i64 k, .string ⟨u.toArray⟩, .string ⟨o.toArray⟩] w fun e w' => ∃ v', e = .returned (.tuple #[v', .int .i64 5]) ∧ Ents w' v' l ∧ Below w.heap.size w w' := by
  have HV := Lib.hid hv
  have HM := Lib.hid (rmay8_any hv hs (by omega) (Lib.hid hm))
  have I1 := ris_any u hu
  rw [h1] at I1
  replace I1 := Lib.hid I1
  have I2 := ris_any o ho
  rw [h2] at I2
  replace I2 := Lib.hid I2
  have t4 : decide (k < 1) = false := by simp; omega
  have t5 : decide (6 < k) = false := by simp; omega
  have FI := Lib.hid hi
  have FJ := Lib.hid hj
  have HA := Lib.hid (ract_eq (Lib.hid hact))
  have FQ := Lib.hid hq
  clear hq
  have tgu : decide ((16 : Int) ≤ ((roOf l u).length : Int)) = false := by rw [← gu]; congr 1; apply propext; omega
  have tgo : decide ((16 : Int) ≤ ((roOf l o).length : Int)) = true := by rw [← go]; congr 1; apply propext; omega
  clear gu go
  obtain ⟨a, cap, rfl, hmx⟩ := hv.open'
  clear hv hs hm h1 h2 h4 h5 hi hj hact
  go_enter Tryz.func49, Tryz.ntmps49
  go_wp2_with fail
  refine HM.out.mono ?_
  rintro e w1 ⟨rfl, b⟩
  have HB := Lib.hid b
  clear b
  go_wp2_with fail
  refine (I1.out _).mono ?_
  rintro e w2 ⟨rfl, rfl⟩
  go_wp2_with fail
  refine (I2.out _).mono ?_
  rintro e w2 ⟨rfl, rfl⟩
  go_wp2_with fail
  refine (rget8_eq (HV.out.later HB.out) u o FI).mono ?_
  rintro e w2 ⟨rfl, b⟩
  replace HB := Lib.hid (below2S HB.out b)
  clear b
  go_wp2_with fail
  refine (rget8_eq (HV.out.later HB.out) o u FJ).mono ?_
  rintro e w3 ⟨rfl, b⟩
  replace HB := Lib.hid (below2S HB.out b)
  clear b
  go_wp2_with fail
  refine (HA.out _).mono ?_
  rintro e w4 ⟨rfl, b⟩
  have bb := below2S b (below2S (bl_newZ w4 (.cells #[.bool a1, .bool a2, .bool a3, .bool a4, .bool a5] 51)) (bl_newZ _ (.cells #[.bool b1, .bool b2, .bool b3, .bool b4, .bool b5] 51)))
  have KA := Lib.hid ((itAt_made w4 ⟨a1, a2, a3, a4, a5⟩ w4.heap.size rfl).later (bl_newZ _ (.cells #[.bool b1, .bool b2, .bool b3, .bool b4, .bool b5] 51)))
  have KB := Lib.hid (itAt_made (w4.alloc (.cells #[.bool a1, .bool a2, .bool a3, .bool a4, .bool a5] 51)) ⟨b1, b2, b3, b4, b5⟩ (w4.heap.size + 1) (by simp))
  replace HB := Lib.hid (below2S HB.out bb)
  clear b bb
  obtain ⟨c0, c1, c2, c3, c4⟩ := KA.out
  obtain ⟨d0, d1, d2, d3, d4⟩ := KB.out
  go_wp2_with fail
  generalize hW : (w4.alloc (.cells #[.bool a1, .bool a2, .bool a3, .bool a4, .bool a5] 51)).alloc (.cells #[.bool b1, .bool b2, .bool b3, .bool b4, .bool b5] 51) = w5 at HB KA KB c0 c1 c2 c3 c4 d0 d1 d2 d3 d4 ⊢
  clear hW c0 c1 c2 c3 c4 d0 d1 d2 d3 d4
  have RH := rhas_any (HV.out.later HB.out) u o
  rw [FQ.out] at RH
  refine RH.mono ?_
  rintro e w6 ⟨rfl, rfl⟩
  clear RH
  go_wp2_with fail
  refine (rof_any (HV.out.later HB.out) (by omega) u).mono ?_
  rintro e w7 ⟨u7, rfl, hot, b⟩
  obtain ⟨a7', k7', rfl⟩ := ownT_slice hot
  replace HB := Lib.hid (below2S HB.out b)
  replace KA := Lib.hid (KA.out.later b)
  replace KB := Lib.hid (KB.out.later b)
  clear b hot
  go_wp2_with fail
  refine (rof_any (HV.out.later HB.out) (by omega) o).mono ?_
  rintro e w8 ⟨u8, rfl, hot, b⟩
  obtain ⟨a8', k8', rfl⟩ := ownT_slice hot
  replace HB := Lib.hid (below2S HB.out b)
  replace KA := Lib.hid (KA.out.later b)
  replace KB := Lib.hid (KB.out.later b)
  clear b hot
  go_wp2_with fail
  go_ret2
  exact ⟨_, rfl, HV.out.later HB.out, HB.out⟩

set_option maxHeartbeats 3200000 in
set_option maxRecDepth 100000 in
theorem rdodI1 {w : World} {v : Value} {l : List Ent} (hv : Ents w v l) (hs : ShortE l) (hl : l.length ≤ 900) (u o : List UInt8) (hu : u.length ≤ 4294967296) (ho : o.length ≤ 4294967296) (k : Int) (hm : roMayD l = true) (h1 : idIs u = true) (h2 : idIs o = true) (h3 : (u == o) = false) (h4 : 1 ≤ k) (h5 : k ≤ 6) {i1 i2 i3 i4 i5 j1 j2 j3 j4 j5 a1 a2 a3 a4 a5 b1 b2 b3 b4 b5 : Bool} (hi : roGet l u o = ⟨i1, i2, i3, i4, i5⟩) (hj : roGet l o u = ⟨j1, j2, j3, j4, j5⟩) (hact : suAct ⟨i1, i2, i3, i4, i5⟩ ⟨j1, j2, j3, j4, j5⟩ k = (⟨a1, a2, a3, a4, a5⟩, ⟨b1, b2, b3, b4, b5⟩, 0)) (hq : roHas l u o = true) (ga : suEmpty ⟨a1, a2, a3, a4, a5⟩ = false) :
    Calls Tryz.prog 49 #[v, .int .i64 k, .string ⟨u.toArray⟩, .string ⟨o.toArray⟩] w fun e w' => ∃ v', e = .returned (.tuple #[v', .int .i64 0]) ∧ Ents w' v' (rsO entLt entIs ⟨o, u, ⟨b1, b2, b3, b4, b5⟩⟩ (rsO entLt entIs ⟨u, o, ⟨a1, a2, a3, a4, a5⟩⟩ l (!true)) (!true)) ∧ Below w.heap.size w w' := by
  have HV := Lib.hid hv
  have HM := Lib.hid (rmay8_any hv hs (by omega) (Lib.hid hm))
  have I1 := ris_any u hu
  rw [h1] at I1
  replace I1 := Lib.hid I1
  have I2 := ris_any o ho
  rw [h2] at I2
  replace I2 := Lib.hid I2
  have t4 : decide (k < 1) = false := by simp; omega
  have t5 : decide (6 < k) = false := by simp; omega
  have FI := Lib.hid hi
  have FJ := Lib.hid hj
  have HA := Lib.hid (ract_eq (Lib.hid hact))
  have FQ := Lib.hid hq
  clear hq
  have GA := Lib.hid (rsempty_eq a1 a2 a3 a4 a5 ga)
  clear ga
  obtain ⟨a, cap, rfl, hmx⟩ := hv.open'
  clear hv hs hm h1 h2 h4 h5 hi hj hact
  go_enter Tryz.func49, Tryz.ntmps49
  go_wp2_with fail
  refine HM.out.mono ?_
  rintro e w1 ⟨rfl, b⟩
  have HB := Lib.hid b
  clear b
  go_wp2_with fail
  refine (I1.out _).mono ?_
  rintro e w2 ⟨rfl, rfl⟩
  go_wp2_with fail
  refine (I2.out _).mono ?_
  rintro e w2 ⟨rfl, rfl⟩
  go_wp2_with fail
  refine (rget8_eq (HV.out.later HB.out) u o FI).mono ?_
  rintro e w2 ⟨rfl, b⟩
  replace HB := Lib.hid (below2S HB.out b)
  clear b
  go_wp2_with fail
  refine (rget8_eq (HV.out.later HB.out) o u FJ).mono ?_
  rintro e w3 ⟨rfl, b⟩
  replace HB := Lib.hid (below2S HB.out b)
  clear b
  go_wp2_with fail
  refine (HA.out _).mono ?_
  rintro e w4 ⟨rfl, b⟩
  have bb := below2S b (below2S (bl_newZ w4 (.cells #[.bool a1, .bool a2, .bool a3, .bool a4, .bool a5] 51)) (bl_newZ _ (.cells #[.bool b1, .bool b2, .bool b3, .bool b4, .bool b5] 51)))
  have KA := Lib.hid ((itAt_made w4 ⟨a1, a2, a3, a4, a5⟩ w4.heap.size rfl).later (bl_newZ _ (.cells #[.bool b1, .bool b2, .bool b3, .bool b4, .bool b5] 51)))
  have KB := Lib.hid (itAt_made (w4.alloc (.cells #[.bool a1, .bool a2, .bool a3, .bool a4, .bool a5] 51)) ⟨b1, b2, b3, b4, b5⟩ (w4.heap.size + 1) (by simp))
  replace HB := Lib.hid (below2S HB.out bb)
  clear b bb
  obtain ⟨c0, c1, c2, c3, c4⟩ := KA.out
  obtain ⟨d0, d1, d2, d3, d4⟩ := KB.out
  go_wp2_with fail
  generalize hW : (w4.alloc (.cells #[.bool a1, .bool a2, .bool a3, .bool a4, .bool a5] 51)).alloc (.cells #[.bool b1, .bool b2, .bool b3, .bool b4, .bool b5] 51) = w5 at HB KA KB c0 c1 c2 c3 c4 d0 d1 d2 d3 d4 ⊢
  clear hW c0 c1 c2 c3 c4 d0 d1 d2 d3 d4
  have RH := rhas_any (HV.out.later HB.out) u o
  rw [FQ.out] at RH
  obtain ⟨c0, c1, c2, c3, c4⟩ := KA.out
  obtain ⟨d0, d1, d2, d3, d4⟩ := KB.out
  refine RH.mono ?_
  rintro e w6 ⟨rfl, rfl⟩
  clear RH
  go_wp2_with fail
  clear c0 c1 c2 c3 c4 d0 d1 d2 d3 d4
  refine (GA.out _).mono ?_
  rintro e w9 ⟨rfl, b⟩
  replace HB := Lib.hid (below2S HB.out b)
  replace KA := Lib.hid (KA.out.later b)
  replace KB := Lib.hid (KB.out.later b)
  clear b
  obtain ⟨c0, c1, c2, c3, c4⟩ := KA.out
  obtain ⟨d0, d1, d2, d3, d4⟩ := KB.out
  go_wp2_with fail
  clear c0 c1 c2 c3 c4 d0 d1 d2 d3 d4
  refine (rset8_any (HV.out.later HB.out) (by omega) u o a1 a2 a3 a4 a5 true).mono ?_
  rintro e w11 ⟨y, rfl, hy, b⟩
  replace HB := Lib.hid (below2S HB.out b)
  replace KB := Lib.hid (KB.out.later b)
  have YE := Lib.hid (hy.rd entOK).ents
  have hyl := rsO_len ⟨u, o, ⟨a1, a2, a3, a4, a5⟩⟩ l (!true)
  obtain ⟨ya, yc, ey, _⟩ := YE.out.open'
  subst ey
  clear b hy
  obtain ⟨d0, d1, d2, d3, d4⟩ := KB.out
  go_wp2_with fail
  refine (rset8_any YE.out (by omega) o u b1 b2 b3 b4 b5 true).mono ?_
  rintro e w12 ⟨z, rfl, hz, b⟩
  replace HB := Lib.hid (below2S HB.out b)
  have ZE := Lib.hid (hz.rd entOK).ents
  clear b hz
  go_wp2_with fail
  go_ret2
  exact ⟨_, rfl, ZE.out, HB.out⟩

set_option maxHeartbeats 3200000 in
set_option maxRecDepth 100000 in
theorem rdodI2 {w : World} {v : Value} {l : List Ent} (hv : Ents w v l) (hs : ShortE l) (hl : l.length ≤ 900) (u o : List UInt8) (hu : u.length ≤ 4294967296) (ho : o.length ≤ 4294967296) (k : Int) (hm : roMayD l = true) (h1 : idIs u = true) (h2 : idIs o = true) (h3 : (u == o) = false) (h4 : 1 ≤ k) (h5 : k ≤ 6) {i1 i2 i3 i4 i5 j1 j2 j3 j4 j5 a1 a2 a3 a4 a5 b1 b2 b3 b4 b5 : Bool} (hi : roGet l u o = ⟨i1, i2, i3, i4, i5⟩) (hj : roGet l o u = ⟨j1, j2, j3, j4, j5⟩) (hact : suAct ⟨i1, i2, i3, i4, i5⟩ ⟨j1, j2, j3, j4, j5⟩ k = (⟨a1, a2, a3, a4, a5⟩, ⟨b1, b2, b3, b4, b5⟩, 0)) (hq : roHas l u o = true) (ga : suEmpty ⟨a1, a2, a3, a4, a5⟩ = true) (gb : suEmpty ⟨b1, b2, b3, b4, b5⟩ = false) :
    Calls Tryz.prog 49 #[v, .int .i64 k, .string ⟨u.toArray⟩, .string ⟨o.toArray⟩] w fun e w' => ∃ v', e = .returned (.tuple #[v', .int .i64 0]) ∧ Ents w' v' (rsO entLt entIs ⟨o, u, ⟨b1, b2, b3, b4, b5⟩⟩ (rsO entLt entIs ⟨u, o, ⟨a1, a2, a3, a4, a5⟩⟩ l (!true)) (!true)) ∧ Below w.heap.size w w' := by
  have HV := Lib.hid hv
  have HM := Lib.hid (rmay8_any hv hs (by omega) (Lib.hid hm))
  have I1 := ris_any u hu
  rw [h1] at I1
  replace I1 := Lib.hid I1
  have I2 := ris_any o ho
  rw [h2] at I2
  replace I2 := Lib.hid I2
  have t4 : decide (k < 1) = false := by simp; omega
  have t5 : decide (6 < k) = false := by simp; omega
  have FI := Lib.hid hi
  have FJ := Lib.hid hj
  have HA := Lib.hid (ract_eq (Lib.hid hact))
  have FQ := Lib.hid hq
  clear hq
  have GA := Lib.hid (rsempty_eq a1 a2 a3 a4 a5 ga)
  have GB := Lib.hid (rsempty_eq b1 b2 b3 b4 b5 gb)
  clear ga gb
  obtain ⟨a, cap, rfl, hmx⟩ := hv.open'
  clear hv hs hm h1 h2 h4 h5 hi hj hact
  go_enter Tryz.func49, Tryz.ntmps49
  go_wp2_with fail
  refine HM.out.mono ?_
  rintro e w1 ⟨rfl, b⟩
  have HB := Lib.hid b
  clear b
  go_wp2_with fail
  refine (I1.out _).mono ?_
  rintro e w2 ⟨rfl, rfl⟩
  go_wp2_with fail
  refine (I2.out _).mono ?_
  rintro e w2 ⟨rfl, rfl⟩
  go_wp2_with fail
  refine (rget8_eq (HV.out.later HB.out) u o FI).mono ?_
  rintro e w2 ⟨rfl, b⟩
  replace HB := Lib.hid (below2S HB.out b)
  clear b
  go_wp2_with fail
  refine (rget8_eq (HV.out.later HB.out) o u FJ).mono ?_
  rintro e w3 ⟨rfl, b⟩
  replace HB := Lib.hid (below2S HB.out b)
  clear b
  go_wp2_with fail
  refine (HA.out _).mono ?_
  rintro e w4 ⟨rfl, b⟩
  have bb := below2S b (below2S (bl_newZ w4 (.cells #[.bool a1, .bool a2, .bool a3, .bool a4, .bool a5] 51)) (bl_newZ _ (.cells #[.bool b1, .bool b2, .bool b3, .bool b4, .bool b5] 51)))
  have KA := Lib.hid ((itAt_made w4 ⟨a1, a2, a3, a4, a5⟩ w4.heap.size rfl).later (bl_newZ _ (.cells #[.bool b1, .bool b2, .bool b3, .bool b4, .bool b5] 51)))
  have KB := Lib.hid (itAt_made (w4.alloc (.cells #[.bool a1, .bool a2, .bool a3, .bool a4, .bool a5] 51)) ⟨b1, b2, b3, b4, b5⟩ (w4.heap.size + 1) (by simp))
  replace HB := Lib.hid (below2S HB.out bb)
  clear b bb
  obtain ⟨c0, c1, c2, c3, c4⟩ := KA.out
  obtain ⟨d0, d1, d2, d3, d4⟩ := KB.out
  go_wp2_with fail
  generalize hW : (w4.alloc (.cells #[.bool a1, .bool a2, .bool a3, .bool a4, .bool a5] 51)).alloc (.cells #[.bool b1, .bool b2, .bool b3, .bool b4, .bool b5] 51) = w5 at HB KA KB c0 c1 c2 c3 c4 d0 d1 d2 d3 d4 ⊢
  clear hW c0 c1 c2 c3 c4 d0 d1 d2 d3 d4
  have RH := rhas_any (HV.out.later HB.out) u o
  rw [FQ.out] at RH
  obtain ⟨c0, c1, c2, c3, c4⟩ := KA.out
  obtain ⟨d0, d1, d2, d3, d4⟩ := KB.out
  refine RH.mono ?_
  rintro e w6 ⟨rfl, rfl⟩
  clear RH
  go_wp2_with fail
  clear c0 c1 c2 c3 c4 d0 d1 d2 d3 d4
  refine (GA.out _).mono ?_
  rintro e w9 ⟨rfl, b⟩
  replace HB := Lib.hid (below2S HB.out b)
  replace KA := Lib.hid (KA.out.later b)
  replace KB := Lib.hid (KB.out.later b)
  clear b
  obtain ⟨c0, c1, c2, c3, c4⟩ := KA.out
  obtain ⟨d0, d1, d2, d3, d4⟩ := KB.out
  go_wp2_with fail
  clear c0 c1 c2 c3 c4 d0 d1 d2 d3 d4
  refine (GB.out _).mono ?_
  rintro e w10 ⟨rfl, b⟩
  replace HB := Lib.hid (below2S HB.out b)
  replace KA := Lib.hid (KA.out.later b)
  replace KB := Lib.hid (KB.out.later b)
  clear b
  obtain ⟨c0, c1, c2, c3, c4⟩ := KA.out
  obtain ⟨d0, d1, d2, d3, d4⟩ := KB.out
  go_wp2_with fail
  clear c0 c1 c2 c3 c4 d0 d1 d2 d3 d4
  refine (rset8_any (HV.out.later HB.out) (by omega) u o a1 a2 a3 a4 a5 true).mono ?_
  rintro e w11 ⟨y, rfl, hy, b⟩
  replace HB := Lib.hid (below2S HB.out b)
  replace KB := Lib.hid (KB.out.later b)
  have YE := Lib.hid (hy.rd entOK).ents
  have hyl := rsO_len ⟨u, o, ⟨a1, a2, a3, a4, a5⟩⟩ l (!true)
  obtain ⟨ya, yc, ey, _⟩ := YE.out.open'
  subst ey
  clear b hy
  obtain ⟨d0, d1, d2, d3, d4⟩ := KB.out
  go_wp2_with fail
  refine (rset8_any YE.out (by omega) o u b1 b2 b3 b4 b5 true).mono ?_
  rintro e w12 ⟨z, rfl, hz, b⟩
  replace HB := Lib.hid (below2S HB.out b)
  have ZE := Lib.hid (hz.rd entOK).ents
  clear b hz
  go_wp2_with fail
  go_ret2
  exact ⟨_, rfl, ZE.out, HB.out⟩

set_option maxHeartbeats 3200000 in
set_option maxRecDepth 100000 in
theorem rdodI3 {w : World} {v : Value} {l : List Ent} (hv : Ents w v l) (hs : ShortE l) (hl : l.length ≤ 900) (u o : List UInt8) (hu : u.length ≤ 4294967296) (ho : o.length ≤ 4294967296) (k : Int) (hm : roMayD l = true) (h1 : idIs u = true) (h2 : idIs o = true) (h3 : (u == o) = false) (h4 : 1 ≤ k) (h5 : k ≤ 6) {i1 i2 i3 i4 i5 j1 j2 j3 j4 j5 a1 a2 a3 a4 a5 b1 b2 b3 b4 b5 : Bool} (hi : roGet l u o = ⟨i1, i2, i3, i4, i5⟩) (hj : roGet l o u = ⟨j1, j2, j3, j4, j5⟩) (hact : suAct ⟨i1, i2, i3, i4, i5⟩ ⟨j1, j2, j3, j4, j5⟩ k = (⟨a1, a2, a3, a4, a5⟩, ⟨b1, b2, b3, b4, b5⟩, 0)) (hq : roHas l u o = true) (ga : suEmpty ⟨a1, a2, a3, a4, a5⟩ = true) (gb : suEmpty ⟨b1, b2, b3, b4, b5⟩ = true) :
    Calls Tryz.prog 49 #[v, .int .i64 k, .string ⟨u.toArray⟩, .string ⟨o.toArray⟩] w fun e w' => ∃ v', e = .returned (.tuple #[v', .int .i64 0]) ∧ Ents w' v' (rsO entLt entIs ⟨o, u, ⟨b1, b2, b3, b4, b5⟩⟩ (rsO entLt entIs ⟨u, o, ⟨a1, a2, a3, a4, a5⟩⟩ l (!false)) (!false)) ∧ Below w.heap.size w w' := by
  have HV := Lib.hid hv
  have HM := Lib.hid (rmay8_any hv hs (by omega) (Lib.hid hm))
  have I1 := ris_any u hu
  rw [h1] at I1
  replace I1 := Lib.hid I1
  have I2 := ris_any o ho
  rw [h2] at I2
  replace I2 := Lib.hid I2
  have t4 : decide (k < 1) = false := by simp; omega
  have t5 : decide (6 < k) = false := by simp; omega
  have FI := Lib.hid hi
  have FJ := Lib.hid hj
  have HA := Lib.hid (ract_eq (Lib.hid hact))
  have FQ := Lib.hid hq
  clear hq
  have GA := Lib.hid (rsempty_eq a1 a2 a3 a4 a5 ga)
  have GB := Lib.hid (rsempty_eq b1 b2 b3 b4 b5 gb)
  clear ga gb
  obtain ⟨a, cap, rfl, hmx⟩ := hv.open'
  clear hv hs hm h1 h2 h4 h5 hi hj hact
  go_enter Tryz.func49, Tryz.ntmps49
  go_wp2_with fail
  refine HM.out.mono ?_
  rintro e w1 ⟨rfl, b⟩
  have HB := Lib.hid b
  clear b
  go_wp2_with fail
  refine (I1.out _).mono ?_
  rintro e w2 ⟨rfl, rfl⟩
  go_wp2_with fail
  refine (I2.out _).mono ?_
  rintro e w2 ⟨rfl, rfl⟩
  go_wp2_with fail
  refine (rget8_eq (HV.out.later HB.out) u o FI).mono ?_
  rintro e w2 ⟨rfl, b⟩
  replace HB := Lib.hid (below2S HB.out b)
  clear b
  go_wp2_with fail
  refine (rget8_eq (HV.out.later HB.out) o u FJ).mono ?_
  rintro e w3 ⟨rfl, b⟩
  replace HB := Lib.hid (below2S HB.out b)
  clear b
  go_wp2_with fail
  refine (HA.out _).mono ?_
  rintro e w4 ⟨rfl, b⟩
  have bb := below2S b (below2S (bl_newZ w4 (.cells #[.bool a1, .bool a2, .bool a3, .bool a4, .bool a5] 51)) (bl_newZ _ (.cells #[.bool b1, .bool b2, .bool b3, .bool b4, .bool b5] 51)))
  have KA := Lib.hid ((itAt_made w4 ⟨a1, a2, a3, a4, a5⟩ w4.heap.size rfl).later (bl_newZ _ (.cells #[.bool b1, .bool b2, .bool b3, .bool b4, .bool b5] 51)))
  have KB := Lib.hid (itAt_made (w4.alloc (.cells #[.bool a1, .bool a2, .bool a3, .bool a4, .bool a5] 51)) ⟨b1, b2, b3, b4, b5⟩ (w4.heap.size + 1) (by simp))
  replace HB := Lib.hid (below2S HB.out bb)
  clear b bb
  obtain ⟨c0, c1, c2, c3, c4⟩ := KA.out
  obtain ⟨d0, d1, d2, d3, d4⟩ := KB.out
  go_wp2_with fail
  generalize hW : (w4.alloc (.cells #[.bool a1, .bool a2, .bool a3, .bool a4, .bool a5] 51)).alloc (.cells #[.bool b1, .bool b2, .bool b3, .bool b4, .bool b5] 51) = w5 at HB KA KB c0 c1 c2 c3 c4 d0 d1 d2 d3 d4 ⊢
  clear hW c0 c1 c2 c3 c4 d0 d1 d2 d3 d4
  have RH := rhas_any (HV.out.later HB.out) u o
  rw [FQ.out] at RH
  obtain ⟨c0, c1, c2, c3, c4⟩ := KA.out
  obtain ⟨d0, d1, d2, d3, d4⟩ := KB.out
  refine RH.mono ?_
  rintro e w6 ⟨rfl, rfl⟩
  clear RH
  go_wp2_with fail
  clear c0 c1 c2 c3 c4 d0 d1 d2 d3 d4
  refine (GA.out _).mono ?_
  rintro e w9 ⟨rfl, b⟩
  replace HB := Lib.hid (below2S HB.out b)
  replace KA := Lib.hid (KA.out.later b)
  replace KB := Lib.hid (KB.out.later b)
  clear b
  obtain ⟨c0, c1, c2, c3, c4⟩ := KA.out
  obtain ⟨d0, d1, d2, d3, d4⟩ := KB.out
  go_wp2_with fail
  clear c0 c1 c2 c3 c4 d0 d1 d2 d3 d4
  refine (GB.out _).mono ?_
  rintro e w10 ⟨rfl, b⟩
  replace HB := Lib.hid (below2S HB.out b)
  replace KA := Lib.hid (KA.out.later b)
  replace KB := Lib.hid (KB.out.later b)
  clear b
  obtain ⟨c0, c1, c2, c3, c4⟩ := KA.out
  obtain ⟨d0, d1, d2, d3, d4⟩ := KB.out
  go_wp2_with fail
  clear c0 c1 c2 c3 c4 d0 d1 d2 d3 d4
  refine (rset8_any (HV.out.later HB.out) (by omega) u o a1 a2 a3 a4 a5 false).mono ?_
  rintro e w11 ⟨y, rfl, hy, b⟩
  replace HB := Lib.hid (below2S HB.out b)
  replace KB := Lib.hid (KB.out.later b)
  have YE := Lib.hid (hy.rd entOK).ents
  have hyl := rsO_len ⟨u, o, ⟨a1, a2, a3, a4, a5⟩⟩ l (!false)
  obtain ⟨ya, yc, ey, _⟩ := YE.out.open'
  subst ey
  clear b hy
  obtain ⟨d0, d1, d2, d3, d4⟩ := KB.out
  go_wp2_with fail
  refine (rset8_any YE.out (by omega) o u b1 b2 b3 b4 b5 false).mono ?_
  rintro e w12 ⟨z, rfl, hz, b⟩
  replace HB := Lib.hid (below2S HB.out b)
  have ZE := Lib.hid (hz.rd entOK).ents
  clear b hz
  go_wp2_with fail
  go_ret2
  exact ⟨_, rfl, ZE.out, HB.out⟩

set_option maxHeartbeats 3200000 in
set_option maxRecDepth 100000 in
theorem rdodJ1 {w : World} {v : Value} {l : List Ent} (hv : Ents w v l) (hs : ShortE l) (hl : l.length ≤ 900) (u o : List UInt8) (hu : u.length ≤ 4294967296) (ho : o.length ≤ 4294967296) (k : Int) (hm : roMayD l = true) (h1 : idIs u = true) (h2 : idIs o = true) (h3 : (u == o) = false) (h4 : 1 ≤ k) (h5 : k ≤ 6) {i1 i2 i3 i4 i5 j1 j2 j3 j4 j5 a1 a2 a3 a4 a5 b1 b2 b3 b4 b5 : Bool} (hi : roGet l u o = ⟨i1, i2, i3, i4, i5⟩) (hj : roGet l o u = ⟨j1, j2, j3, j4, j5⟩) (hact : suAct ⟨i1, i2, i3, i4, i5⟩ ⟨j1, j2, j3, j4, j5⟩ k = (⟨a1, a2, a3, a4, a5⟩, ⟨b1, b2, b3, b4, b5⟩, 0)) (hq : roHas l u o = false) (gu : decide (16 ≤ (roOf l u).length) = false) (go : decide (16 ≤ (roOf l o).length) = false) (ga : suEmpty ⟨a1, a2, a3, a4, a5⟩ = false) :
    Calls Tryz.prog 49 #[v, .int .i64 k, .string ⟨u.toArray⟩, .string ⟨o.toArray⟩] w fun e w' => ∃ v', e = .returned (.tuple #[v', .int .i64 0]) ∧ Ents w' v' (rsO entLt entIs ⟨o, u, ⟨b1, b2, b3, b4, b5⟩⟩ (rsO entLt entIs ⟨u, o, ⟨a1, a2, a3, a4, a5⟩⟩ l (!true)) (!true)) ∧ Below w.heap.size w w' := by
  have HV := Lib.hid hv
  have HM := Lib.hid (rmay8_any hv hs (by omega) (Lib.hid hm))
  have I1 := ris_any u hu
  rw [h1] at I1
  replace I1 := Lib.hid I1
  have I2 := ris_any o ho
  rw [h2] at I2
  replace I2 := Lib.hid I2
  have t4 : decide (k < 1) = false := by simp; omega
  have t5 : decide (6 < k) = false := by simp; omega
  have FI := Lib.hid hi
  have FJ := Lib.hid hj
  have HA := Lib.hid (ract_eq (Lib.hid hact))
  have FQ := Lib.hid hq
  clear hq
  have tgu : decide ((16 : Int) ≤ ((roOf l u).length : Int)) = false := by rw [← gu]; congr 1; apply propext; omega
  have tgo : decide ((16 : Int) ≤ ((roOf l o).length : Int)) = false := by rw [← go]; congr 1; apply propext; omega
  clear gu go
  have GA := Lib.hid (rsempty_eq a1 a2 a3 a4 a5 ga)
  clear ga
  obtain ⟨a, cap, rfl, hmx⟩ := hv.open'
  clear hv hs hm h1 h2 h4 h5 hi hj hact
  go_enter Tryz.func49, Tryz.ntmps49
  go_wp2_with fail
  refine HM.out.mono ?_
  rintro e w1 ⟨rfl, b⟩
  have HB := Lib.hid b
  clear b
  go_wp2_with fail
  refine (I1.out _).mono ?_
  rintro e w2 ⟨rfl, rfl⟩
  go_wp2_with fail
  refine (I2.out _).mono ?_
  rintro e w2 ⟨rfl, rfl⟩
  go_wp2_with fail
  refine (rget8_eq (HV.out.later HB.out) u o FI).mono ?_
  rintro e w2 ⟨rfl, b⟩
  replace HB := Lib.hid (below2S HB.out b)
  clear b
  go_wp2_with fail
  refine (rget8_eq (HV.out.later HB.out) o u FJ).mono ?_
  rintro e w3 ⟨rfl, b⟩
  replace HB := Lib.hid (below2S HB.out b)
  clear b
  go_wp2_with fail
  refine (HA.out _).mono ?_
  rintro e w4 ⟨rfl, b⟩
  have bb := below2S b (below2S (bl_newZ w4 (.cells #[.bool a1, .bool a2, .bool a3, .bool a4, .bool a5] 51)) (bl_newZ _ (.cells #[.bool b1, .bool b2, .bool b3, .bool b4, .bool b5] 51)))
  have KA := Lib.hid ((itAt_made w4 ⟨a1, a2, a3, a4, a5⟩ w4.heap.size rfl).later (bl_newZ _ (.cells #[.bool b1, .bool b2, .bool b3, .bool b4, .bool b5] 51)))
  have KB := Lib.hid (itAt_made (w4.alloc (.cells #[.bool a1, .bool a2, .bool a3, .bool a4, .bool a5] 51)) ⟨b1, b2, b3, b4, b5⟩ (w4.heap.size + 1) (by simp))
  replace HB := Lib.hid (below2S HB.out bb)
  clear b bb
  obtain ⟨c0, c1, c2, c3, c4⟩ := KA.out
  obtain ⟨d0, d1, d2, d3, d4⟩ := KB.out
  go_wp2_with fail
  generalize hW : (w4.alloc (.cells #[.bool a1, .bool a2, .bool a3, .bool a4, .bool a5] 51)).alloc (.cells #[.bool b1, .bool b2, .bool b3, .bool b4, .bool b5] 51) = w5 at HB KA KB c0 c1 c2 c3 c4 d0 d1 d2 d3 d4 ⊢
  clear hW c0 c1 c2 c3 c4 d0 d1 d2 d3 d4
  have RH := rhas_any (HV.out.later HB.out) u o
  rw [FQ.out] at RH
  refine RH.mono ?_
  rintro e w6 ⟨rfl, rfl⟩
  clear RH
  go_wp2_with fail
  refine (rof_any (HV.out.later HB.out) (by omega) u).mono ?_
  rintro e w7 ⟨u7, rfl, hot, b⟩
  obtain ⟨a7', k7', rfl⟩ := ownT_slice hot
  replace HB := Lib.hid (below2S HB.out b)
  replace KA := Lib.hid (KA.out.later b)
  replace KB := Lib.hid (KB.out.later b)
  clear b hot
  go_wp2_with fail
  refine (rof_any (HV.out.later HB.out) (by omega) o).mono ?_
  rintro e w8 ⟨u8, rfl, hot, b⟩
  obtain ⟨a8', k8', rfl⟩ := ownT_slice hot
  replace HB := Lib.hid (below2S HB.out b)
  replace KA := Lib.hid (KA.out.later b)
  replace KB := Lib.hid (KB.out.later b)
  clear b hot
  obtain ⟨c0, c1, c2, c3, c4⟩ := KA.out
  obtain ⟨d0, d1, d2, d3, d4⟩ := KB.out
  go_wp2_with fail
  clear c0 c1 c2 c3 c4 d0 d1 d2 d3 d4
  refine (GA.out _).mono ?_
  rintro e w9 ⟨rfl, b⟩
  replace HB := Lib.hid (below2S HB.out b)
  replace KA := Lib.hid (KA.out.later b)
  replace KB := Lib.hid (KB.out.later b)
  clear b
  obtain ⟨c0, c1, c2, c3, c4⟩ := KA.out
  obtain ⟨d0, d1, d2, d3, d4⟩ := KB.out
  go_wp2_with fail
  clear c0 c1 c2 c3 c4 d0 d1 d2 d3 d4
  refine (rset8_any (HV.out.later HB.out) (by omega) u o a1 a2 a3 a4 a5 true).mono ?_
  rintro e w11 ⟨y, rfl, hy, b⟩
  replace HB := Lib.hid (below2S HB.out b)
  replace KB := Lib.hid (KB.out.later b)
  have YE := Lib.hid (hy.rd entOK).ents
  have hyl := rsO_len ⟨u, o, ⟨a1, a2, a3, a4, a5⟩⟩ l (!true)
  obtain ⟨ya, yc, ey, _⟩ := YE.out.open'
  subst ey
  clear b hy
  obtain ⟨d0, d1, d2, d3, d4⟩ := KB.out
  go_wp2_with fail
  refine (rset8_any YE.out (by omega) o u b1 b2 b3 b4 b5 true).mono ?_
  rintro e w12 ⟨z, rfl, hz, b⟩
  replace HB := Lib.hid (below2S HB.out b)
  have ZE := Lib.hid (hz.rd entOK).ents
  clear b hz
  go_wp2_with fail
  go_ret2
  exact ⟨_, rfl, ZE.out, HB.out⟩

set_option maxHeartbeats 3200000 in
set_option maxRecDepth 100000 in
theorem rdodJ2 {w : World} {v : Value} {l : List Ent} (hv : Ents w v l) (hs : ShortE l) (hl : l.length ≤ 900) (u o : List UInt8) (hu : u.length ≤ 4294967296) (ho : o.length ≤ 4294967296) (k : Int) (hm : roMayD l = true) (h1 : idIs u = true) (h2 : idIs o = true) (h3 : (u == o) = false) (h4 : 1 ≤ k) (h5 : k ≤ 6) {i1 i2 i3 i4 i5 j1 j2 j3 j4 j5 a1 a2 a3 a4 a5 b1 b2 b3 b4 b5 : Bool} (hi : roGet l u o = ⟨i1, i2, i3, i4, i5⟩) (hj : roGet l o u = ⟨j1, j2, j3, j4, j5⟩) (hact : suAct ⟨i1, i2, i3, i4, i5⟩ ⟨j1, j2, j3, j4, j5⟩ k = (⟨a1, a2, a3, a4, a5⟩, ⟨b1, b2, b3, b4, b5⟩, 0)) (hq : roHas l u o = false) (gu : decide (16 ≤ (roOf l u).length) = false) (go : decide (16 ≤ (roOf l o).length) = false) (ga : suEmpty ⟨a1, a2, a3, a4, a5⟩ = true) (gb : suEmpty ⟨b1, b2, b3, b4, b5⟩ = false) :
    Calls Tryz.prog 49 #[v, .int .i64 k, .string ⟨u.toArray⟩, .string ⟨o.toArray⟩] w fun e w' => ∃ v', e = .returned (.tuple #[v', .int .i64 0]) ∧ Ents w' v' (rsO entLt entIs ⟨o, u, ⟨b1, b2, b3, b4, b5⟩⟩ (rsO entLt entIs ⟨u, o, ⟨a1, a2, a3, a4, a5⟩⟩ l (!true)) (!true)) ∧ Below w.heap.size w w' := by
  have HV := Lib.hid hv
  have HM := Lib.hid (rmay8_any hv hs (by omega) (Lib.hid hm))
  have I1 := ris_any u hu
  rw [h1] at I1
  replace I1 := Lib.hid I1
  have I2 := ris_any o ho
  rw [h2] at I2
  replace I2 := Lib.hid I2
  have t4 : decide (k < 1) = false := by simp; omega
  have t5 : decide (6 < k) = false := by simp; omega
  have FI := Lib.hid hi
  have FJ := Lib.hid hj
  have HA := Lib.hid (ract_eq (Lib.hid hact))
  have FQ := Lib.hid hq
  clear hq
  have tgu : decide ((16 : Int) ≤ ((roOf l u).length : Int)) = false := by rw [← gu]; congr 1; apply propext; omega
  have tgo : decide ((16 : Int) ≤ ((roOf l o).length : Int)) = false := by rw [← go]; congr 1; apply propext; omega
  clear gu go
  have GA := Lib.hid (rsempty_eq a1 a2 a3 a4 a5 ga)
  have GB := Lib.hid (rsempty_eq b1 b2 b3 b4 b5 gb)
  clear ga gb
  obtain ⟨a, cap, rfl, hmx⟩ := hv.open'
  clear hv hs hm h1 h2 h4 h5 hi hj hact
  go_enter Tryz.func49, Tryz.ntmps49
  go_wp2_with fail
  refine HM.out.mono ?_
  rintro e w1 ⟨rfl, b⟩
  have HB := Lib.hid b
  clear b
  go_wp2_with fail
  refine (I1.out _).mono ?_
  rintro e w2 ⟨rfl, rfl⟩
  go_wp2_with fail
  refine (I2.out _).mono ?_
  rintro e w2 ⟨rfl, rfl⟩
  go_wp2_with fail
  refine (rget8_eq (HV.out.later HB.out) u o FI).mono ?_
  rintro e w2 ⟨rfl, b⟩
  replace HB := Lib.hid (below2S HB.out b)
  clear b
  go_wp2_with fail
  refine (rget8_eq (HV.out.later HB.out) o u FJ).mono ?_
  rintro e w3 ⟨rfl, b⟩
  replace HB := Lib.hid (below2S HB.out b)
  clear b
  go_wp2_with fail
  refine (HA.out _).mono ?_
  rintro e w4 ⟨rfl, b⟩
  have bb := below2S b (below2S (bl_newZ w4 (.cells #[.bool a1, .bool a2, .bool a3, .bool a4, .bool a5] 51)) (bl_newZ _ (.cells #[.bool b1, .bool b2, .bool b3, .bool b4, .bool b5] 51)))
  have KA := Lib.hid ((itAt_made w4 ⟨a1, a2, a3, a4, a5⟩ w4.heap.size rfl).later (bl_newZ _ (.cells #[.bool b1, .bool b2, .bool b3, .bool b4, .bool b5] 51)))
  have KB := Lib.hid (itAt_made (w4.alloc (.cells #[.bool a1, .bool a2, .bool a3, .bool a4, .bool a5] 51)) ⟨b1, b2, b3, b4, b5⟩ (w4.heap.size + 1) (by simp))
  replace HB := Lib.hid (below2S HB.out bb)
  clear b bb
  obtain ⟨c0, c1, c2, c3, c4⟩ := KA.out
  obtain ⟨d0, d1, d2, d3, d4⟩ := KB.out
  go_wp2_with fail
  generalize hW : (w4.alloc (.cells #[.bool a1, .bool a2, .bool a3, .bool a4, .bool a5] 51)).alloc (.cells #[.bool b1, .bool b2, .bool b3, .bool b4, .bool b5] 51) = w5 at HB KA KB c0 c1 c2 c3 c4 d0 d1 d2 d3 d4 ⊢
  clear hW c0 c1 c2 c3 c4 d0 d1 d2 d3 d4
  have RH := rhas_any (HV.out.later HB.out) u o
  rw [FQ.out] at RH
  refine RH.mono ?_
  rintro e w6 ⟨rfl, rfl⟩
  clear RH
  go_wp2_with fail
  refine (rof_any (HV.out.later HB.out) (by omega) u).mono ?_
  rintro e w7 ⟨u7, rfl, hot, b⟩
  obtain ⟨a7', k7', rfl⟩ := ownT_slice hot
  replace HB := Lib.hid (below2S HB.out b)
  replace KA := Lib.hid (KA.out.later b)
  replace KB := Lib.hid (KB.out.later b)
  clear b hot
  go_wp2_with fail
  refine (rof_any (HV.out.later HB.out) (by omega) o).mono ?_
  rintro e w8 ⟨u8, rfl, hot, b⟩
  obtain ⟨a8', k8', rfl⟩ := ownT_slice hot
  replace HB := Lib.hid (below2S HB.out b)
  replace KA := Lib.hid (KA.out.later b)
  replace KB := Lib.hid (KB.out.later b)
  clear b hot
  obtain ⟨c0, c1, c2, c3, c4⟩ := KA.out
  obtain ⟨d0, d1, d2, d3, d4⟩ := KB.out
  go_wp2_with fail
  clear c0 c1 c2 c3 c4 d0 d1 d2 d3 d4
  refine (GA.out _).mono ?_
  rintro e w9 ⟨rfl, b⟩
  replace HB := Lib.hid (below2S HB.out b)
  replace KA := Lib.hid (KA.out.later b)
  replace KB := Lib.hid (KB.out.later b)
  clear b
  obtain ⟨c0, c1, c2, c3, c4⟩ := KA.out
  obtain ⟨d0, d1, d2, d3, d4⟩ := KB.out
  go_wp2_with fail
  clear c0 c1 c2 c3 c4 d0 d1 d2 d3 d4
  refine (GB.out _).mono ?_
  rintro e w10 ⟨rfl, b⟩
  replace HB := Lib.hid (below2S HB.out b)
  replace KA := Lib.hid (KA.out.later b)
  replace KB := Lib.hid (KB.out.later b)
  clear b
  obtain ⟨c0, c1, c2, c3, c4⟩ := KA.out
  obtain ⟨d0, d1, d2, d3, d4⟩ := KB.out
  go_wp2_with fail
  clear c0 c1 c2 c3 c4 d0 d1 d2 d3 d4
  refine (rset8_any (HV.out.later HB.out) (by omega) u o a1 a2 a3 a4 a5 true).mono ?_
  rintro e w11 ⟨y, rfl, hy, b⟩
  replace HB := Lib.hid (below2S HB.out b)
  replace KB := Lib.hid (KB.out.later b)
  have YE := Lib.hid (hy.rd entOK).ents
  have hyl := rsO_len ⟨u, o, ⟨a1, a2, a3, a4, a5⟩⟩ l (!true)
  obtain ⟨ya, yc, ey, _⟩ := YE.out.open'
  subst ey
  clear b hy
  obtain ⟨d0, d1, d2, d3, d4⟩ := KB.out
  go_wp2_with fail
  refine (rset8_any YE.out (by omega) o u b1 b2 b3 b4 b5 true).mono ?_
  rintro e w12 ⟨z, rfl, hz, b⟩
  replace HB := Lib.hid (below2S HB.out b)
  have ZE := Lib.hid (hz.rd entOK).ents
  clear b hz
  go_wp2_with fail
  go_ret2
  exact ⟨_, rfl, ZE.out, HB.out⟩

set_option maxHeartbeats 3200000 in
set_option maxRecDepth 100000 in
theorem rdodJ3 {w : World} {v : Value} {l : List Ent} (hv : Ents w v l) (hs : ShortE l) (hl : l.length ≤ 900) (u o : List UInt8) (hu : u.length ≤ 4294967296) (ho : o.length ≤ 4294967296) (k : Int) (hm : roMayD l = true) (h1 : idIs u = true) (h2 : idIs o = true) (h3 : (u == o) = false) (h4 : 1 ≤ k) (h5 : k ≤ 6) {i1 i2 i3 i4 i5 j1 j2 j3 j4 j5 a1 a2 a3 a4 a5 b1 b2 b3 b4 b5 : Bool} (hi : roGet l u o = ⟨i1, i2, i3, i4, i5⟩) (hj : roGet l o u = ⟨j1, j2, j3, j4, j5⟩) (hact : suAct ⟨i1, i2, i3, i4, i5⟩ ⟨j1, j2, j3, j4, j5⟩ k = (⟨a1, a2, a3, a4, a5⟩, ⟨b1, b2, b3, b4, b5⟩, 0)) (hq : roHas l u o = false) (gu : decide (16 ≤ (roOf l u).length) = false) (go : decide (16 ≤ (roOf l o).length) = false) (ga : suEmpty ⟨a1, a2, a3, a4, a5⟩ = true) (gb : suEmpty ⟨b1, b2, b3, b4, b5⟩ = true) :
    Calls Tryz.prog 49 #[v, .int .i64 k, .string ⟨u.toArray⟩, .string ⟨o.toArray⟩] w fun e w' => ∃ v', e = .returned (.tuple #[v', .int .i64 0]) ∧ Ents w' v' (rsO entLt entIs ⟨o, u, ⟨b1, b2, b3, b4, b5⟩⟩ (rsO entLt entIs ⟨u, o, ⟨a1, a2, a3, a4, a5⟩⟩ l (!false)) (!false)) ∧ Below w.heap.size w w' := by
  have HV := Lib.hid hv
  have HM := Lib.hid (rmay8_any hv hs (by omega) (Lib.hid hm))
  have I1 := ris_any u hu
  rw [h1] at I1
  replace I1 := Lib.hid I1
  have I2 := ris_any o ho
  rw [h2] at I2
  replace I2 := Lib.hid I2
  have t4 : decide (k < 1) = false := by simp; omega
  have t5 : decide (6 < k) = false := by simp; omega
  have FI := Lib.hid hi
  have FJ := Lib.hid hj
  have HA := Lib.hid (ract_eq (Lib.hid hact))
  have FQ := Lib.hid hq
  clear hq
  have tgu : decide ((16 : Int) ≤ ((roOf l u).length : Int)) = false := by rw [← gu]; congr 1; apply propext; omega
  have tgo : decide ((16 : Int) ≤ ((roOf l o).length : Int)) = false := by rw [← go]; congr 1; apply propext; omega
  clear gu go
  have GA := Lib.hid (rsempty_eq a1 a2 a3 a4 a5 ga)
  have GB := Lib.hid (rsempty_eq b1 b2 b3 b4 b5 gb)
  clear ga gb
  obtain ⟨a, cap, rfl, hmx⟩ := hv.open'
  clear hv hs hm h1 h2 h4 h5 hi hj hact
  go_enter Tryz.func49, Tryz.ntmps49
  go_wp2_with fail
  refine HM.out.mono ?_
  rintro e w1 ⟨rfl, b⟩
  have HB := Lib.hid b
  clear b
  go_wp2_with fail
  refine (I1.out _).mono ?_
  rintro e w2 ⟨rfl, rfl⟩
  go_wp2_with fail
  refine (I2.out _).mono ?_
  rintro e w2 ⟨rfl, rfl⟩
  go_wp2_with fail
  refine (rget8_eq (HV.out.later HB.out) u o FI).mono ?_
  rintro e w2 ⟨rfl, b⟩
  replace HB := Lib.hid (below2S HB.out b)
  clear b
  go_wp2_with fail
  refine (rget8_eq (HV.out.later HB.out) o u FJ).mono ?_
  rintro e w3 ⟨rfl, b⟩
  replace HB := Lib.hid (below2S HB.out b)
  clear b
  go_wp2_with fail
  refine (HA.out _).mono ?_
  rintro e w4 ⟨rfl, b⟩
  have bb := below2S b (below2S (bl_newZ w4 (.cells #[.bool a1, .bool a2, .bool a3, .bool a4, .bool a5] 51)) (bl_newZ _ (.cells #[.bool b1, .bool b2, .bool b3, .bool b4, .bool b5] 51)))
  have KA := Lib.hid ((itAt_made w4 ⟨a1, a2, a3, a4, a5⟩ w4.heap.size rfl).later (bl_newZ _ (.cells #[.bool b1, .bool b2, .bool b3, .bool b4, .bool b5] 51)))
  have KB := Lib.hid (itAt_made (w4.alloc (.cells #[.bool a1, .bool a2, .bool a3, .bool a4, .bool a5] 51)) ⟨b1, b2, b3, b4, b5⟩ (w4.heap.size + 1) (by simp))
  replace HB := Lib.hid (below2S HB.out bb)
  clear b bb
  obtain ⟨c0, c1, c2, c3, c4⟩ := KA.out
  obtain ⟨d0, d1, d2, d3, d4⟩ := KB.out
  go_wp2_with fail
  generalize hW : (w4.alloc (.cells #[.bool a1, .bool a2, .bool a3, .bool a4, .bool a5] 51)).alloc (.cells #[.bool b1, .bool b2, .bool b3, .bool b4, .bool b5] 51) = w5 at HB KA KB c0 c1 c2 c3 c4 d0 d1 d2 d3 d4 ⊢
  clear hW c0 c1 c2 c3 c4 d0 d1 d2 d3 d4
  have RH := rhas_any (HV.out.later HB.out) u o
  rw [FQ.out] at RH
  refine RH.mono ?_
  rintro e w6 ⟨rfl, rfl⟩
  clear RH
  go_wp2_with fail
  refine (rof_any (HV.out.later HB.out) (by omega) u).mono ?_
  rintro e w7 ⟨u7, rfl, hot, b⟩
  obtain ⟨a7', k7', rfl⟩ := ownT_slice hot
  replace HB := Lib.hid (below2S HB.out b)
  replace KA := Lib.hid (KA.out.later b)
  replace KB := Lib.hid (KB.out.later b)
  clear b hot
  go_wp2_with fail
  refine (rof_any (HV.out.later HB.out) (by omega) o).mono ?_
  rintro e w8 ⟨u8, rfl, hot, b⟩
  obtain ⟨a8', k8', rfl⟩ := ownT_slice hot
  replace HB := Lib.hid (below2S HB.out b)
  replace KA := Lib.hid (KA.out.later b)
  replace KB := Lib.hid (KB.out.later b)
  clear b hot
  obtain ⟨c0, c1, c2, c3, c4⟩ := KA.out
  obtain ⟨d0, d1, d2, d3, d4⟩ := KB.out
  go_wp2_with fail
  clear c0 c1 c2 c3 c4 d0 d1 d2 d3 d4
  refine (GA.out _).mono ?_
  rintro e w9 ⟨rfl, b⟩
  replace HB := Lib.hid (below2S HB.out b)
  replace KA := Lib.hid (KA.out.later b)
  replace KB := Lib.hid (KB.out.later b)
  clear b
  obtain ⟨c0, c1, c2, c3, c4⟩ := KA.out
  obtain ⟨d0, d1, d2, d3, d4⟩ := KB.out
  go_wp2_with fail
  clear c0 c1 c2 c3 c4 d0 d1 d2 d3 d4
  refine (GB.out _).mono ?_
  rintro e w10 ⟨rfl, b⟩
  replace HB := Lib.hid (below2S HB.out b)
  replace KA := Lib.hid (KA.out.later b)
  replace KB := Lib.hid (KB.out.later b)
  clear b
  obtain ⟨c0, c1, c2, c3, c4⟩ := KA.out
  obtain ⟨d0, d1, d2, d3, d4⟩ := KB.out
  go_wp2_with fail
  clear c0 c1 c2 c3 c4 d0 d1 d2 d3 d4
  refine (rset8_any (HV.out.later HB.out) (by omega) u o a1 a2 a3 a4 a5 false).mono ?_
  rintro e w11 ⟨y, rfl, hy, b⟩
  replace HB := Lib.hid (below2S HB.out b)
  replace KB := Lib.hid (KB.out.later b)
  have YE := Lib.hid (hy.rd entOK).ents
  have hyl := rsO_len ⟨u, o, ⟨a1, a2, a3, a4, a5⟩⟩ l (!false)
  obtain ⟨ya, yc, ey, _⟩ := YE.out.open'
  subst ey
  clear b hy
  obtain ⟨d0, d1, d2, d3, d4⟩ := KB.out
  go_wp2_with fail
  refine (rset8_any YE.out (by omega) o u b1 b2 b3 b4 b5 false).mono ?_
  rintro e w12 ⟨z, rfl, hz, b⟩
  replace HB := Lib.hid (below2S HB.out b)
  have ZE := Lib.hid (hz.rd entOK).ents
  clear b hz
  go_wp2_with fail
  go_ret2
  exact ⟨_, rfl, ZE.out, HB.out⟩

set_option maxHeartbeats 3200000 in
set_option maxRecDepth 100000 in
theorem rdo8_any {w : World} {v : Value} {l : List Ent} (hv : Ents w v l) (hs : ShortE l) (hl : l.length ≤ 900) (u o : List UInt8) (hu : u.length ≤ 4294967296) (ho : o.length ≤ 4294967296) (k : Int) {R : List Ent} {n : Nat} (h : roDo l k u o = (R, n)) :
    Calls Tryz.prog 49 #[v, .int .i64 k, .string ⟨u.toArray⟩, .string ⟨o.toArray⟩] w fun e w' => ∃ v', e = .returned (.tuple #[v', .int .i64 (n : Int)]) ∧ Ents w' v' R ∧ Below w.heap.size w w' := by
  unfold roDo at h
  have hmd := roMay_same l
  cases hm : roMayC l with
  | false =>
    rw [hm] at h hmd
    simp only [Bool.false_and, Bool.false_eq_true, if_false, Prod.mk.injEq] at h
    obtain ⟨rfl, rfl⟩ := h
    exact rdodA hv hs hl u o hu ho k hmd
  | true =>
    rw [hm] at hmd
    cases h1 : idIs u with
    | false =>
      rw [hm, h1] at h
      simp only [Bool.false_and, Bool.true_and, Bool.false_eq_true, if_false, Prod.mk.injEq] at h
      obtain ⟨rfl, rfl⟩ := h
      exact rdodB hv hs hl u o hu ho k hmd h1
    | true =>
      cases h2 : idIs o with
      | false =>
        rw [hm, h1, h2] at h
        simp only [Bool.false_and, Bool.true_and, Bool.false_eq_true, if_false, Prod.mk.injEq] at h
        obtain ⟨rfl, rfl⟩ := h
        exact rdodC hv hs hl u o hu ho k hmd h1 h2
      | true =>
        by_cases h3 : u = o
        · rw [hm, h1, h2] at h
          simp only [h3, decide_true, Bool.not_true, Bool.false_and, Bool.true_and, Bool.false_eq_true, if_false, Prod.mk.injEq] at h
          obtain ⟨rfl, rfl⟩ := h
          exact rdodD hv hs hl u o hu ho k hmd h1 h2 (by simpa using h3)
        · have h3' : (u == o) = false := by rw [beq_eq_false_iff_ne]; exact h3
          by_cases h4 : 1 ≤ k
          · by_cases h5 : k ≤ 6
            · obtain ⟨⟨i1, i2, i3, i4, i5⟩, hi⟩ : ∃ r, roIt l u o = r := ⟨_, rfl⟩
              obtain ⟨⟨j1, j2, j3, j4, j5⟩, hj⟩ : ∃ r, roIt l o u = r := ⟨_, rfl⟩
              have gi : roGet l u o = ⟨i1, i2, i3, i4, i5⟩ := hi
              have gj : roGet l o u = ⟨j1, j2, j3, j4, j5⟩ := hj
              obtain ⟨q, hq⟩ : ∃ q, (l.any fun x => entIs x ⟨u, o, It.zero⟩) = q := ⟨_, rfl⟩
              have gq : roHas l u o = q := hq
              obtain ⟨⟨⟨a1, a2, a3, a4, a5⟩, ⟨b1, b2, b3, b4, b5⟩, er⟩, hact⟩ : ∃ r, suAct ⟨i1, i2, i3, i4, i5⟩ ⟨j1, j2, j3, j4, j5⟩ k = r := ⟨_, rfl⟩
              rw [hm, h1, h2, hi, hj, hact, hq] at h
              simp only [h3, h4, h5, decide_false, decide_true, Bool.not_false, Bool.and_self, if_true] at h
              by_cases he : er = 0
              · subst he
                rw [if_neg (by simp)] at h
                unfold roSet at h
                cases q with
                | false =>
                  cases gu : decide (16 ≤ (roOf l u).length) with
                  | true =>
                    rw [gu] at h
                    simp only [Bool.not_false, Bool.true_and, Bool.true_or, if_true, Prod.mk.injEq] at h
                    obtain ⟨rfl, rfl⟩ := h
                    exact rdodH1 hv hs hl u o hu ho k hmd h1 h2 h3' h4 h5 gi gj hact gq gu
                  | false =>
                    cases go : decide (16 ≤ (roOf l o).length) with
                    | true =>
                      rw [gu, go] at h
                      simp only [Bool.not_false, Bool.true_and, Bool.or_true, if_true, Prod.mk.injEq] at h
                      obtain ⟨rfl, rfl⟩ := h
                      exact rdodH2 hv hs hl u o hu ho k hmd h1 h2 h3' h4 h5 gi gj hact gq gu go
                    | false =>
                      rw [gu, go] at h
                      simp only [Bool.or_self, Bool.and_false, Bool.false_eq_true, if_false, Prod.mk.injEq] at h
                      obtain ⟨rfl, rfl⟩ := h
                      cases ga : suEmpty ⟨a1, a2, a3, a4, a5⟩ with
                      | true =>
                        cases gb : suEmpty ⟨b1, b2, b3, b4, b5⟩ with
                        | true => exact rdodJ3 hv hs hl u o hu ho k hmd h1 h2 h3' h4 h5 gi gj hact gq gu go ga gb
                        | false => exact rdodJ2 hv hs hl u o hu ho k hmd h1 h2 h3' h4 h5 gi gj hact gq gu go ga gb
                      | false => exact rdodJ1 hv hs hl u o hu ho k hmd h1 h2 h3' h4 h5 gi gj hact gq gu go ga
                | true =>
                  simp only [Bool.not_true, Bool.false_and, Bool.false_eq_true, if_false, Prod.mk.injEq] at h
                  obtain ⟨rfl, rfl⟩ := h
                  cases ga : suEmpty ⟨a1, a2, a3, a4, a5⟩ with
                  | true =>
                    cases gb : suEmpty ⟨b1, b2, b3, b4, b5⟩ with
                    | true => exact rdodI3 hv hs hl u o hu ho k hmd h1 h2 h3' h4 h5 gi gj hact gq ga gb
                    | false => exact rdodI2 hv hs hl u o hu ho k hmd h1 h2 h3' h4 h5 gi gj hact gq ga gb
                  | false => exact rdodI1 hv hs hl u o hu ho k hmd h1 h2 h3' h4 h5 gi gj hact gq ga
              · rw [if_pos he] at h
                simp only [Prod.mk.injEq] at h
                obtain ⟨rfl, rfl⟩ := h
                exact rdodG hv hs hl u o hu ho k hmd h1 h2 h3' h4 h5 gi gj hact he
            · rw [hm, h1, h2] at h
              simp only [h5, decide_false, Bool.and_false, Bool.false_eq_true, if_false, Prod.mk.injEq] at h
              obtain ⟨rfl, rfl⟩ := h
              exact rdodF hv hs hl u o hu ho k hmd h1 h2 h3' h4 (by omega)
          · rw [hm, h1, h2] at h
            simp only [h4, decide_false, Bool.false_and, Bool.and_false, Bool.false_eq_true, if_false, Prod.mk.injEq] at h
            obtain ⟨rfl, rfl⟩ := h
            exact rdodE hv hs hl u o hu ho k hmd h1 h2 h3' (by omega)

end Go.Proofs.YtdilcckoapaimaaGreat

end

section

/-
  LAYER 9: the document's Put.
-/
namespace Go.Proofs.YtdilcckoapaimaaGreat
open Go.RowKit

set_option maxHeartbeats 3200000 in
set_option maxRecDepth 100000 in
theorem rsput_a {w : World} {v : Value} {l : List Ses} (hv : Sess w v l) (hs : ShortS l) (u st : List UInt8) (id a b c : Int) (_hu : u.length ≤ 4294967296) (_hst : st.length ≤ 4294967296) (h : seMay l = false) :
    Calls Tryz.prog 50 #[v, .agg #[.string ⟨u.toArray⟩, .int .i64 id, .int .i64 a, .int .i64 b, .int .i64 c, .string ⟨st.toArray⟩]] w fun e w' => e = .returned (.tuple #[v, .int .i64 1]) ∧ Below w.heap.size w w' := by
  have bn := bl_newZ w (.cells #[.string ⟨u.toArray⟩, .int .i64 id, .int .i64 a, .int .i64 b, .int .i64 c, .string ⟨st.toArray⟩] 83)
  have B0 := Lib.hid bn
  have C0 := Lib.hid (cellsAt_made (w := w) (cs := #[.string ⟨u.toArray⟩, .int .i64 id, .int .i64 a, .int .i64 b, .int .i64 c, .string ⟨st.toArray⟩]) (vs := sesVals ⟨u, id, ⟨a, b, c, st⟩⟩) rfl 83 rfl)
  have V0 := Lib.hid (hv.later bn)
  have HM := Lib.hid (rsmay9_any V0.out hs (Lib.hid h))
  obtain ⟨ao, cap, rfl, _⟩ := hv.open'
  clear hv bn h hs
  go_enter Tryz.func50, Tryz.ntmps50
  go_wp2_with fail
  refine HM.out.mono ?_
  rintro e w1 ⟨rfl, b1⟩
  have B1 := Lib.hid (below2Z B0.out b1)
  clear b1
  go_wp2_with fail
  go_ret2
  exact ⟨rfl, B1.out⟩

set_option maxHeartbeats 3200000 in
set_option maxRecDepth 100000 in
theorem rsput_b {w : World} {v : Value} {l : List Ses} (hv : Sess w v l) (hs : ShortS l) (u st : List UInt8) (id a b c : Int) (hu : u.length ≤ 4294967296) (hst : st.length ≤ 4294967296) (h : seMay l = true) (ho : seOne ⟨u, id, ⟨a, b, c, st⟩⟩ = false) :
    Calls Tryz.prog 50 #[v, .agg #[.string ⟨u.toArray⟩, .int .i64 id, .int .i64 a, .int .i64 b, .int .i64 c, .string ⟨st.toArray⟩]] w fun e w' => e = .returned (.tuple #[v, .int .i64 1]) ∧ Below w.heap.size w w' := by
  have bn := bl_newZ w (.cells #[.string ⟨u.toArray⟩, .int .i64 id, .int .i64 a, .int .i64 b, .int .i64 c, .string ⟨st.toArray⟩] 83)
  have B0 := Lib.hid bn
  have C0 := Lib.hid (cellsAt_made (w := w) (cs := #[.string ⟨u.toArray⟩, .int .i64 id, .int .i64 a, .int .i64 b, .int .i64 c, .string ⟨st.toArray⟩]) (vs := sesVals ⟨u, id, ⟨a, b, c, st⟩⟩) rfl 83 rfl)
  have V0 := Lib.hid (hv.later bn)
  have HM := Lib.hid (rsmay9_any V0.out hs (Lib.hid h))
  have HO := Lib.hid (rone_any u st id a b c hu hst (Lib.hid ho))
  obtain ⟨ao, cap, rfl, _⟩ := hv.open'
  clear hv bn h ho hs
  go_enter Tryz.func50, Tryz.ntmps50
  go_wp2_with fail
  refine HM.out.mono ?_
  rintro e w1 ⟨rfl, b1⟩
  have B1 := Lib.hid (below2Z B0.out b1)
  have V1 := Lib.hid (V0.out.later b1)
  have C1 := Lib.hid (C0.out.later b1)
  clear b1
  obtain ⟨c0, c1, c2, c3, c4, c5⟩ := sixS_of C1.out
  go_wp2_with fail
  refine (HO.out _).mono ?_
  rintro e w2 ⟨rfl, b2⟩
  have B2 := Lib.hid (below2Z B1.out b2)
  have V2 := Lib.hid (V1.out.later b2)
  have C2 := Lib.hid (C1.out.later b2)
  clear b2 c0 c1 c2 c3 c4 c5 B0 V0 C0 B1 V1 C1
  go_wp2_with fail
  go_ret2
  exact ⟨rfl, B2.out⟩

set_option maxHeartbeats 3200000 in
set_option maxRecDepth 100000 in
theorem rsput_c {w : World} {v : Value} {l : List Ses} (hv : Sess w v l) (hs : ShortS l) (u st : List UInt8) (id a b c : Int) (hu : u.length ≤ 4294967296) (hst : st.length ≤ 4294967296) (h : seMay l = true) (ho : seOne ⟨u, id, ⟨a, b, c, st⟩⟩ = true) {i : Nat} (hf : findO seIs l (keyS u id) = some i) :
    Calls Tryz.prog 50 #[v, .agg #[.string ⟨u.toArray⟩, .int .i64 id, .int .i64 a, .int .i64 b, .int .i64 c, .string ⟨st.toArray⟩]] w fun e w' => ∃ x, e = .returned (.tuple #[x, .int .i64 0]) ∧ OwnSes w' w.heap.size x (l.set i ⟨u, id, ⟨a, b, c, st⟩⟩) ∧ Below w.heap.size w w' := by
  have bn := bl_newZ w (.cells #[.string ⟨u.toArray⟩, .int .i64 id, .int .i64 a, .int .i64 b, .int .i64 c, .string ⟨st.toArray⟩] 83)
  have B0 := Lib.hid bn
  have C0 := Lib.hid (cellsAt_made (w := w) (cs := #[.string ⟨u.toArray⟩, .int .i64 id, .int .i64 a, .int .i64 b, .int .i64 c, .string ⟨st.toArray⟩]) (vs := sesVals ⟨u, id, ⟨a, b, c, st⟩⟩) rfl 83 rfl)
  have V0 := Lib.hid (hv.later bn)
  have HM := Lib.hid (rsmay9_any V0.out hs (Lib.hid h))
  have HO := Lib.hid (rone_any u st id a b c hu hst (Lib.hid ho))
  have hi : i < l.length := (findO_some hf).1
  have hl32 := (seMay_rise h).1
  have HF1 := Lib.hid (sePl_some hf)
  obtain ⟨bk, off, ebk, hcaps⟩ : ∃ b off, ∃ cap, v = .slice (some ⟨b, off, none⟩) l.length cap ∧ l.length ≤ cap ∧ cap ≤ maxLen := by
    obtain ⟨a, cap, e, h1, h2, _, h4⟩ := hv
    rcases h4 with h4 | ⟨b, off, e2, _⟩
    · rw [h4] at hi; simp at hi
    · exact ⟨b, off, cap, by rw [e, e2], h1, h2⟩
  obtain ⟨rfl, hc1, hc2⟩ := hcaps
  unfold maxLen at hc2
  have t0 : decide (0 ≤ (i : Int)) = true := by rw [decide_eq_true_eq]; omega
  have hnn : (0 : Int) ≤ (i : Int) := by omega
  have hli : (i : Int) < (l.length : Int) := by omega
  clear hv bn h ho hs hf
  go_enter Tryz.func50, Tryz.ntmps50
  go_wp2_with fail
  refine HM.out.mono ?_
  rintro e w1 ⟨rfl, b1⟩
  have B1 := Lib.hid (below2Z B0.out b1)
  have V1 := Lib.hid (V0.out.later b1)
  have C1 := Lib.hid (C0.out.later b1)
  clear b1
  obtain ⟨c0, c1, c2, c3, c4, c5⟩ := sixS_of C1.out
  go_wp2_with fail
  refine (HO.out _).mono ?_
  rintro e w2 ⟨rfl, b2⟩
  have B2 := Lib.hid (below2Z B1.out b2)
  have V2 := Lib.hid (V1.out.later b2)
  have C2 := Lib.hid (C1.out.later b2)
  clear b2 c0 c1 c2 c3 c4 c5 B0 V0 C0 B1 V1 C1
  obtain ⟨c0, c1, c2, c3, c4, c5⟩ := sixS_of C2.out
  have HF := Lib.hid (rplace_any V2.out u id HF1)
  go_wp2_with fail
  refine HF.out.mono ?_
  rintro e w4 ⟨rfl, b4⟩
  have B4 := Lib.hid (below2Z B2.out b4)
  have V4 := Lib.hid (V2.out.later b4)
  have C4 := Lib.hid (C2.out.later b4)
  clear b4 B2 V2 C2 HF c0 c1 c2 c3 c4 c5
  have b5 := bl_newZ w4 (.cells #[] 83)
  have HS5 := Lib.hid ((V4.out.later b5).src sesOK)
  go_wp2_with (at_builtin; refine wpList_append_S sesOK rfl _ _ rfl w4.heap.size _ [] rfl (by exact ownS_made w4) (some ⟨bk, off, none⟩) l.length ebk l rfl rfl (fun e => nomatch e) (fun ad had => by obtain rfl := Option.some.inj had; exact HS5.out) (by simp only [List.length_nil]; omega) (by simp) ?_)
  intro x6 w6 ho6 b6
  have ho5 : OwnSes w6 w4.heap.size x6 l := ho6
  have B5 := Lib.hid (below2Z B4.out (b5.trans b6))
  have C5 := Lib.hid (C4.out.later (b5.trans b6))
  have hz4 := B4.out.size
  obtain ⟨g, cg, rfl⟩ : ∃ g cg, x6 = .slice (some ⟨g, 0, none⟩) l.length cg := by
    rcases ho5.2 with ⟨rfl, h0⟩ | ⟨g, cg, cur, rfl, _⟩
    · omega
    · exact ⟨g, cg, rfl⟩
  have hgb := ho5.head.2.1
  have O5 := Lib.hid (ownS_low ho5 hz4)
  clear ho5 ho6 b6 b5 HS5 B4 C4 V4
  have f0 := O5.out.frozenAt (i * 6)
  have f1 := O5.out.frozenAt (i * 6 + 1)
  have f2 := O5.out.frozenAt (i * 6 + 2)
  have f3 := O5.out.frozenAt (i * 6 + 3)
  have f4 := O5.out.frozenAt (i * 6 + 4)
  have f5 := O5.out.frozenAt (i * 6 + 5)
  obtain ⟨y0, y1, y2, y3, y4, y5⟩ := cells6 (O5.out.row sesOK hi)
  obtain ⟨c0, c1, c2, c3, c4, c5⟩ := sixS_of C5.out
  have O6 := Lib.hid (ses_store O5.out hi u st id a b c)
  have B6 := Lib.hid (below_store6 B5.out (by omega : w.heap.size ≤ g) (i * 6) (i * 6 + 1) (i * 6 + 2) (i * 6 + 3) (i * 6 + 4) (i * 6 + 5) (.string ⟨u.toArray⟩) (.int .i64 id) (.int .i64 a) (.int .i64 b) (.int .i64 c) (.string ⟨st.toArray⟩))
  clear O5 B5 C5
  go_wp2_with fail
  go_ret2
  exact ⟨_, rfl, O6.out, B6.out⟩

set_option maxHeartbeats 3200000 in
set_option maxRecDepth 100000 in
theorem rsput_d {w : World} {v : Value} {l : List Ses} (hv : Sess w v l) (hs : ShortS l) (u st : List UInt8) (id a b c : Int) (hu : u.length ≤ 4294967296) (hst : st.length ≤ 4294967296) (h : seMay l = true) (ho : seOne ⟨u, id, ⟨a, b, c, st⟩⟩ = true) (hf : findO seIs l (keyS u id) = none) (h32 : ¬ l.length < 32) :
    Calls Tryz.prog 50 #[v, .agg #[.string ⟨u.toArray⟩, .int .i64 id, .int .i64 a, .int .i64 b, .int .i64 c, .string ⟨st.toArray⟩]] w fun e w' => e = .returned (.tuple #[v, .int .i64 5]) ∧ Below w.heap.size w w' := by
  have bn := bl_newZ w (.cells #[.string ⟨u.toArray⟩, .int .i64 id, .int .i64 a, .int .i64 b, .int .i64 c, .string ⟨st.toArray⟩] 83)
  have B0 := Lib.hid bn
  have C0 := Lib.hid (cellsAt_made (w := w) (cs := #[.string ⟨u.toArray⟩, .int .i64 id, .int .i64 a, .int .i64 b, .int .i64 c, .string ⟨st.toArray⟩]) (vs := sesVals ⟨u, id, ⟨a, b, c, st⟩⟩) rfl 83 rfl)
  have V0 := Lib.hid (hv.later bn)
  have HM := Lib.hid (rsmay9_any V0.out hs (Lib.hid h))
  have HO := Lib.hid (rone_any u st id a b c hu hst (Lib.hid ho))
  have HF1 := Lib.hid (sePl_none hf)
  have t32 : decide (32 ≤ (l.length : Int)) = true := by rw [decide_eq_true_eq]; omega
  obtain ⟨ao, cap, rfl, _⟩ := hv.open'
  clear hv bn h ho hs hf h32
  go_enter Tryz.func50, Tryz.ntmps50
  go_wp2_with fail
  refine HM.out.mono ?_
  rintro e w1 ⟨rfl, b1⟩
  have B1 := Lib.hid (below2Z B0.out b1)
  have V1 := Lib.hid (V0.out.later b1)
  have C1 := Lib.hid (C0.out.later b1)
  clear b1
  obtain ⟨c0, c1, c2, c3, c4, c5⟩ := sixS_of C1.out
  go_wp2_with fail
  refine (HO.out _).mono ?_
  rintro e w2 ⟨rfl, b2⟩
  have B2 := Lib.hid (below2Z B1.out b2)
  have V2 := Lib.hid (V1.out.later b2)
  have C2 := Lib.hid (C1.out.later b2)
  clear b2 c0 c1 c2 c3 c4 c5 B0 V0 C0 B1 V1 C1
  obtain ⟨c0, c1, c2, c3, c4, c5⟩ := sixS_of C2.out
  have HF := Lib.hid (rplace_any V2.out u id HF1)
  go_wp2_with fail
  refine HF.out.mono ?_
  rintro e w4 ⟨rfl, b4⟩
  have B4 := Lib.hid (below2Z B2.out b4)
  have V4 := Lib.hid (V2.out.later b4)
  have C4 := Lib.hid (C2.out.later b4)
  clear b4 B2 V2 C2 HF c0 c1 c2 c3 c4 c5
  go_wp2_with fail
  go_ret2
  exact ⟨rfl, B4.out⟩

set_option maxHeartbeats 3200000 in
set_option maxRecDepth 100000 in
theorem rsput_e {w : World} {v : Value} {l : List Ses} (hv : Sess w v l) (hs : ShortS l) (u st : List UInt8) (id a b c : Int) (hu : u.length ≤ 4294967296) (hst : st.length ≤ 4294967296) (h : seMay l = true) (ho : seOne ⟨u, id, ⟨a, b, c, st⟩⟩ = true) (hf : findO seIs l (keyS u id) = none) (h32 : l.length < 32) {i : Nat} (hpl : placeO seLt l (keyS u id) = i) (hi : 0 < l.length) :
    Calls Tryz.prog 50 #[v, .agg #[.string ⟨u.toArray⟩, .int .i64 id, .int .i64 a, .int .i64 b, .int .i64 c, .string ⟨st.toArray⟩]] w fun e w' => ∃ x, e = .returned (.tuple #[x, .int .i64 0]) ∧ OwnSes w' w.heap.size x (putS l i ⟨u, id, ⟨a, b, c, st⟩⟩) ∧ Below w.heap.size w w' := by
  have bn := bl_newZ w (.cells #[.string ⟨u.toArray⟩, .int .i64 id, .int .i64 a, .int .i64 b, .int .i64 c, .string ⟨st.toArray⟩] 83)
  have B0 := Lib.hid bn
  have C0 := Lib.hid (cellsAt_made (w := w) (cs := #[.string ⟨u.toArray⟩, .int .i64 id, .int .i64 a, .int .i64 b, .int .i64 c, .string ⟨st.toArray⟩]) (vs := sesVals ⟨u, id, ⟨a, b, c, st⟩⟩) rfl 83 rfl)
  have V0 := Lib.hid (hv.later bn)
  have HM := Lib.hid (rsmay9_any V0.out hs (Lib.hid h))
  have HO := Lib.hid (rone_any u st id a b c hu hst (Lib.hid ho))
  have HF1 := Lib.hid (sePl_none hf)
  have HRI := Lib.hid (seMay_rise h).2.1
  have HPL : Hid (placeO seLt l (keyS u id) = i) := Lib.hid hpl
  have t32 : decide (32 ≤ (l.length : Int)) = false := by rw [decide_eq_false_iff_not]; omega
  obtain ⟨bk, off, ebk, hcaps⟩ : ∃ b off, ∃ cap, v = .slice (some ⟨b, off, none⟩) l.length cap ∧ l.length ≤ cap ∧ cap ≤ maxLen := by
    obtain ⟨a, cap, e, h1, h2, _, h4⟩ := hv
    rcases h4 with h4 | ⟨b, off, e2, _⟩
    · rw [h4] at hi; simp at hi
    · exact ⟨b, off, cap, by rw [e, e2], h1, h2⟩
  obtain ⟨rfl, hc1, hc2⟩ := hcaps
  unfold maxLen at hc2
  clear hv bn h ho hs hf hpl
  go_enter Tryz.func50, Tryz.ntmps50
  go_wp2_with fail
  refine HM.out.mono ?_
  rintro e w1 ⟨rfl, b1⟩
  have B1 := Lib.hid (below2Z B0.out b1)
  have V1 := Lib.hid (V0.out.later b1)
  have C1 := Lib.hid (C0.out.later b1)
  clear b1
  obtain ⟨c0, c1, c2, c3, c4, c5⟩ := sixS_of C1.out
  go_wp2_with fail
  refine (HO.out _).mono ?_
  rintro e w2 ⟨rfl, b2⟩
  have B2 := Lib.hid (below2Z B1.out b2)
  have V2 := Lib.hid (V1.out.later b2)
  have C2 := Lib.hid (C1.out.later b2)
  clear b2 c0 c1 c2 c3 c4 c5 B0 V0 C0 B1 V1 C1
  obtain ⟨c0, c1, c2, c3, c4, c5⟩ := sixS_of C2.out
  have HF := Lib.hid (rplace_any V2.out u id HF1)
  go_wp2_with fail
  refine HF.out.mono ?_
  rintro e w4 ⟨rfl, b4⟩
  have B4 := Lib.hid (below2Z B2.out b4)
  have V4 := Lib.hid (V2.out.later b4)
  have C4 := Lib.hid (C2.out.later b4)
  clear b4 B2 V2 C2 HF c0 c1 c2 c3 c4 c5
  go_wp2_with fail
  go_loopw [8] (fun i wr => ∃ k : Nat, k ≤ l.length ∧ i = .int .i64 k ∧ Hid (Below w4.heap.size w4 wr) ∧ Hid (CellsAt wr w.heap.size 0 (sesVals ⟨u, id, ⟨a, b, c, st⟩⟩)) ∧ Hid (∀ j, j < k → seLt (l.getD j Ses.zero) (keyS u id) = true)) (fun i _ => l.length - (intOf i).toNat)
  case atStart => exact ⟨0, by omega, rfl, Below.refl _ _, C4, by show ∀ _, _; intro j hj; omega⟩
  case round =>
    obtain ⟨k, hk, rfl, HBT, HC, HN⟩ := hrel
    have HB := Lib.hid (below2Z B4.out HBT.out)
    by_cases hlt : k < l.length
    · obtain ⟨bk', off', ebk', hc⟩ := V4.out.row HBT.out k hlt
      injection ebk' with ebk'
      injection ebk' with e3 e4 _
      subst e3 e4
      obtain ⟨⟨eu, ei, ⟨ea, eb, ec, es⟩⟩, hr⟩ : ∃ r, l.getD k Ses.zero = r := ⟨_, rfl⟩
      rw [hr] at hc
      obtain ⟨q0, q1, q2, q3, q4, q5⟩ := cells6_regrown hc
      obtain ⟨y0, y1, y2, y3, y4, y5⟩ := cells6_regrown HC.out
      simp only [Nat.zero_add] at y0 y1 y2 y3 y4 y5
      try simp only at q0 q1 q2 q3 q4 q5
      obtain ⟨q, hq⟩ : ∃ q, seLt ⟨eu, ei, ⟨ea, eb, ec, es⟩⟩ ⟨u, id, ⟨a, b, c, st⟩⟩ = q := ⟨_, rfl⟩
      have HA := Lib.hid (rahead_any eu es u st ei ea eb ec id a b c (r := q) (Lib.hid hq))
      have HQ : Hid (seLt (l.getD k Ses.zero) (keyS u id) = q) := by show _ = _; rw [hr]; exact hq
      have t0 : decide ((k : Int) < (l.length : Int)) = true := by rw [decide_eq_true_eq]; omega
      have t1 : (0 : Int) ≤ (k : Int) := by omega
      have t2 : (k : Int) < (l.length : Int) := by omega
      clear hr hq hc
      go_wp2_with fail
      refine wp_region_quiet_below (by kernel_rfl) (by kernel_rfl) ?_
      repeat (go_big_quiet_step (with_reducible exact rgB HA.out _ _ _))
      refine wpQuiet_nil ?_
      intro w5 hw5
      have b5 := regrownZ hw5
      have B5T := Lib.hid (below2Z HBT.out b5)
      have B5 := Lib.hid (below2Z B4.out B5T.out)
      have HC5 := Lib.hid (HC.out.later b5)
      clear hw5 b5 q0 q1 q2 q3 q4 q5 y0 y1 y2 y3 y4 y5 HBT HB HC
      cases q with
      | true =>
        have HN2 : Hid (∀ j, j < k + 1 → seLt (l.getD j Ses.zero) (keyS u id) = true) := by
          show ∀ _, _
          intro j hj
          by_cases e : j = k
          · rw [e]; exact HQ.out
          · exact HN.out j (by omega)
        clear HQ
        go_wp2_with fail
        go_roundw
        case rel => exact ⟨k + 1, by omega, by go_num, B5T, HC5, HN2⟩
        case measure => simp [intOf]; omega
      | false =>
        have HR := place_on HRI.out HN.out hlt HQ.out
        rw [HPL.out] at HR
        subst HR
        have b5 := bl_newZ w5 (.cells #[] 83)
        have V5 := Lib.hid (V4.out.later (B5T.out.trans (b5.mono B5T.out.size)))
        have HS5 := Lib.hid (srcS_take sesOK.len (V5.out.src sesOK) i)
        have HT := Lib.hid ((V4.out.later B5T.out).tail (by decide) i (by omega))
        obtain ⟨ad, had⟩ : ∃ ad, (if ebk = i then (⟨bk, off, none⟩ : Addr) else (⟨bk, off, none⟩ : Addr).add (i * 6)) = ad := ⟨_, rfl⟩
        have hsl := fun w => run_slice_from_S sesOK w ⟨bk, off, none⟩ l.length ebk i ((i : Nat) : Int) rfl (by omega)
        rw [had] at hsl HT
        have hkn : i ≤ l.length := by omega
        have hke : i ≤ ebk := by omega
        have hnn : (0 : Int) ≤ ((i : Nat) : Int) := by omega
        clear had
        go_wp2_with (at_builtin; refine wpList_append_S sesOK rfl _ _ rfl w5.heap.size _ [] rfl (by exact ownS_made w5) (some ⟨bk, off, none⟩) i ebk (l.take i) rfl (by rw [List.length_take]; omega) (fun e => nomatch e) (fun ad had => by obtain rfl := Option.some.inj had; exact HS5.out) (by rw [List.length_take]; simp only [List.length_nil]; omega) (by simp) ?_)
        intro x6 w6 ho6 b6
        have O6 : Hid (OwnSes w6 w5.heap.size x6 (l.take i)) := Lib.hid ho6
        have B56 := Lib.hid (b5.trans b6)
        have C6 := Lib.hid (HC5.out.later B56.out)
        have z6 := B56.out.size
        obtain ⟨c0, c1, c2, c3, c4, c5⟩ := sixS_of C6.out
        have b7 := bl_newZ w6 (.cells #[.string ⟨u.toArray⟩, .int .i64 id, .int .i64 a, .int .i64 b, .int .i64 c, .string ⟨st.toArray⟩] 83)
        have O7 := Lib.hid (O6.out.alloc (.cells #[.string ⟨u.toArray⟩, .int .i64 id, .int .i64 a, .int .i64 b, .int .i64 c, .string ⟨st.toArray⟩] 83))
        have HS7 := Lib.hid (srcS_new (vals := sesVals) (w := w6) (r := ⟨u, id, ⟨a, b, c, st⟩⟩) (cs := #[.string ⟨u.toArray⟩, .int .i64 id, .int .i64 a, .int .i64 b, .int .i64 c, .string ⟨st.toArray⟩]) (e := 83) rfl (B := w6.heap.size) rfl)
        clear ho6 b6 b5 HS5
        go_wp2_with (at_builtin; refine wpList_append_S sesOK rfl _ _ rfl w5.heap.size _ (l.take i) rfl (by exact O7.out) (some ⟨w6.heap.size, 0, none⟩) 1 1 [⟨u, id, ⟨a, b, c, st⟩⟩] rfl rfl (fun e => nomatch e) HS7.out (by rw [List.length_take]; simp only [List.length_cons, List.length_nil]; omega) (by simp; omega) ?_)
        intro x8 w8 ho8 b8
        have O8 := Lib.hid ho8
        have B8 := Lib.hid ((b7.mono z6).trans b8)
        have T8 := Lib.hid (HT.out.later (B56.out.trans ((b7.mono z6).trans b8)))
        have hS8 := T8.out.src sesOK
        have z8 : w5.heap.size ≤ w8.heap.size := Nat.le_trans z6 B8.out.size
        clear ho8 b8 b7 O6 O7 HS7 C6 c0 c1 c2 c3 c4 c5
        go_wp2_with (at_builtin; refine wpList_append_S sesOK rfl _ _ rfl w5.heap.size _ (l.take i ++ [⟨u, id, ⟨a, b, c, st⟩⟩]) rfl (by exact O8.out) (some ad) (l.length - i) (ebk - i) (l.drop i) rfl (by rw [List.length_drop]) (fun e => nomatch e) (fun ad' had' => by obtain rfl := Option.some.inj had'; exact hS8) (by rw [List.length_append, List.length_take, List.length_drop]; simp only [List.length_cons, List.length_nil]; omega) z8 ?_)
        intro x9 w9 ho9 b9
        have O9 : Hid (OwnSes w9 w5.heap.size x9 (putS l i ⟨u, id, ⟨a, b, c, st⟩⟩)) := Lib.hid ho9
        have B9 := Lib.hid (below2Z B5.out (B56.out.trans (B8.out.trans b9)))
        clear ho9 b9 O8 B56 B8 HT T8 hS8
        go_wp2_with fail
        go_ret2
        exact ⟨_, rfl, ownS_low O9.out B5.out.size, B9.out⟩
    · have hkl : k = l.length := by omega
      have HR := place_end HRI.out (fun j hj => HN.out j (by omega))
      rw [HPL.out] at HR
      have t0 : decide ((k : Int) < (l.length : Int)) = false := by rw [decide_eq_false_iff_not]; omega
      have t0' : decide (k < l.length) = false := by rw [decide_eq_false_iff_not]; omega
      have HIK : i = k := by omega
      subst HIK
      clear hkl HR hlt HPL HN
      go_wp2_with fail
      refine wp_region_quiet_below (by kernel_rfl) (by kernel_rfl) ?_
      repeat (go_big_quiet_step (fail))
      refine wpQuiet_nil ?_
      intro w5 hw5
      have b5 := regrownZ hw5
      have B5T := Lib.hid (below2Z HBT.out b5)
      have B5 := Lib.hid (below2Z B4.out B5T.out)
      have HC5 := Lib.hid (HC.out.later b5)
      clear hw5 b5 HBT HB HC
      have b5 := bl_newZ w5 (.cells #[] 83)
      have V5 := Lib.hid (V4.out.later (B5T.out.trans (b5.mono B5T.out.size)))
      have HS5 := Lib.hid (srcS_take sesOK.len (V5.out.src sesOK) i)
      have HT := Lib.hid ((V4.out.later B5T.out).tail (by decide) i (by omega))
      obtain ⟨ad, had⟩ : ∃ ad, (if ebk = i then (⟨bk, off, none⟩ : Addr) else (⟨bk, off, none⟩ : Addr).add (i * 6)) = ad := ⟨_, rfl⟩
      have hsl := fun w => run_slice_from_S sesOK w ⟨bk, off, none⟩ l.length ebk i ((i : Nat) : Int) rfl (by omega)
      rw [had] at hsl HT
      have hkn : i ≤ l.length := by omega
      have hke : i ≤ ebk := by omega
      have hnn : (0 : Int) ≤ ((i : Nat) : Int) := by omega
      clear had
      go_wp2_with (at_builtin; refine wpList_append_S sesOK rfl _ _ rfl w5.heap.size _ [] rfl (by exact ownS_made w5) (some ⟨bk, off, none⟩) i ebk (l.take i) rfl (by rw [List.length_take]; omega) (fun e => nomatch e) (fun ad had => by obtain rfl := Option.some.inj had; exact HS5.out) (by rw [List.length_take]; simp only [List.length_nil]; omega) (by simp) ?_)
      intro x6 w6 ho6 b6
      have O6 : Hid (OwnSes w6 w5.heap.size x6 (l.take i)) := Lib.hid ho6
      have B56 := Lib.hid (b5.trans b6)
      have C6 := Lib.hid (HC5.out.later B56.out)
      have z6 := B56.out.size
      obtain ⟨c0, c1, c2, c3, c4, c5⟩ := sixS_of C6.out
      have b7 := bl_newZ w6 (.cells #[.string ⟨u.toArray⟩, .int .i64 id, .int .i64 a, .int .i64 b, .int .i64 c, .string ⟨st.toArray⟩] 83)
      have O7 := Lib.hid (O6.out.alloc (.cells #[.string ⟨u.toArray⟩, .int .i64 id, .int .i64 a, .int .i64 b, .int .i64 c, .string ⟨st.toArray⟩] 83))
      have HS7 := Lib.hid (srcS_new (vals := sesVals) (w := w6) (r := ⟨u, id, ⟨a, b, c, st⟩⟩) (cs := #[.string ⟨u.toArray⟩, .int .i64 id, .int .i64 a, .int .i64 b, .int .i64 c, .string ⟨st.toArray⟩]) (e := 83) rfl (B := w6.heap.size) rfl)
      clear ho6 b6 b5 HS5
      go_wp2_with (at_builtin; refine wpList_append_S sesOK rfl _ _ rfl w5.heap.size _ (l.take i) rfl (by exact O7.out) (some ⟨w6.heap.size, 0, none⟩) 1 1 [⟨u, id, ⟨a, b, c, st⟩⟩] rfl rfl (fun e => nomatch e) HS7.out (by rw [List.length_take]; simp only [List.length_cons, List.length_nil]; omega) (by simp; omega) ?_)
      intro x8 w8 ho8 b8
      have O8 := Lib.hid ho8
      have B8 := Lib.hid ((b7.mono z6).trans b8)
      have T8 := Lib.hid (HT.out.later (B56.out.trans ((b7.mono z6).trans b8)))
      have hS8 := T8.out.src sesOK
      have z8 : w5.heap.size ≤ w8.heap.size := Nat.le_trans z6 B8.out.size
      clear ho8 b8 b7 O6 O7 HS7 C6 c0 c1 c2 c3 c4 c5
      go_wp2_with (at_builtin; refine wpList_append_S sesOK rfl _ _ rfl w5.heap.size _ (l.take i ++ [⟨u, id, ⟨a, b, c, st⟩⟩]) rfl (by exact O8.out) (some ad) (l.length - i) (ebk - i) (l.drop i) rfl (by rw [List.length_drop]) (fun e => nomatch e) (fun ad' had' => by obtain rfl := Option.some.inj had'; exact hS8) (by rw [List.length_append, List.length_take, List.length_drop]; simp only [List.length_cons, List.length_nil]; omega) z8 ?_)
      intro x9 w9 ho9 b9
      have O9 : Hid (OwnSes w9 w5.heap.size x9 (putS l i ⟨u, id, ⟨a, b, c, st⟩⟩)) := Lib.hid ho9
      have B9 := Lib.hid (below2Z B5.out (B56.out.trans (B8.out.trans b9)))
      clear ho9 b9 O8 B56 B8 HT T8 hS8
      go_wp2_with fail
      go_ret2
      exact ⟨_, rfl, ownS_low O9.out B5.out.size, B9.out⟩

set_option maxHeartbeats 3200000 in
set_option maxRecDepth 100000 in
theorem rsput_f {w : World} {v : Value} {l : List Ses} (hv : Sess w v l) (hs : ShortS l) (u st : List UInt8) (id a b c : Int) (hu : u.length ≤ 4294967296) (hst : st.length ≤ 4294967296) (h : seMay l = true) (ho : seOne ⟨u, id, ⟨a, b, c, st⟩⟩ = true) (hf : findO seIs l (keyS u id) = none) (hi : l = []) :
    Calls Tryz.prog 50 #[v, .agg #[.string ⟨u.toArray⟩, .int .i64 id, .int .i64 a, .int .i64 b, .int .i64 c, .string ⟨st.toArray⟩]] w fun e w' => ∃ x, e = .returned (.tuple #[x, .int .i64 0]) ∧ OwnSes w' w.heap.size x [⟨u, id, ⟨a, b, c, st⟩⟩] ∧ Below w.heap.size w w' := by
  have bn := bl_newZ w (.cells #[.string ⟨u.toArray⟩, .int .i64 id, .int .i64 a, .int .i64 b, .int .i64 c, .string ⟨st.toArray⟩] 83)
  have B0 := Lib.hid bn
  have C0 := Lib.hid (cellsAt_made (w := w) (cs := #[.string ⟨u.toArray⟩, .int .i64 id, .int .i64 a, .int .i64 b, .int .i64 c, .string ⟨st.toArray⟩]) (vs := sesVals ⟨u, id, ⟨a, b, c, st⟩⟩) rfl 83 rfl)
  have V0 := Lib.hid (hv.later bn)
  have HM := Lib.hid (rsmay9_any V0.out hs (Lib.hid h))
  have HO := Lib.hid (rone_any u st id a b c hu hst (Lib.hid ho))
  have HF1 := Lib.hid (sePl_none hf)
  subst hi
  obtain ⟨ao, cap, rfl, _, hcm, hn0, _⟩ := hv
  unfold maxLen at hcm
  simp only [List.length_nil] at HM V0 ⊢
  clear bn h ho hs hf
  rcases ao with _ | ad
  · obtain rfl := hn0 rfl
    clear hn0
    have t0 : decide ((0 : Int) < 0) = false := rfl
    go_enter Tryz.func50, Tryz.ntmps50
    go_wp2_with fail
    refine HM.out.mono ?_
    rintro e w1 ⟨rfl, b1⟩
    have B1 := Lib.hid (below2Z B0.out b1)
    have V1 := Lib.hid (V0.out.later b1)
    have C1 := Lib.hid (C0.out.later b1)
    clear b1
    obtain ⟨c0, c1, c2, c3, c4, c5⟩ := sixS_of C1.out
    go_wp2_with fail
    refine (HO.out _).mono ?_
    rintro e w2 ⟨rfl, b2⟩
    have B2 := Lib.hid (below2Z B1.out b2)
    have V2 := Lib.hid (V1.out.later b2)
    have C2 := Lib.hid (C1.out.later b2)
    clear b2 c0 c1 c2 c3 c4 c5 B0 V0 C0 B1 V1 C1
    obtain ⟨c0, c1, c2, c3, c4, c5⟩ := sixS_of C2.out
    have HF := Lib.hid (rplace_any V2.out u id HF1)
    go_wp2_with fail
    refine HF.out.mono ?_
    rintro e w4 ⟨rfl, b4⟩
    have B4 := Lib.hid (below2Z B2.out b4)
    have V4 := Lib.hid (V2.out.later b4)
    have C4 := Lib.hid (C2.out.later b4)
    clear b4 B2 V2 C2 HF c0 c1 c2 c3 c4 c5
    go_wp2_with fail
    go_loopw [8] (fun i wr => i = .int .i64 0 ∧ Hid (Below w.heap.size w wr) ∧ Hid (CellsAt wr w.heap.size 0 (sesVals ⟨u, id, ⟨a, b, c, st⟩⟩))) (fun _ _ => 0)
    case atStart => exact ⟨rfl, B4, C4⟩
    case round =>
      obtain ⟨rfl, HB, HC⟩ := hrel
      go_wp2_with fail
      refine wp_region_quiet_below (by kernel_rfl) (by kernel_rfl) ?_
      repeat (go_big_quiet_step (fail))
      refine wpQuiet_nil ?_
      intro w5 hw5
      have b5 := regrownZ hw5
      have B5 := Lib.hid (below2Z HB.out b5)
      have HC5 := Lib.hid (HC.out.later b5)
      clear hw5 b5 HB HC
      have b5 := bl_newZ w5 (.cells #[] 83)
      go_wp2_with (at_builtin; refine wpList_append_S sesOK rfl _ _ rfl w5.heap.size _ [] rfl (by exact ownS_made w5) none 0 0 [] rfl rfl (fun _ => ⟨rfl, rfl⟩) (fun ad had => nomatch had) (by simp) (by simp) ?_)
      intro x6 w6 ho6 b6
      have O6 : Hid (OwnSes w6 w5.heap.size x6 []) := Lib.hid ho6
      have B56 := Lib.hid (b5.trans b6)
      have C6 := Lib.hid (HC5.out.later B56.out)
      have z6 := B56.out.size
      obtain ⟨c0, c1, c2, c3, c4, c5⟩ := sixS_of C6.out
      have b7 := bl_newZ w6 (.cells #[.string ⟨u.toArray⟩, .int .i64 id, .int .i64 a, .int .i64 b, .int .i64 c, .string ⟨st.toArray⟩] 83)
      have O7 := Lib.hid (O6.out.alloc (.cells #[.string ⟨u.toArray⟩, .int .i64 id, .int .i64 a, .int .i64 b, .int .i64 c, .string ⟨st.toArray⟩] 83))
      have HS7 := Lib.hid (srcS_new (vals := sesVals) (w := w6) (r := ⟨u, id, ⟨a, b, c, st⟩⟩) (cs := #[.string ⟨u.toArray⟩, .int .i64 id, .int .i64 a, .int .i64 b, .int .i64 c, .string ⟨st.toArray⟩]) (e := 83) rfl (B := w6.heap.size) rfl)
      clear ho6 b6 b5
      go_wp2_with (at_builtin; refine wpList_append_S sesOK rfl _ _ rfl w5.heap.size _ [] rfl (by exact O7.out) (some ⟨w6.heap.size, 0, none⟩) 1 1 [⟨u, id, ⟨a, b, c, st⟩⟩] rfl rfl (fun e => nomatch e) HS7.out (by simp) (by simp; omega) ?_)
      intro x8 w8 ho8 b8
      have O8 : Hid (OwnSes w8 w5.heap.size x8 [⟨u, id, ⟨a, b, c, st⟩⟩]) := Lib.hid ho8
      have B8 := Lib.hid ((b7.mono z6).trans b8)
      have z8 : w5.heap.size ≤ w8.heap.size := Nat.le_trans z6 B8.out.size
      clear ho8 b8 b7 O6 O7 HS7 C6 c0 c1 c2 c3 c4 c5
      go_wp2_with (at_builtin; refine wpList_append_S sesOK rfl _ _ rfl w5.heap.size _ [⟨u, id, ⟨a, b, c, st⟩⟩] rfl (by exact O8.out) none 0 0 [] rfl rfl (fun _ => ⟨rfl, rfl⟩) (fun ad had => nomatch had) (by simp) z8 ?_)
      intro x9 w9 ho9 b9
      have O9 : Hid (OwnSes w9 w5.heap.size x9 [⟨u, id, ⟨a, b, c, st⟩⟩]) := Lib.hid ho9
      have B9 := Lib.hid (below2Z B5.out (B56.out.trans (B8.out.trans b9)))
      clear ho9 b9 O8 B56 B8
      go_wp2_with fail
      go_ret2
      exact ⟨_, rfl, ownS_low O9.out B5.out.size, B9.out⟩
  · clear hn0
    have hsl := fun w => run_slice_from_S sesOK w ad 0 cap 0 ((0 : Nat) : Int) rfl (Nat.le_refl _)
    obtain ⟨ad2, had⟩ : ∃ ad2, (if cap = 0 then ad else ad.add (0 * 6)) = ad2 := ⟨_, rfl⟩
    rw [had] at hsl
    simp only [Int.ofNat_zero, Nat.sub_zero] at hsl
    clear had
    have t0 : decide ((0 : Int) < 0) = false := rfl
    go_enter Tryz.func50, Tryz.ntmps50
    go_wp2_with fail
    refine HM.out.mono ?_
    rintro e w1 ⟨rfl, b1⟩
    have B1 := Lib.hid (below2Z B0.out b1)
    have V1 := Lib.hid (V0.out.later b1)
    have C1 := Lib.hid (C0.out.later b1)
    clear b1
    obtain ⟨c0, c1, c2, c3, c4, c5⟩ := sixS_of C1.out
    go_wp2_with fail
    refine (HO.out _).mono ?_
    rintro e w2 ⟨rfl, b2⟩
    have B2 := Lib.hid (below2Z B1.out b2)
    have V2 := Lib.hid (V1.out.later b2)
    have C2 := Lib.hid (C1.out.later b2)
    clear b2 c0 c1 c2 c3 c4 c5 B0 V0 C0 B1 V1 C1
    obtain ⟨c0, c1, c2, c3, c4, c5⟩ := sixS_of C2.out
    have HF := Lib.hid (rplace_any V2.out u id HF1)
    go_wp2_with fail
    refine HF.out.mono ?_
    rintro e w4 ⟨rfl, b4⟩
    have B4 := Lib.hid (below2Z B2.out b4)
    have V4 := Lib.hid (V2.out.later b4)
    have C4 := Lib.hid (C2.out.later b4)
    clear b4 B2 V2 C2 HF c0 c1 c2 c3 c4 c5
    go_wp2_with fail
    go_loopw [8] (fun i wr => i = .int .i64 0 ∧ Hid (Below w.heap.size w wr) ∧ Hid (CellsAt wr w.heap.size 0 (sesVals ⟨u, id, ⟨a, b, c, st⟩⟩))) (fun _ _ => 0)
    case atStart => exact ⟨rfl, B4, C4⟩
    case round =>
      obtain ⟨rfl, HB, HC⟩ := hrel
      go_wp2_with fail
      refine wp_region_quiet_below (by kernel_rfl) (by kernel_rfl) ?_
      repeat (go_big_quiet_step (fail))
      refine wpQuiet_nil ?_
      intro w5 hw5
      have b5 := regrownZ hw5
      have B5 := Lib.hid (below2Z HB.out b5)
      have HC5 := Lib.hid (HC.out.later b5)
      clear hw5 b5 HB HC
      have b5 := bl_newZ w5 (.cells #[] 83)
      go_wp2_with (at_builtin; refine wpList_append_S sesOK rfl _ _ rfl w5.heap.size _ [] rfl (by exact ownS_made w5) (some ad) 0 cap [] rfl rfl (fun e => nomatch e) (fun _ _ j x hx => by simp [cellsS] at hx) (by simp) (by simp) ?_)
      intro x6 w6 ho6 b6
      have O6 : Hid (OwnSes w6 w5.heap.size x6 []) := Lib.hid ho6
      have B56 := Lib.hid (b5.trans b6)
      have C6 := Lib.hid (HC5.out.later B56.out)
      have z6 := B56.out.size
      obtain ⟨c0, c1, c2, c3, c4, c5⟩ := sixS_of C6.out
      have b7 := bl_newZ w6 (.cells #[.string ⟨u.toArray⟩, .int .i64 id, .int .i64 a, .int .i64 b, .int .i64 c, .string ⟨st.toArray⟩] 83)
      have O7 := Lib.hid (O6.out.alloc (.cells #[.string ⟨u.toArray⟩, .int .i64 id, .int .i64 a, .int .i64 b, .int .i64 c, .string ⟨st.toArray⟩] 83))
      have HS7 := Lib.hid (srcS_new (vals := sesVals) (w := w6) (r := ⟨u, id, ⟨a, b, c, st⟩⟩) (cs := #[.string ⟨u.toArray⟩, .int .i64 id, .int .i64 a, .int .i64 b, .int .i64 c, .string ⟨st.toArray⟩]) (e := 83) rfl (B := w6.heap.size) rfl)
      clear ho6 b6 b5
      go_wp2_with (at_builtin; refine wpList_append_S sesOK rfl _ _ rfl w5.heap.size _ [] rfl (by exact O7.out) (some ⟨w6.heap.size, 0, none⟩) 1 1 [⟨u, id, ⟨a, b, c, st⟩⟩] rfl rfl (fun e => nomatch e) HS7.out (by simp) (by simp; omega) ?_)
      intro x8 w8 ho8 b8
      have O8 : Hid (OwnSes w8 w5.heap.size x8 [⟨u, id, ⟨a, b, c, st⟩⟩]) := Lib.hid ho8
      have B8 := Lib.hid ((b7.mono z6).trans b8)
      have z8 : w5.heap.size ≤ w8.heap.size := Nat.le_trans z6 B8.out.size
      clear ho8 b8 b7 O6 O7 HS7 C6 c0 c1 c2 c3 c4 c5
      go_wp2_with (at_builtin; refine wpList_append_S sesOK rfl _ _ rfl w5.heap.size _ [⟨u, id, ⟨a, b, c, st⟩⟩] rfl (by exact O8.out) (some ad2) 0 cap [] rfl rfl (fun e => nomatch e) (fun _ _ j x hx => by simp [cellsS] at hx) (by simp) z8 ?_)
      intro x9 w9 ho9 b9
      have O9 : Hid (OwnSes w9 w5.heap.size x9 [⟨u, id, ⟨a, b, c, st⟩⟩]) := Lib.hid ho9
      have B9 := Lib.hid (below2Z B5.out (B56.out.trans (B8.out.trans b9)))
      clear ho9 b9 O8 B56 B8
      go_wp2_with fail
      go_ret2
      exact ⟨_, rfl, ownS_low O9.out B5.out.size, B9.out⟩

theorem rsput_any {w : World} {v : Value} {l : List Ses} (hv : Sess w v l) (hs : ShortS l) (s : Ses) (hu : s.u.length ≤ 4294967296) (hst : s.v.st.length ≤ 4294967296) {m : List Ses} {n : Nat} (h : Hid (sePut l s = (m, n))) :
    Calls Tryz.prog 50 #[v, sesAgg s] w fun e w' => ∃ x, e = .returned (.tuple #[x, .int .i64 n]) ∧ Sess w' x m ∧ Below w.heap.size w w' := by
  obtain ⟨u, id, ⟨a, b, c, st⟩⟩ := s
  have h := h.out
  cases hm : seMay l with
  | false =>
    rw [sePut_arg (.inl hm)] at h
    simp only [Prod.mk.injEq] at h
    obtain ⟨rfl, rfl⟩ := h
    exact (rsput_a hv hs u st id a b c hu hst hm).mono (fun e w' ⟨h1, h2⟩ => ⟨v, h1, hv.later h2, h2⟩)
  | true =>
    cases ho : seOne ⟨u, id, ⟨a, b, c, st⟩⟩ with
    | false =>
      rw [sePut_arg (.inr ho)] at h
      simp only [Prod.mk.injEq] at h
      obtain ⟨rfl, rfl⟩ := h
      exact (rsput_b hv hs u st id a b c hu hst hm ho).mono (fun e w' ⟨h1, h2⟩ => ⟨v, h1, hv.later h2, h2⟩)
    | true =>
      cases hf : findO seIs l ⟨u, id, ⟨a, b, c, st⟩⟩ with
      | some i =>
        rw [sePut_set hm ho hf] at h
        simp only [Prod.mk.injEq] at h
        obtain ⟨rfl, rfl⟩ := h
        exact (rsput_c hv hs u st id a b c hu hst hm ho hf).mono (fun e w' ⟨x, h1, h2, h3⟩ => ⟨x, h1, h2.rd sesOK, h3⟩)
      | none =>
        by_cases h32 : l.length < 32
        · rw [sePut_new hm ho hf h32] at h
          simp only [Prod.mk.injEq] at h
          obtain ⟨rfl, rfl⟩ := h
          by_cases h0 : l = []
          · have h1 := rsput_f hv hs u st id a b c hu hst hm ho hf h0
            subst h0
            exact h1.mono (fun e w' ⟨x, h1, h2, h3⟩ => ⟨x, h1, h2.rd sesOK, h3⟩)
          · exact (rsput_e hv hs u st id a b c hu hst hm ho hf h32 rfl (List.length_pos_iff.2 h0)).mono (fun e w' ⟨x, h1, h2, h3⟩ => ⟨x, h1, h2.rd sesOK, h3⟩)
        · rw [sePut_full hm ho hf h32] at h
          simp only [Prod.mk.injEq] at h
          obtain ⟨rfl, rfl⟩ := h
          exact (rsput_d hv hs u st id a b c hu hst hm ho hf h32).mono (fun e w' ⟨h1, h2⟩ => ⟨v, h1, hv.later h2, h2⟩)

end Go.Proofs.YtdilcckoapaimaaGreat

end

section

/-
  LAYER 14: Apply of the document.
-/
namespace Go.Proofs.YtdilcckoapaimaaGreat
open Go.RowKit

set_option maxHeartbeats 3200000 in
set_option maxRecDepth 100000 in
theorem rstdo_a {w : World} {ax ay : Option Addr} {nx cx ny cy : Nat} {t : Sta} (h : StAt w (.slice ax nx cx) (.slice ay ny cy) t) (he : ShortE t.e) (hl : t.e.length ≤ 900) (hs : ShortS t.s) (u o st : List UInt8) (id a b c : Int) (hu : u.length ≤ 4294967296) (ho : o.length ≤ 4294967296) (hst : st.length ≤ 4294967296) (k : Int) (hm : stMay t = false) :
    Calls Tryz.prog 16 #[.agg #[.slice ax nx cx, .slice ay ny cy], .agg #[.int .i64 k, .string ⟨u.toArray⟩, .string ⟨o.toArray⟩, .int .i64 id, .int .i64 a, .int .i64 b, .int .i64 c, .string ⟨st.toArray⟩]] w fun e w' => ∃ x' y', e = .returned (.tuple #[.agg #[x', y'], .int .i64 1]) ∧ StAt w' x' y' ⟨t.e, t.s⟩ ∧ Below w.heap.size w w' := by
  have HM := Lib.hid hm
  have b1 := bl_newZ w (.cells #[.slice ax nx cx, .slice ay ny cy] 25)
  have b2 := bl_newZ (w.alloc (.cells #[.slice ax nx cx, .slice ay ny cy] 25)) (.cells #[.int .i64 k, .string ⟨u.toArray⟩, .string ⟨o.toArray⟩, .int .i64 id, .int .i64 a, .int .i64 b, .int .i64 c, .string ⟨st.toArray⟩] 29)
  have b3 := bl_newZ ((w.alloc (.cells #[.slice ax nx cx, .slice ay ny cy] 25)).alloc (.cells #[.int .i64 k, .string ⟨u.toArray⟩, .string ⟨o.toArray⟩, .int .i64 id, .int .i64 a, .int .i64 b, .int .i64 c, .string ⟨st.toArray⟩] 29)) (.cells #[.slice none 0 0, .slice none 0 0] 25)
  have b123 := below2Z b1 (below2Z b2 b3)
  have HB := Lib.hid b123
  have H := Lib.hid (h.later b123)
  have FS := Lib.hid (upT (heap_newT w (.cells #[.slice ax nx cx, .slice ay ny cy] 25)) (below2Z b2 b3))
  have FE := Lib.hid ((cellsAt_made (w := w.alloc (.cells #[.slice ax nx cx, .slice ay ny cy] 25)) (cs := #[.int .i64 k, .string ⟨u.toArray⟩, .string ⟨o.toArray⟩, .int .i64 id, .int .i64 a, .int .i64 b, .int .i64 c, .string ⟨st.toArray⟩]) (vs := evVals ⟨k, u, o, id, ⟨a, b, c, st⟩⟩) rfl 29 (B := w.heap.size + 1) (by simp)).later b3)
  have FR : Hid ((((w.alloc (.cells #[.slice ax nx cx, .slice ay ny cy] 25)).alloc (.cells #[.int .i64 k, .string ⟨u.toArray⟩, .string ⟨o.toArray⟩, .int .i64 id, .int .i64 a, .int .i64 b, .int .i64 c, .string ⟨st.toArray⟩] 29)).alloc (.cells #[.slice none 0 0, .slice none 0 0] 25)).heap[w.heap.size + 1 + 1]? = some (.cells #[.slice none 0 0, .slice none 0 0] 25 (0, 0))) := by
    have hz := heap_newT ((w.alloc (.cells #[.slice ax nx cx, .slice ay ny cy] 25)).alloc (.cells #[.int .i64 k, .string ⟨u.toArray⟩, .string ⟨o.toArray⟩, .int .i64 id, .int .i64 a, .int .i64 b, .int .i64 c, .string ⟨st.toArray⟩] 29)) (.cells #[.slice none 0 0, .slice none 0 0] 25)
    simp only [World.size_alloc] at hz
    exact hz
  have HE := Lib.hid he
  have HS := Lib.hid hs
  obtain ⟨s0, s1, f0, f1⟩ := two_T FS.out
  obtain ⟨e0, e1, e2, e3, e4, e5, e6, e7⟩ := eightT FE.out
  clear b1 b2 b3 b123 h he hs
  clear hm
  go_enter Tryz.func16, Tryz.ntmps16
  go_wp2_with fail
  refine (rstmay_any H.out HE.out (by omega) HS.out HM).mono ?_
  rintro e w1 ⟨rfl, c1⟩
  replace HB := Lib.hid (below2Z HB.out c1)
  replace H := Lib.hid (H.out.later c1)
  replace FS := Lib.hid (upT FS.out c1)
  replace FE := Lib.hid (FE.out.later c1)
  replace FR := Lib.hid (upT FR.out c1)
  clear s0 s1 f0 f1 e0 e1 e2 e3 e4 e5 e6 e7 c1
  obtain ⟨s0, s1, f0, f1⟩ := two_T FS.out
  obtain ⟨e0, e1, e2, e3, e4, e5, e6, e7⟩ := eightT FE.out
  obtain ⟨r0, r1, g0, g1⟩ := two_T FR.out
  go_wp2_with fail
  obtain ⟨z1, z2, o0, o1⟩ := st_fin H.out HB.out (show w.heap.size ≤ w.heap.size + 1 + 1 by omega) FR.out allSl_nil
  refine bodyPost_ret (v := .tuple #[.agg #[.slice ax nx cx, .slice ay ny cy], .int .i64 1]) (by simp [results, Tryz.results16, go_sem, o0, o1]) rfl ⟨_, _, rfl, z1, z2⟩

set_option maxHeartbeats 3200000 in
set_option maxRecDepth 100000 in
theorem rstdo_b1 {w : World} {ax ay : Option Addr} {nx cx ny cy : Nat} {t : Sta} (h : StAt w (.slice ax nx cx) (.slice ay ny cy) t) (he : ShortE t.e) (hl : t.e.length ≤ 900) (hs : ShortS t.s) (u o st : List UInt8) (id a b c : Int) (hu : u.length ≤ 4294967296) (ho : o.length ≤ 4294967296) (hst : st.length ≤ 4294967296) (k : Int) (hm : stMay t = true) (hb : k < 1) :
    Calls Tryz.prog 16 #[.agg #[.slice ax nx cx, .slice ay ny cy], .agg #[.int .i64 k, .string ⟨u.toArray⟩, .string ⟨o.toArray⟩, .int .i64 id, .int .i64 a, .int .i64 b, .int .i64 c, .string ⟨st.toArray⟩]] w fun e w' => ∃ x' y', e = .returned (.tuple #[.agg #[x', y'], .int .i64 1]) ∧ StAt w' x' y' ⟨t.e, t.s⟩ ∧ Below w.heap.size w w' := by
  have HM := Lib.hid hm
  have t1 : decide (k < 1) = true := by rw [decide_eq_true_eq]; exact hb
  have b1 := bl_newZ w (.cells #[.slice ax nx cx, .slice ay ny cy] 25)
  have b2 := bl_newZ (w.alloc (.cells #[.slice ax nx cx, .slice ay ny cy] 25)) (.cells #[.int .i64 k, .string ⟨u.toArray⟩, .string ⟨o.toArray⟩, .int .i64 id, .int .i64 a, .int .i64 b, .int .i64 c, .string ⟨st.toArray⟩] 29)
  have b3 := bl_newZ ((w.alloc (.cells #[.slice ax nx cx, .slice ay ny cy] 25)).alloc (.cells #[.int .i64 k, .string ⟨u.toArray⟩, .string ⟨o.toArray⟩, .int .i64 id, .int .i64 a, .int .i64 b, .int .i64 c, .string ⟨st.toArray⟩] 29)) (.cells #[.slice none 0 0, .slice none 0 0] 25)
  have b123 := below2Z b1 (below2Z b2 b3)
  have HB := Lib.hid b123
  have H := Lib.hid (h.later b123)
  have FS := Lib.hid (upT (heap_newT w (.cells #[.slice ax nx cx, .slice ay ny cy] 25)) (below2Z b2 b3))
  have FE := Lib.hid ((cellsAt_made (w := w.alloc (.cells #[.slice ax nx cx, .slice ay ny cy] 25)) (cs := #[.int .i64 k, .string ⟨u.toArray⟩, .string ⟨o.toArray⟩, .int .i64 id, .int .i64 a, .int .i64 b, .int .i64 c, .string ⟨st.toArray⟩]) (vs := evVals ⟨k, u, o, id, ⟨a, b, c, st⟩⟩) rfl 29 (B := w.heap.size + 1) (by simp)).later b3)
  have FR : Hid ((((w.alloc (.cells #[.slice ax nx cx, .slice ay ny cy] 25)).alloc (.cells #[.int .i64 k, .string ⟨u.toArray⟩, .string ⟨o.toArray⟩, .int .i64 id, .int .i64 a, .int .i64 b, .int .i64 c, .string ⟨st.toArray⟩] 29)).alloc (.cells #[.slice none 0 0, .slice none 0 0] 25)).heap[w.heap.size + 1 + 1]? = some (.cells #[.slice none 0 0, .slice none 0 0] 25 (0, 0))) := by
    have hz := heap_newT ((w.alloc (.cells #[.slice ax nx cx, .slice ay ny cy] 25)).alloc (.cells #[.int .i64 k, .string ⟨u.toArray⟩, .string ⟨o.toArray⟩, .int .i64 id, .int .i64 a, .int .i64 b, .int .i64 c, .string ⟨st.toArray⟩] 29)) (.cells #[.slice none 0 0, .slice none 0 0] 25)
    simp only [World.size_alloc] at hz
    exact hz
  have HE := Lib.hid he
  have HS := Lib.hid hs
  obtain ⟨s0, s1, f0, f1⟩ := two_T FS.out
  obtain ⟨e0, e1, e2, e3, e4, e5, e6, e7⟩ := eightT FE.out
  clear b1 b2 b3 b123 h he hs
  clear hm hb
  go_enter Tryz.func16, Tryz.ntmps16
  go_wp2_with fail
  refine (rstmay_any H.out HE.out (by omega) HS.out HM).mono ?_
  rintro e w1 ⟨rfl, c1⟩
  replace HB := Lib.hid (below2Z HB.out c1)
  replace H := Lib.hid (H.out.later c1)
  replace FS := Lib.hid (upT FS.out c1)
  replace FE := Lib.hid (FE.out.later c1)
  replace FR := Lib.hid (upT FR.out c1)
  clear s0 s1 f0 f1 e0 e1 e2 e3 e4 e5 e6 e7 c1
  obtain ⟨s0, s1, f0, f1⟩ := two_T FS.out
  obtain ⟨e0, e1, e2, e3, e4, e5, e6, e7⟩ := eightT FE.out
  obtain ⟨r0, r1, g0, g1⟩ := two_T FR.out
  go_wp2_with fail
  obtain ⟨z1, z2, o0, o1⟩ := st_fin H.out HB.out (show w.heap.size ≤ w.heap.size + 1 + 1 by omega) FR.out allSl_nil
  refine bodyPost_ret (v := .tuple #[.agg #[.slice ax nx cx, .slice ay ny cy], .int .i64 1]) (by simp [results, Tryz.results16, go_sem, o0, o1]) rfl ⟨_, _, rfl, z1, z2⟩

set_option maxHeartbeats 3200000 in
set_option maxRecDepth 100000 in
theorem rstdo_b2 {w : World} {ax ay : Option Addr} {nx cx ny cy : Nat} {t : Sta} (h : StAt w (.slice ax nx cx) (.slice ay ny cy) t) (he : ShortE t.e) (hl : t.e.length ≤ 900) (hs : ShortS t.s) (u o st : List UInt8) (id a b c : Int) (hu : u.length ≤ 4294967296) (ho : o.length ≤ 4294967296) (hst : st.length ≤ 4294967296) (k : Int) (hm : stMay t = true) (hb : 8 < k) :
    Calls Tryz.prog 16 #[.agg #[.slice ax nx cx, .slice ay ny cy], .agg #[.int .i64 k, .string ⟨u.toArray⟩, .string ⟨o.toArray⟩, .int .i64 id, .int .i64 a, .int .i64 b, .int .i64 c, .string ⟨st.toArray⟩]] w fun e w' => ∃ x' y', e = .returned (.tuple #[.agg #[x', y'], .int .i64 1]) ∧ StAt w' x' y' ⟨t.e, t.s⟩ ∧ Below w.heap.size w w' := by
  have HM := Lib.hid hm
  have t1 : decide (k < 1) = false := by rw [decide_eq_false_iff_not]; omega
  have t2 : decide (8 < k) = true := by rw [decide_eq_true_eq]; exact hb
  have b1 := bl_newZ w (.cells #[.slice ax nx cx, .slice ay ny cy] 25)
  have b2 := bl_newZ (w.alloc (.cells #[.slice ax nx cx, .slice ay ny cy] 25)) (.cells #[.int .i64 k, .string ⟨u.toArray⟩, .string ⟨o.toArray⟩, .int .i64 id, .int .i64 a, .int .i64 b, .int .i64 c, .string ⟨st.toArray⟩] 29)
  have b3 := bl_newZ ((w.alloc (.cells #[.slice ax nx cx, .slice ay ny cy] 25)).alloc (.cells #[.int .i64 k, .string ⟨u.toArray⟩, .string ⟨o.toArray⟩, .int .i64 id, .int .i64 a, .int .i64 b, .int .i64 c, .string ⟨st.toArray⟩] 29)) (.cells #[.slice none 0 0, .slice none 0 0] 25)
  have b123 := below2Z b1 (below2Z b2 b3)
  have HB := Lib.hid b123
  have H := Lib.hid (h.later b123)
  have FS := Lib.hid (upT (heap_newT w (.cells #[.slice ax nx cx, .slice ay ny cy] 25)) (below2Z b2 b3))
  have FE := Lib.hid ((cellsAt_made (w := w.alloc (.cells #[.slice ax nx cx, .slice ay ny cy] 25)) (cs := #[.int .i64 k, .string ⟨u.toArray⟩, .string ⟨o.toArray⟩, .int .i64 id, .int .i64 a, .int .i64 b, .int .i64 c, .string ⟨st.toArray⟩]) (vs := evVals ⟨k, u, o, id, ⟨a, b, c, st⟩⟩) rfl 29 (B := w.heap.size + 1) (by simp)).later b3)
  have FR : Hid ((((w.alloc (.cells #[.slice ax nx cx, .slice ay ny cy] 25)).alloc (.cells #[.int .i64 k, .string ⟨u.toArray⟩, .string ⟨o.toArray⟩, .int .i64 id, .int .i64 a, .int .i64 b, .int .i64 c, .string ⟨st.toArray⟩] 29)).alloc (.cells #[.slice none 0 0, .slice none 0 0] 25)).heap[w.heap.size + 1 + 1]? = some (.cells #[.slice none 0 0, .slice none 0 0] 25 (0, 0))) := by
    have hz := heap_newT ((w.alloc (.cells #[.slice ax nx cx, .slice ay ny cy] 25)).alloc (.cells #[.int .i64 k, .string ⟨u.toArray⟩, .string ⟨o.toArray⟩, .int .i64 id, .int .i64 a, .int .i64 b, .int .i64 c, .string ⟨st.toArray⟩] 29)) (.cells #[.slice none 0 0, .slice none 0 0] 25)
    simp only [World.size_alloc] at hz
    exact hz
  have HE := Lib.hid he
  have HS := Lib.hid hs
  obtain ⟨s0, s1, f0, f1⟩ := two_T FS.out
  obtain ⟨e0, e1, e2, e3, e4, e5, e6, e7⟩ := eightT FE.out
  clear b1 b2 b3 b123 h he hs
  clear hm hb
  go_enter Tryz.func16, Tryz.ntmps16
  go_wp2_with fail
  refine (rstmay_any H.out HE.out (by omega) HS.out HM).mono ?_
  rintro e w1 ⟨rfl, c1⟩
  replace HB := Lib.hid (below2Z HB.out c1)
  replace H := Lib.hid (H.out.later c1)
  replace FS := Lib.hid (upT FS.out c1)
  replace FE := Lib.hid (FE.out.later c1)
  replace FR := Lib.hid (upT FR.out c1)
  clear s0 s1 f0 f1 e0 e1 e2 e3 e4 e5 e6 e7 c1
  obtain ⟨s0, s1, f0, f1⟩ := two_T FS.out
  obtain ⟨e0, e1, e2, e3, e4, e5, e6, e7⟩ := eightT FE.out
  obtain ⟨r0, r1, g0, g1⟩ := two_T FR.out
  go_wp2_with fail
  obtain ⟨z1, z2, o0, o1⟩ := st_fin H.out HB.out (show w.heap.size ≤ w.heap.size + 1 + 1 by omega) FR.out allSl_nil
  refine bodyPost_ret (v := .tuple #[.agg #[.slice ax nx cx, .slice ay ny cy], .int .i64 1]) (by simp [results, Tryz.results16, go_sem, o0, o1]) rfl ⟨_, _, rfl, z1, z2⟩

set_option maxHeartbeats 3200000 in
set_option maxRecDepth 100000 in
theorem rstdo_c0 {w : World} {ax ay : Option Addr} {nx cx ny cy : Nat} {t : Sta} (h : StAt w (.slice ax nx cx) (.slice ay ny cy) t) (he : ShortE t.e) (hl : t.e.length ≤ 900) (hs : ShortS t.s) (u o st : List UInt8) (id a b c : Int) (hu : u.length ≤ 4294967296) (ho : o.length ≤ 4294967296) (hst : st.length ≤ 4294967296) (k : Int) (hm : stMay t = true) (k1 : 1 ≤ k) (k6 : k ≤ 6) {m : List Ent} (hd : roDo t.e k u o = (m, 0)) :
    Calls Tryz.prog 16 #[.agg #[.slice ax nx cx, .slice ay ny cy], .agg #[.int .i64 k, .string ⟨u.toArray⟩, .string ⟨o.toArray⟩, .int .i64 id, .int .i64 a, .int .i64 b, .int .i64 c, .string ⟨st.toArray⟩]] w fun e w' => ∃ x' y', e = .returned (.tuple #[.agg #[x', y'], .int .i64 0]) ∧ StAt w' x' y' ⟨m, t.s⟩ ∧ Below w.heap.size w w' := by
  have HM := Lib.hid hm
  have HD := Lib.hid hd
  have t1 : decide (k < 1) = false := by rw [decide_eq_false_iff_not]; omega
  have t2 : decide (8 < k) = false := by rw [decide_eq_false_iff_not]; omega
  have t3 : decide (k ≤ 6) = true := by rw [decide_eq_true_eq]; omega
  have b1 := bl_newZ w (.cells #[.slice ax nx cx, .slice ay ny cy] 25)
  have b2 := bl_newZ (w.alloc (.cells #[.slice ax nx cx, .slice ay ny cy] 25)) (.cells #[.int .i64 k, .string ⟨u.toArray⟩, .string ⟨o.toArray⟩, .int .i64 id, .int .i64 a, .int .i64 b, .int .i64 c, .string ⟨st.toArray⟩] 29)
  have b3 := bl_newZ ((w.alloc (.cells #[.slice ax nx cx, .slice ay ny cy] 25)).alloc (.cells #[.int .i64 k, .string ⟨u.toArray⟩, .string ⟨o.toArray⟩, .int .i64 id, .int .i64 a, .int .i64 b, .int .i64 c, .string ⟨st.toArray⟩] 29)) (.cells #[.slice none 0 0, .slice none 0 0] 25)
  have b123 := below2Z b1 (below2Z b2 b3)
  have HB := Lib.hid b123
  have H := Lib.hid (h.later b123)
  have FS := Lib.hid (upT (heap_newT w (.cells #[.slice ax nx cx, .slice ay ny cy] 25)) (below2Z b2 b3))
  have FE := Lib.hid ((cellsAt_made (w := w.alloc (.cells #[.slice ax nx cx, .slice ay ny cy] 25)) (cs := #[.int .i64 k, .string ⟨u.toArray⟩, .string ⟨o.toArray⟩, .int .i64 id, .int .i64 a, .int .i64 b, .int .i64 c, .string ⟨st.toArray⟩]) (vs := evVals ⟨k, u, o, id, ⟨a, b, c, st⟩⟩) rfl 29 (B := w.heap.size + 1) (by simp)).later b3)
  have FR : Hid ((((w.alloc (.cells #[.slice ax nx cx, .slice ay ny cy] 25)).alloc (.cells #[.int .i64 k, .string ⟨u.toArray⟩, .string ⟨o.toArray⟩, .int .i64 id, .int .i64 a, .int .i64 b, .int .i64 c, .string ⟨st.toArray⟩] 29)).alloc (.cells #[.slice none 0 0, .slice none 0 0] 25)).heap[w.heap.size + 1 + 1]? = some (.cells #[.slice none 0 0, .slice none 0 0] 25 (0, 0))) := by
    have hz := heap_newT ((w.alloc (.cells #[.slice ax nx cx, .slice ay ny cy] 25)).alloc (.cells #[.int .i64 k, .string ⟨u.toArray⟩, .string ⟨o.toArray⟩, .int .i64 id, .int .i64 a, .int .i64 b, .int .i64 c, .string ⟨st.toArray⟩] 29)) (.cells #[.slice none 0 0, .slice none 0 0] 25)
    simp only [World.size_alloc] at hz
    exact hz
  have HE := Lib.hid he
  have HS := Lib.hid hs
  obtain ⟨s0, s1, f0, f1⟩ := two_T FS.out
  obtain ⟨e0, e1, e2, e3, e4, e5, e6, e7⟩ := eightT FE.out
  clear b1 b2 b3 b123 h he hs
  clear hm
  go_enter Tryz.func16, Tryz.ntmps16
  go_wp2_with fail
  refine (rstmay_any H.out HE.out (by omega) HS.out HM).mono ?_
  rintro e w1 ⟨rfl, c1⟩
  replace HB := Lib.hid (below2Z HB.out c1)
  replace H := Lib.hid (H.out.later c1)
  replace FS := Lib.hid (upT FS.out c1)
  replace FE := Lib.hid (FE.out.later c1)
  replace FR := Lib.hid (upT FR.out c1)
  clear s0 s1 f0 f1 e0 e1 e2 e3 e4 e5 e6 e7 c1
  obtain ⟨s0, s1, f0, f1⟩ := two_T FS.out
  obtain ⟨e0, e1, e2, e3, e4, e5, e6, e7⟩ := eightT FE.out
  obtain ⟨r0, r1, g0, g1⟩ := two_T FR.out
  have FR1 := FR
  have bt := bl_newZ w1 (.cells #[.slice ax nx cx, .slice ay ny cy] 25)
  have FT := Lib.hid (heap_newT w1 (.cells #[.slice ax nx cx, .slice ay ny cy] 25))
  replace HB := Lib.hid (below2Z HB.out bt)
  replace H := Lib.hid (H.out.later bt)
  replace FS := Lib.hid (upT FS.out bt)
  replace FE := Lib.hid (FE.out.later bt)
  replace FR := Lib.hid (upT FR.out bt)
  have hzt := HB.out.size
  clear bt
  go_upto_region 5 with fail
  have hTw : w.heap.size ≤ w1.heap.size := by have := (Array.getElem?_eq_some_iff.1 FR1.out).1; omega
  have hTR : w1.heap.size ≠ w.heap.size + 1 + 1 := by have := (Array.getElem?_eq_some_iff.1 FR1.out).1; omega
  have hTS : w1.heap.size ≠ w.heap.size := by have := (Array.getElem?_eq_some_iff.1 FR1.out).1; omega
  have hST : w.heap.size ≠ w1.heap.size := fun e => hTS e.symm
  generalize hW : w1.alloc (.cells #[.slice ax nx cx, .slice ay ny cy] 25) = w1t at HB H FS FE FR FT ⊢
  generalize hT : w1.heap.size = T at FT hTw hTR hTS hST ⊢
  clear s0 s1 f0 f1 e0 e1 e2 e3 e4 e5 e6 e7 r0 r1 g0 g1
  obtain ⟨s0, s1, f0, f1⟩ := two_T FS.out
  obtain ⟨e0, e1, e2, e3, e4, e5, e6, e7⟩ := eightT FE.out
  obtain ⟨r0, r1, g0, g1⟩ := two_T FR.out
  obtain ⟨t0, t1, v0, v1⟩ := two_T FT.out
  go_wp2_with fail
  refine (rdo8_any H.out.1 HE.out hl u o hu ho k HD.out).mono ?_
  rintro e w2 ⟨x', rfl, hx, c2⟩
  obtain ⟨ap, np, cp, rfl⟩ : ∃ a n c, x' = .slice a n c := by obtain ⟨a, c, e, -⟩ := Ents.open' hx; exact ⟨_, _, _, e⟩
  replace HB := Lib.hid (below2Z HB.out c2)
  replace H := Lib.hid (H.out.later c2)
  replace FS := Lib.hid (upT FS.out c2)
  replace FE := Lib.hid (FE.out.later c2)
  replace FR := Lib.hid (upT FR.out c2)
  replace FT := Lib.hid (upT FT.out c2)
  clear s0 s1 f0 f1 e0 e1 e2 e3 e4 e5 e6 e7 r0 r1 g0 g1 t0 t1 v0 v1 c2
  obtain ⟨s0, s1, f0, f1⟩ := two_T FS.out
  obtain ⟨e0, e1, e2, e3, e4, e5, e6, e7⟩ := eightT FE.out
  obtain ⟨r0, r1, g0, g1⟩ := two_T FR.out
  obtain ⟨t0, t1, v0, v1⟩ := two_T FT.out
  have HN : Hid (StAt w2 (.slice ap np cp) (.slice ay ny cy) ⟨m, t.s⟩) := Lib.hid ⟨hx, H.out.2⟩
  go_wp2_with fail
  obtain ⟨q1, q2, q3⟩ := st_one HN.out HB.out hTw FT.out H.out.sl 0 (.slice ap np cp) hTR FR.out
  obtain ⟨z1, z2, o0, o1⟩ := st_fin q1 q2 (show w.heap.size ≤ w.heap.size + 1 + 1 by omega) q3 allSl_nil
  refine bodyPost_ret (v := .tuple #[.agg #[.slice ap np cp, .slice ay ny cy], .int .i64 0]) (by simp [results, Tryz.results16, go_sem, o0, o1]) rfl ⟨_, _, rfl, z1, z2⟩

set_option maxHeartbeats 3200000 in
set_option maxRecDepth 100000 in
theorem rstdo_d0 {w : World} {ax ay : Option Addr} {nx cx ny cy : Nat} {t : Sta} (h : StAt w (.slice ax nx cx) (.slice ay ny cy) t) (he : ShortE t.e) (hl : t.e.length ≤ 900) (hs : ShortS t.s) (u o st : List UInt8) (id a b c : Int) (hu : u.length ≤ 4294967296) (ho : o.length ≤ 4294967296) (hst : st.length ≤ 4294967296) (hm : stMay t = true) {m : List Ses} (hd : sePut t.s ⟨u, id, ⟨a, b, c, st⟩⟩ = (m, 0)) :
    Calls Tryz.prog 16 #[.agg #[.slice ax nx cx, .slice ay ny cy], .agg #[.int .i64 7, .string ⟨u.toArray⟩, .string ⟨o.toArray⟩, .int .i64 id, .int .i64 a, .int .i64 b, .int .i64 c, .string ⟨st.toArray⟩]] w fun e w' => ∃ x' y', e = .returned (.tuple #[.agg #[x', y'], .int .i64 0]) ∧ StAt w' x' y' ⟨t.e, m⟩ ∧ Below w.heap.size w w' := by
  have HM := Lib.hid hm
  have HD := Lib.hid hd
  have b1 := bl_newZ w (.cells #[.slice ax nx cx, .slice ay ny cy] 25)
  have b2 := bl_newZ (w.alloc (.cells #[.slice ax nx cx, .slice ay ny cy] 25)) (.cells #[.int .i64 7, .string ⟨u.toArray⟩, .string ⟨o.toArray⟩, .int .i64 id, .int .i64 a, .int .i64 b, .int .i64 c, .string ⟨st.toArray⟩] 29)
  have b3 := bl_newZ ((w.alloc (.cells #[.slice ax nx cx, .slice ay ny cy] 25)).alloc (.cells #[.int .i64 7, .string ⟨u.toArray⟩, .string ⟨o.toArray⟩, .int .i64 id, .int .i64 a, .int .i64 b, .int .i64 c, .string ⟨st.toArray⟩] 29)) (.cells #[.slice none 0 0, .slice none 0 0] 25)
  have b123 := below2Z b1 (below2Z b2 b3)
  have HB := Lib.hid b123
  have H := Lib.hid (h.later b123)
  have FS := Lib.hid (upT (heap_newT w (.cells #[.slice ax nx cx, .slice ay ny cy] 25)) (below2Z b2 b3))
  have FE := Lib.hid ((cellsAt_made (w := w.alloc (.cells #[.slice ax nx cx, .slice ay ny cy] 25)) (cs := #[.int .i64 7, .string ⟨u.toArray⟩, .string ⟨o.toArray⟩, .int .i64 id, .int .i64 a, .int .i64 b, .int .i64 c, .string ⟨st.toArray⟩]) (vs := evVals ⟨7, u, o, id, ⟨a, b, c, st⟩⟩) rfl 29 (B := w.heap.size + 1) (by simp)).later b3)
  have FR : Hid ((((w.alloc (.cells #[.slice ax nx cx, .slice ay ny cy] 25)).alloc (.cells #[.int .i64 7, .string ⟨u.toArray⟩, .string ⟨o.toArray⟩, .int .i64 id, .int .i64 a, .int .i64 b, .int .i64 c, .string ⟨st.toArray⟩] 29)).alloc (.cells #[.slice none 0 0, .slice none 0 0] 25)).heap[w.heap.size + 1 + 1]? = some (.cells #[.slice none 0 0, .slice none 0 0] 25 (0, 0))) := by
    have hz := heap_newT ((w.alloc (.cells #[.slice ax nx cx, .slice ay ny cy] 25)).alloc (.cells #[.int .i64 7, .string ⟨u.toArray⟩, .string ⟨o.toArray⟩, .int .i64 id, .int .i64 a, .int .i64 b, .int .i64 c, .string ⟨st.toArray⟩] 29)) (.cells #[.slice none 0 0, .slice none 0 0] 25)
    simp only [World.size_alloc] at hz
    exact hz
  have HE := Lib.hid he
  have HS := Lib.hid hs
  obtain ⟨s0, s1, f0, f1⟩ := two_T FS.out
  obtain ⟨e0, e1, e2, e3, e4, e5, e6, e7⟩ := eightT FE.out
  clear b1 b2 b3 b123 h he hs
  clear hm
  go_enter Tryz.func16, Tryz.ntmps16
  go_wp2_with fail
  refine (rstmay_any H.out HE.out (by omega) HS.out HM).mono ?_
  rintro e w1 ⟨rfl, c1⟩
  replace HB := Lib.hid (below2Z HB.out c1)
  replace H := Lib.hid (H.out.later c1)
  replace FS := Lib.hid (upT FS.out c1)
  replace FE := Lib.hid (FE.out.later c1)
  replace FR := Lib.hid (upT FR.out c1)
  clear s0 s1 f0 f1 e0 e1 e2 e3 e4 e5 e6 e7 c1
  obtain ⟨s0, s1, f0, f1⟩ := two_T FS.out
  obtain ⟨e0, e1, e2, e3, e4, e5, e6, e7⟩ := eightT FE.out
  obtain ⟨r0, r1, g0, g1⟩ := two_T FR.out
  have FR1 := FR
  have bt := bl_newZ w1 (.cells #[.slice ax nx cx, .slice ay ny cy] 25)
  have FT := Lib.hid (heap_newT w1 (.cells #[.slice ax nx cx, .slice ay ny cy] 25))
  replace HB := Lib.hid (below2Z HB.out bt)
  replace H := Lib.hid (H.out.later bt)
  replace FS := Lib.hid (upT FS.out bt)
  replace FE := Lib.hid (FE.out.later bt)
  replace FR := Lib.hid (upT FR.out bt)
  have hzt := HB.out.size
  clear bt
  go_upto_region 5 with fail
  have hTw : w.heap.size ≤ w1.heap.size := by have := (Array.getElem?_eq_some_iff.1 FR1.out).1; omega
  have hTR : w1.heap.size ≠ w.heap.size + 1 + 1 := by have := (Array.getElem?_eq_some_iff.1 FR1.out).1; omega
  have hTS : w1.heap.size ≠ w.heap.size := by have := (Array.getElem?_eq_some_iff.1 FR1.out).1; omega
  have hST : w.heap.size ≠ w1.heap.size := fun e => hTS e.symm
  generalize hW : w1.alloc (.cells #[.slice ax nx cx, .slice ay ny cy] 25) = w1t at HB H FS FE FR FT ⊢
  generalize hT : w1.heap.size = T at FT hTw hTR hTS hST ⊢
  clear s0 s1 f0 f1 e0 e1 e2 e3 e4 e5 e6 e7 r0 r1 g0 g1
  obtain ⟨s0, s1, f0, f1⟩ := two_T FS.out
  obtain ⟨e0, e1, e2, e3, e4, e5, e6, e7⟩ := eightT FE.out
  obtain ⟨r0, r1, g0, g1⟩ := two_T FR.out
  obtain ⟨t0, t1, v0, v1⟩ := two_T FT.out
  go_wp2_with fail
  refine (rsput_any H.out.2 HS.out ⟨u, id, ⟨a, b, c, st⟩⟩ hu hst HD).mono ?_
  rintro e w2 ⟨x', rfl, hx, c2⟩
  obtain ⟨ap, np, cp, rfl⟩ : ∃ a n c, x' = .slice a n c := by obtain ⟨a, c, e, -⟩ := RdS.open' hx; exact ⟨_, _, _, e⟩
  replace HB := Lib.hid (below2Z HB.out c2)
  replace H := Lib.hid (H.out.later c2)
  replace FS := Lib.hid (upT FS.out c2)
  replace FE := Lib.hid (FE.out.later c2)
  replace FR := Lib.hid (upT FR.out c2)
  replace FT := Lib.hid (upT FT.out c2)
  clear s0 s1 f0 f1 e0 e1 e2 e3 e4 e5 e6 e7 r0 r1 g0 g1 t0 t1 v0 v1 c2
  obtain ⟨s0, s1, f0, f1⟩ := two_T FS.out
  obtain ⟨e0, e1, e2, e3, e4, e5, e6, e7⟩ := eightT FE.out
  obtain ⟨r0, r1, g0, g1⟩ := two_T FR.out
  obtain ⟨t0, t1, v0, v1⟩ := two_T FT.out
  have HN : Hid (StAt w2 (.slice ax nx cx) (.slice ap np cp) ⟨t.e, m⟩) := Lib.hid ⟨H.out.1, hx⟩
  go_wp2_with fail
  obtain ⟨q1, q2, q3⟩ := st_one HN.out HB.out hTw FT.out H.out.sl 1 (.slice ap np cp) hTR FR.out
  obtain ⟨z1, z2, o0, o1⟩ := st_fin q1 q2 (show w.heap.size ≤ w.heap.size + 1 + 1 by omega) q3 allSl_nil
  refine bodyPost_ret (v := .tuple #[.agg #[.slice ax nx cx, .slice ap np cp], .int .i64 0]) (by simp [results, Tryz.results16, go_sem, o0, o1]) rfl ⟨_, _, rfl, z1, z2⟩

set_option maxHeartbeats 3200000 in
set_option maxRecDepth 100000 in
theorem rstdo_e0 {w : World} {ax ay : Option Addr} {nx cx ny cy : Nat} {t : Sta} (h : StAt w (.slice ax nx cx) (.slice ay ny cy) t) (he : ShortE t.e) (hl : t.e.length ≤ 900) (hs : ShortS t.s) (u o st : List UInt8) (id a b c : Int) (hu : u.length ≤ 4294967296) (ho : o.length ≤ 4294967296) (hst : st.length ≤ 4294967296) (hm : stMay t = true) {m : List Ses} (hd : seDrop t.s u id = (m, 0)) :
    Calls Tryz.prog 16 #[.agg #[.slice ax nx cx, .slice ay ny cy], .agg #[.int .i64 8, .string ⟨u.toArray⟩, .string ⟨o.toArray⟩, .int .i64 id, .int .i64 a, .int .i64 b, .int .i64 c, .string ⟨st.toArray⟩]] w fun e w' => ∃ x' y', e = .returned (.tuple #[.agg #[x', y'], .int .i64 0]) ∧ StAt w' x' y' ⟨t.e, m⟩ ∧ Below w.heap.size w w' := by
  have HM := Lib.hid hm
  have HD := Lib.hid hd
  have b1 := bl_newZ w (.cells #[.slice ax nx cx, .slice ay ny cy] 25)
  have b2 := bl_newZ (w.alloc (.cells #[.slice ax nx cx, .slice ay ny cy] 25)) (.cells #[.int .i64 8, .string ⟨u.toArray⟩, .string ⟨o.toArray⟩, .int .i64 id, .int .i64 a, .int .i64 b, .int .i64 c, .string ⟨st.toArray⟩] 29)
  have b3 := bl_newZ ((w.alloc (.cells #[.slice ax nx cx, .slice ay ny cy] 25)).alloc (.cells #[.int .i64 8, .string ⟨u.toArray⟩, .string ⟨o.toArray⟩, .int .i64 id, .int .i64 a, .int .i64 b, .int .i64 c, .string ⟨st.toArray⟩] 29)) (.cells #[.slice none 0 0, .slice none 0 0] 25)
  have b123 := below2Z b1 (below2Z b2 b3)
  have HB := Lib.hid b123
  have H := Lib.hid (h.later b123)
  have FS := Lib.hid (upT (heap_newT w (.cells #[.slice ax nx cx, .slice ay ny cy] 25)) (below2Z b2 b3))
  have FE := Lib.hid ((cellsAt_made (w := w.alloc (.cells #[.slice ax nx cx, .slice ay ny cy] 25)) (cs := #[.int .i64 8, .string ⟨u.toArray⟩, .string ⟨o.toArray⟩, .int .i64 id, .int .i64 a, .int .i64 b, .int .i64 c, .string ⟨st.toArray⟩]) (vs := evVals ⟨8, u, o, id, ⟨a, b, c, st⟩⟩) rfl 29 (B := w.heap.size + 1) (by simp)).later b3)
  have FR : Hid ((((w.alloc (.cells #[.slice ax nx cx, .slice ay ny cy] 25)).alloc (.cells #[.int .i64 8, .string ⟨u.toArray⟩, .string ⟨o.toArray⟩, .int .i64 id, .int .i64 a, .int .i64 b, .int .i64 c, .string ⟨st.toArray⟩] 29)).alloc (.cells #[.slice none 0 0, .slice none 0 0] 25)).heap[w.heap.size + 1 + 1]? = some (.cells #[.slice none 0 0, .slice none 0 0] 25 (0, 0))) := by
    have hz := heap_newT ((w.alloc (.cells #[.slice ax nx cx, .slice ay ny cy] 25)).alloc (.cells #[.int .i64 8, .string ⟨u.toArray⟩, .string ⟨o.toArray⟩, .int .i64 id, .int .i64 a, .int .i64 b, .int .i64 c, .string ⟨st.toArray⟩] 29)) (.cells #[.slice none 0 0, .slice none 0 0] 25)
    simp only [World.size_alloc] at hz
    exact hz
  have HE := Lib.hid he
  have HS := Lib.hid hs
  obtain ⟨s0, s1, f0, f1⟩ := two_T FS.out
  obtain ⟨e0, e1, e2, e3, e4, e5, e6, e7⟩ := eightT FE.out
  clear b1 b2 b3 b123 h he hs
  clear hm
  go_enter Tryz.func16, Tryz.ntmps16
  go_wp2_with fail
  refine (rstmay_any H.out HE.out (by omega) HS.out HM).mono ?_
  rintro e w1 ⟨rfl, c1⟩
  replace HB := Lib.hid (below2Z HB.out c1)
  replace H := Lib.hid (H.out.later c1)
  replace FS := Lib.hid (upT FS.out c1)
  replace FE := Lib.hid (FE.out.later c1)
  replace FR := Lib.hid (upT FR.out c1)
  clear s0 s1 f0 f1 e0 e1 e2 e3 e4 e5 e6 e7 c1
  obtain ⟨s0, s1, f0, f1⟩ := two_T FS.out
  obtain ⟨e0, e1, e2, e3, e4, e5, e6, e7⟩ := eightT FE.out
  obtain ⟨r0, r1, g0, g1⟩ := two_T FR.out
  have FR1 := FR
  have bt := bl_newZ w1 (.cells #[.slice ax nx cx, .slice ay ny cy] 25)
  have FT := Lib.hid (heap_newT w1 (.cells #[.slice ax nx cx, .slice ay ny cy] 25))
  replace HB := Lib.hid (below2Z HB.out bt)
  replace H := Lib.hid (H.out.later bt)
  replace FS := Lib.hid (upT FS.out bt)
  replace FE := Lib.hid (FE.out.later bt)
  replace FR := Lib.hid (upT FR.out bt)
  have hzt := HB.out.size
  clear bt
  go_upto_region 5 with fail
  have hTw : w.heap.size ≤ w1.heap.size := by have := (Array.getElem?_eq_some_iff.1 FR1.out).1; omega
  have hTR : w1.heap.size ≠ w.heap.size + 1 + 1 := by have := (Array.getElem?_eq_some_iff.1 FR1.out).1; omega
  have hTS : w1.heap.size ≠ w.heap.size := by have := (Array.getElem?_eq_some_iff.1 FR1.out).1; omega
  have hST : w.heap.size ≠ w1.heap.size := fun e => hTS e.symm
  generalize hW : w1.alloc (.cells #[.slice ax nx cx, .slice ay ny cy] 25) = w1t at HB H FS FE FR FT ⊢
  generalize hT : w1.heap.size = T at FT hTw hTR hTS hST ⊢
  clear s0 s1 f0 f1 e0 e1 e2 e3 e4 e5 e6 e7 r0 r1 g0 g1
  obtain ⟨s0, s1, f0, f1⟩ := two_T FS.out
  obtain ⟨e0, e1, e2, e3, e4, e5, e6, e7⟩ := eightT FE.out
  obtain ⟨r0, r1, g0, g1⟩ := two_T FR.out
  obtain ⟨t0, t1, v0, v1⟩ := two_T FT.out
  go_wp2_with fail
  refine (rsdrop_any H.out.2 HS.out u id HD).mono ?_
  rintro e w2 ⟨x', rfl, hx, c2⟩
  obtain ⟨ap, np, cp, rfl⟩ : ∃ a n c, x' = .slice a n c := by obtain ⟨a, c, e, -⟩ := RdS.open' hx; exact ⟨_, _, _, e⟩
  replace HB := Lib.hid (below2Z HB.out c2)
  replace H := Lib.hid (H.out.later c2)
  replace FS := Lib.hid (upT FS.out c2)
  replace FE := Lib.hid (FE.out.later c2)
  replace FR := Lib.hid (upT FR.out c2)
  replace FT := Lib.hid (upT FT.out c2)
  clear s0 s1 f0 f1 e0 e1 e2 e3 e4 e5 e6 e7 r0 r1 g0 g1 t0 t1 v0 v1 c2
  obtain ⟨s0, s1, f0, f1⟩ := two_T FS.out
  obtain ⟨e0, e1, e2, e3, e4, e5, e6, e7⟩ := eightT FE.out
  obtain ⟨r0, r1, g0, g1⟩ := two_T FR.out
  obtain ⟨t0, t1, v0, v1⟩ := two_T FT.out
  have HN : Hid (StAt w2 (.slice ax nx cx) (.slice ap np cp) ⟨t.e, m⟩) := Lib.hid ⟨H.out.1, hx⟩
  go_wp2_with fail
  obtain ⟨q1, q2, q3⟩ := st_one HN.out HB.out hTw FT.out H.out.sl 1 (.slice ap np cp) hTR FR.out
  obtain ⟨z1, z2, o0, o1⟩ := st_fin q1 q2 (show w.heap.size ≤ w.heap.size + 1 + 1 by omega) q3 allSl_nil
  refine bodyPost_ret (v := .tuple #[.agg #[.slice ax nx cx, .slice ap np cp], .int .i64 0]) (by simp [results, Tryz.results16, go_sem, o0, o1]) rfl ⟨_, _, rfl, z1, z2⟩

set_option maxHeartbeats 3200000 in
set_option maxRecDepth 100000 in
theorem rstdo_cn {w : World} {ax ay : Option Addr} {nx cx ny cy : Nat} {t : Sta} (h : StAt w (.slice ax nx cx) (.slice ay ny cy) t) (he : ShortE t.e) (hl : t.e.length ≤ 900) (hs : ShortS t.s) (u o st : List UInt8) (id a b c : Int) (hu : u.length ≤ 4294967296) (ho : o.length ≤ 4294967296) (hst : st.length ≤ 4294967296) (k : Int) (hm : stMay t = true) (k1 : 1 ≤ k) (k6 : k ≤ 6) {m : List Ent} {n : Nat} (hd : roDo t.e k u o = (m, n)) (hn : n ≠ 0) :
    Calls Tryz.prog 16 #[.agg #[.slice ax nx cx, .slice ay ny cy], .agg #[.int .i64 k, .string ⟨u.toArray⟩, .string ⟨o.toArray⟩, .int .i64 id, .int .i64 a, .int .i64 b, .int .i64 c, .string ⟨st.toArray⟩]] w fun e w' => ∃ x' y', e = .returned (.tuple #[.agg #[x', y'], .int .i64 n]) ∧ StAt w' x' y' ⟨t.e, t.s⟩ ∧ Below w.heap.size w w' := by
  have HM := Lib.hid hm
  have HD := Lib.hid hd
  have tn : ((n : Int) != 0) = true := by rw [bne_iff_ne]; omega
  have tnb : ((n : Int) == 0) = false := by rw [beq_eq_false_iff_ne]; omega
  have t1 : decide (k < 1) = false := by rw [decide_eq_false_iff_not]; omega
  have t2 : decide (8 < k) = false := by rw [decide_eq_false_iff_not]; omega
  have t3 : decide (k ≤ 6) = true := by rw [decide_eq_true_eq]; omega
  have b1 := bl_newZ w (.cells #[.slice ax nx cx, .slice ay ny cy] 25)
  have b2 := bl_newZ (w.alloc (.cells #[.slice ax nx cx, .slice ay ny cy] 25)) (.cells #[.int .i64 k, .string ⟨u.toArray⟩, .string ⟨o.toArray⟩, .int .i64 id, .int .i64 a, .int .i64 b, .int .i64 c, .string ⟨st.toArray⟩] 29)
  have b3 := bl_newZ ((w.alloc (.cells #[.slice ax nx cx, .slice ay ny cy] 25)).alloc (.cells #[.int .i64 k, .string ⟨u.toArray⟩, .string ⟨o.toArray⟩, .int .i64 id, .int .i64 a, .int .i64 b, .int .i64 c, .string ⟨st.toArray⟩] 29)) (.cells #[.slice none 0 0, .slice none 0 0] 25)
  have b123 := below2Z b1 (below2Z b2 b3)
  have HB := Lib.hid b123
  have H := Lib.hid (h.later b123)
  have FS := Lib.hid (upT (heap_newT w (.cells #[.slice ax nx cx, .slice ay ny cy] 25)) (below2Z b2 b3))
  have FE := Lib.hid ((cellsAt_made (w := w.alloc (.cells #[.slice ax nx cx, .slice ay ny cy] 25)) (cs := #[.int .i64 k, .string ⟨u.toArray⟩, .string ⟨o.toArray⟩, .int .i64 id, .int .i64 a, .int .i64 b, .int .i64 c, .string ⟨st.toArray⟩]) (vs := evVals ⟨k, u, o, id, ⟨a, b, c, st⟩⟩) rfl 29 (B := w.heap.size + 1) (by simp)).later b3)
  have FR : Hid ((((w.alloc (.cells #[.slice ax nx cx, .slice ay ny cy] 25)).alloc (.cells #[.int .i64 k, .string ⟨u.toArray⟩, .string ⟨o.toArray⟩, .int .i64 id, .int .i64 a, .int .i64 b, .int .i64 c, .string ⟨st.toArray⟩] 29)).alloc (.cells #[.slice none 0 0, .slice none 0 0] 25)).heap[w.heap.size + 1 + 1]? = some (.cells #[.slice none 0 0, .slice none 0 0] 25 (0, 0))) := by
    have hz := heap_newT ((w.alloc (.cells #[.slice ax nx cx, .slice ay ny cy] 25)).alloc (.cells #[.int .i64 k, .string ⟨u.toArray⟩, .string ⟨o.toArray⟩, .int .i64 id, .int .i64 a, .int .i64 b, .int .i64 c, .string ⟨st.toArray⟩] 29)) (.cells #[.slice none 0 0, .slice none 0 0] 25)
    simp only [World.size_alloc] at hz
    exact hz
  have HE := Lib.hid he
  have HS := Lib.hid hs
  obtain ⟨s0, s1, f0, f1⟩ := two_T FS.out
  obtain ⟨e0, e1, e2, e3, e4, e5, e6, e7⟩ := eightT FE.out
  clear b1 b2 b3 b123 h he hs
  clear hm
  go_enter Tryz.func16, Tryz.ntmps16
  go_wp2_with fail
  refine (rstmay_any H.out HE.out (by omega) HS.out HM).mono ?_
  rintro e w1 ⟨rfl, c1⟩
  replace HB := Lib.hid (below2Z HB.out c1)
  replace H := Lib.hid (H.out.later c1)
  replace FS := Lib.hid (upT FS.out c1)
  replace FE := Lib.hid (FE.out.later c1)
  replace FR := Lib.hid (upT FR.out c1)
  clear s0 s1 f0 f1 e0 e1 e2 e3 e4 e5 e6 e7 c1
  obtain ⟨s0, s1, f0, f1⟩ := two_T FS.out
  obtain ⟨e0, e1, e2, e3, e4, e5, e6, e7⟩ := eightT FE.out
  obtain ⟨r0, r1, g0, g1⟩ := two_T FR.out
  have FR1 := FR
  have bt := bl_newZ w1 (.cells #[.slice ax nx cx, .slice ay ny cy] 25)
  have FT := Lib.hid (heap_newT w1 (.cells #[.slice ax nx cx, .slice ay ny cy] 25))
  replace HB := Lib.hid (below2Z HB.out bt)
  replace H := Lib.hid (H.out.later bt)
  replace FS := Lib.hid (upT FS.out bt)
  replace FE := Lib.hid (FE.out.later bt)
  replace FR := Lib.hid (upT FR.out bt)
  have hzt := HB.out.size
  clear bt
  go_upto_region 5 with fail
  have hTw : w.heap.size ≤ w1.heap.size := by have := (Array.getElem?_eq_some_iff.1 FR1.out).1; omega
  have hTR : w1.heap.size ≠ w.heap.size + 1 + 1 := by have := (Array.getElem?_eq_some_iff.1 FR1.out).1; omega
  have hTS : w1.heap.size ≠ w.heap.size := by have := (Array.getElem?_eq_some_iff.1 FR1.out).1; omega
  have hST : w.heap.size ≠ w1.heap.size := fun e => hTS e.symm
  generalize hW : w1.alloc (.cells #[.slice ax nx cx, .slice ay ny cy] 25) = w1t at HB H FS FE FR FT ⊢
  generalize hT : w1.heap.size = T at FT hTw hTR hTS hST ⊢
  clear s0 s1 f0 f1 e0 e1 e2 e3 e4 e5 e6 e7 r0 r1 g0 g1
  obtain ⟨s0, s1, f0, f1⟩ := two_T FS.out
  obtain ⟨e0, e1, e2, e3, e4, e5, e6, e7⟩ := eightT FE.out
  obtain ⟨r0, r1, g0, g1⟩ := two_T FR.out
  obtain ⟨t0, t1, v0, v1⟩ := two_T FT.out
  go_wp2_with fail
  refine (rdo8_any H.out.1 HE.out hl u o hu ho k HD.out).mono ?_
  rintro e w2 ⟨x', rfl, hx, c2⟩
  obtain ⟨ap, np, cp, rfl⟩ : ∃ a n c, x' = .slice a n c := by obtain ⟨a, c, e, -⟩ := Ents.open' hx; exact ⟨_, _, _, e⟩
  replace HB := Lib.hid (below2Z HB.out c2)
  replace H := Lib.hid (H.out.later c2)
  replace FS := Lib.hid (upT FS.out c2)
  replace FE := Lib.hid (FE.out.later c2)
  replace FR := Lib.hid (upT FR.out c2)
  replace FT := Lib.hid (upT FT.out c2)
  clear s0 s1 f0 f1 e0 e1 e2 e3 e4 e5 e6 e7 r0 r1 g0 g1 t0 t1 v0 v1 c2
  obtain ⟨s0, s1, f0, f1⟩ := two_T FS.out
  obtain ⟨e0, e1, e2, e3, e4, e5, e6, e7⟩ := eightT FE.out
  obtain ⟨r0, r1, g0, g1⟩ := two_T FR.out
  obtain ⟨t0, t1, v0, v1⟩ := two_T FT.out
  have HN : Hid (StAt w2 (.slice ap np cp) (.slice ay ny cy) ⟨m, t.s⟩) := Lib.hid ⟨hx, H.out.2⟩
  go_wp2_with fail
  obtain ⟨q1, q2, q3⟩ := st_one H.out HB.out hTw FT.out H.out.sl 0 (.slice ap np cp) hTR FR.out
  obtain ⟨z1, z2, o0, o1⟩ := st_fin q1 q2 (show w.heap.size ≤ w.heap.size + 1 + 1 by omega) q3 allSl_nil
  refine bodyPost_ret (v := .tuple #[.agg #[.slice ax nx cx, .slice ay ny cy], .int .i64 n]) (by simp [results, Tryz.results16, go_sem, o0, o1]) rfl ⟨_, _, rfl, z1, z2⟩

set_option maxHeartbeats 3200000 in
set_option maxRecDepth 100000 in
theorem rstdo_dn {w : World} {ax ay : Option Addr} {nx cx ny cy : Nat} {t : Sta} (h : StAt w (.slice ax nx cx) (.slice ay ny cy) t) (he : ShortE t.e) (hl : t.e.length ≤ 900) (hs : ShortS t.s) (u o st : List UInt8) (id a b c : Int) (hu : u.length ≤ 4294967296) (ho : o.length ≤ 4294967296) (hst : st.length ≤ 4294967296) (hm : stMay t = true) {m : List Ses} {n : Nat} (hd : sePut t.s ⟨u, id, ⟨a, b, c, st⟩⟩ = (m, n)) (hn : n ≠ 0) :
    Calls Tryz.prog 16 #[.agg #[.slice ax nx cx, .slice ay ny cy], .agg #[.int .i64 7, .string ⟨u.toArray⟩, .string ⟨o.toArray⟩, .int .i64 id, .int .i64 a, .int .i64 b, .int .i64 c, .string ⟨st.toArray⟩]] w fun e w' => ∃ x' y', e = .returned (.tuple #[.agg #[x', y'], .int .i64 n]) ∧ StAt w' x' y' ⟨t.e, t.s⟩ ∧ Below w.heap.size w w' := by
  have HM := Lib.hid hm
  have HD := Lib.hid hd
  have tn : ((n : Int) != 0) = true := by rw [bne_iff_ne]; omega
  have tnb : ((n : Int) == 0) = false := by rw [beq_eq_false_iff_ne]; omega
  have b1 := bl_newZ w (.cells #[.slice ax nx cx, .slice ay ny cy] 25)
  have b2 := bl_newZ (w.alloc (.cells #[.slice ax nx cx, .slice ay ny cy] 25)) (.cells #[.int .i64 7, .string ⟨u.toArray⟩, .string ⟨o.toArray⟩, .int .i64 id, .int .i64 a, .int .i64 b, .int .i64 c, .string ⟨st.toArray⟩] 29)
  have b3 := bl_newZ ((w.alloc (.cells #[.slice ax nx cx, .slice ay ny cy] 25)).alloc (.cells #[.int .i64 7, .string ⟨u.toArray⟩, .string ⟨o.toArray⟩, .int .i64 id, .int .i64 a, .int .i64 b, .int .i64 c, .string ⟨st.toArray⟩] 29)) (.cells #[.slice none 0 0, .slice none 0 0] 25)
  have b123 := below2Z b1 (below2Z b2 b3)
  have HB := Lib.hid b123
  have H := Lib.hid (h.later b123)
  have FS := Lib.hid (upT (heap_newT w (.cells #[.slice ax nx cx, .slice ay ny cy] 25)) (below2Z b2 b3))
  have FE := Lib.hid ((cellsAt_made (w := w.alloc (.cells #[.slice ax nx cx, .slice ay ny cy] 25)) (cs := #[.int .i64 7, .string ⟨u.toArray⟩, .string ⟨o.toArray⟩, .int .i64 id, .int .i64 a, .int .i64 b, .int .i64 c, .string ⟨st.toArray⟩]) (vs := evVals ⟨7, u, o, id, ⟨a, b, c, st⟩⟩) rfl 29 (B := w.heap.size + 1) (by simp)).later b3)
  have FR : Hid ((((w.alloc (.cells #[.slice ax nx cx, .slice ay ny cy] 25)).alloc (.cells #[.int .i64 7, .string ⟨u.toArray⟩, .string ⟨o.toArray⟩, .int .i64 id, .int .i64 a, .int .i64 b, .int .i64 c, .string ⟨st.toArray⟩] 29)).alloc (.cells #[.slice none 0 0, .slice none 0 0] 25)).heap[w.heap.size + 1 + 1]? = some (.cells #[.slice none 0 0, .slice none 0 0] 25 (0, 0))) := by
    have hz := heap_newT ((w.alloc (.cells #[.slice ax nx cx, .slice ay ny cy] 25)).alloc (.cells #[.int .i64 7, .string ⟨u.toArray⟩, .string ⟨o.toArray⟩, .int .i64 id, .int .i64 a, .int .i64 b, .int .i64 c, .string ⟨st.toArray⟩] 29)) (.cells #[.slice none 0 0, .slice none 0 0] 25)
    simp only [World.size_alloc] at hz
    exact hz
  have HE := Lib.hid he
  have HS := Lib.hid hs
  obtain ⟨s0, s1, f0, f1⟩ := two_T FS.out
  obtain ⟨e0, e1, e2, e3, e4, e5, e6, e7⟩ := eightT FE.out
  clear b1 b2 b3 b123 h he hs
  clear hm
  go_enter Tryz.func16, Tryz.ntmps16
  go_wp2_with fail
  refine (rstmay_any H.out HE.out (by omega) HS.out HM).mono ?_
  rintro e w1 ⟨rfl, c1⟩
  replace HB := Lib.hid (below2Z HB.out c1)
  replace H := Lib.hid (H.out.later c1)
  replace FS := Lib.hid (upT FS.out c1)
  replace FE := Lib.hid (FE.out.later c1)
  replace FR := Lib.hid (upT FR.out c1)
  clear s0 s1 f0 f1 e0 e1 e2 e3 e4 e5 e6 e7 c1
  obtain ⟨s0, s1, f0, f1⟩ := two_T FS.out
  obtain ⟨e0, e1, e2, e3, e4, e5, e6, e7⟩ := eightT FE.out
  obtain ⟨r0, r1, g0, g1⟩ := two_T FR.out
  have FR1 := FR
  have bt := bl_newZ w1 (.cells #[.slice ax nx cx, .slice ay ny cy] 25)
  have FT := Lib.hid (heap_newT w1 (.cells #[.slice ax nx cx, .slice ay ny cy] 25))
  replace HB := Lib.hid (below2Z HB.out bt)
  replace H := Lib.hid (H.out.later bt)
  replace FS := Lib.hid (upT FS.out bt)
  replace FE := Lib.hid (FE.out.later bt)
  replace FR := Lib.hid (upT FR.out bt)
  have hzt := HB.out.size
  clear bt
  go_upto_region 5 with fail
  have hTw : w.heap.size ≤ w1.heap.size := by have := (Array.getElem?_eq_some_iff.1 FR1.out).1; omega
  have hTR : w1.heap.size ≠ w.heap.size + 1 + 1 := by have := (Array.getElem?_eq_some_iff.1 FR1.out).1; omega
  have hTS : w1.heap.size ≠ w.heap.size := by have := (Array.getElem?_eq_some_iff.1 FR1.out).1; omega
  have hST : w.heap.size ≠ w1.heap.size := fun e => hTS e.symm
  generalize hW : w1.alloc (.cells #[.slice ax nx cx, .slice ay ny cy] 25) = w1t at HB H FS FE FR FT ⊢
  generalize hT : w1.heap.size = T at FT hTw hTR hTS hST ⊢
  clear s0 s1 f0 f1 e0 e1 e2 e3 e4 e5 e6 e7 r0 r1 g0 g1
  obtain ⟨s0, s1, f0, f1⟩ := two_T FS.out
  obtain ⟨e0, e1, e2, e3, e4, e5, e6, e7⟩ := eightT FE.out
  obtain ⟨r0, r1, g0, g1⟩ := two_T FR.out
  obtain ⟨t0, t1, v0, v1⟩ := two_T FT.out
  go_wp2_with fail
  refine (rsput_any H.out.2 HS.out ⟨u, id, ⟨a, b, c, st⟩⟩ hu hst HD).mono ?_
  rintro e w2 ⟨x', rfl, hx, c2⟩
  obtain ⟨ap, np, cp, rfl⟩ : ∃ a n c, x' = .slice a n c := by obtain ⟨a, c, e, -⟩ := RdS.open' hx; exact ⟨_, _, _, e⟩
  replace HB := Lib.hid (below2Z HB.out c2)
  replace H := Lib.hid (H.out.later c2)
  replace FS := Lib.hid (upT FS.out c2)
  replace FE := Lib.hid (FE.out.later c2)
  replace FR := Lib.hid (upT FR.out c2)
  replace FT := Lib.hid (upT FT.out c2)
  clear s0 s1 f0 f1 e0 e1 e2 e3 e4 e5 e6 e7 r0 r1 g0 g1 t0 t1 v0 v1 c2
  obtain ⟨s0, s1, f0, f1⟩ := two_T FS.out
  obtain ⟨e0, e1, e2, e3, e4, e5, e6, e7⟩ := eightT FE.out
  obtain ⟨r0, r1, g0, g1⟩ := two_T FR.out
  obtain ⟨t0, t1, v0, v1⟩ := two_T FT.out
  have HN : Hid (StAt w2 (.slice ax nx cx) (.slice ap np cp) ⟨t.e, m⟩) := Lib.hid ⟨H.out.1, hx⟩
  go_wp2_with fail
  obtain ⟨q1, q2, q3⟩ := st_one H.out HB.out hTw FT.out H.out.sl 1 (.slice ap np cp) hTR FR.out
  obtain ⟨z1, z2, o0, o1⟩ := st_fin q1 q2 (show w.heap.size ≤ w.heap.size + 1 + 1 by omega) q3 allSl_nil
  refine bodyPost_ret (v := .tuple #[.agg #[.slice ax nx cx, .slice ay ny cy], .int .i64 n]) (by simp [results, Tryz.results16, go_sem, o0, o1]) rfl ⟨_, _, rfl, z1, z2⟩

set_option maxHeartbeats 3200000 in
set_option maxRecDepth 100000 in
theorem rstdo_en {w : World} {ax ay : Option Addr} {nx cx ny cy : Nat} {t : Sta} (h : StAt w (.slice ax nx cx) (.slice ay ny cy) t) (he : ShortE t.e) (hl : t.e.length ≤ 900) (hs : ShortS t.s) (u o st : List UInt8) (id a b c : Int) (hu : u.length ≤ 4294967296) (ho : o.length ≤ 4294967296) (hst : st.length ≤ 4294967296) (hm : stMay t = true) {m : List Ses} {n : Nat} (hd : seDrop t.s u id = (m, n)) (hn : n ≠ 0) :
    Calls Tryz.prog 16 #[.agg #[.slice ax nx cx, .slice ay ny cy], .agg #[.int .i64 8, .string ⟨u.toArray⟩, .string ⟨o.toArray⟩, .int .i64 id, .int .i64 a, .int .i64 b, .int .i64 c, .string ⟨st.toArray⟩]] w fun e w' => ∃ x' y', e = .returned (.tuple #[.agg #[x', y'], .int .i64 n]) ∧ StAt w' x' y' ⟨t.e, t.s⟩ ∧ Below w.heap.size w w' := by
  have HM := Lib.hid hm
  have HD := Lib.hid hd
  have tn : ((n : Int) != 0) = true := by rw [bne_iff_ne]; omega
  have tnb : ((n : Int) == 0) = false := by rw [beq_eq_false_iff_ne]; omega
  have b1 := bl_newZ w (.cells #[.slice ax nx cx, .slice ay ny cy] 25)
  have b2 := bl_newZ (w.alloc (.cells #[.slice ax nx cx, .slice ay ny cy] 25)) (.cells #[.int .i64 8, .string ⟨u.toArray⟩, .string ⟨o.toArray⟩, .int .i64 id, .int .i64 a, .int .i64 b, .int .i64 c, .string ⟨st.toArray⟩] 29)
  have b3 := bl_newZ ((w.alloc (.cells #[.slice ax nx cx, .slice ay ny cy] 25)).alloc (.cells #[.int .i64 8, .string ⟨u.toArray⟩, .string ⟨o.toArray⟩, .int .i64 id, .int .i64 a, .int .i64 b, .int .i64 c, .string ⟨st.toArray⟩] 29)) (.cells #[.slice none 0 0, .slice none 0 0] 25)
  have b123 := below2Z b1 (below2Z b2 b3)
  have HB := Lib.hid b123
  have H := Lib.hid (h.later b123)
  have FS := Lib.hid (upT (heap_newT w (.cells #[.slice ax nx cx, .slice ay ny cy] 25)) (below2Z b2 b3))
  have FE := Lib.hid ((cellsAt_made (w := w.alloc (.cells #[.slice ax nx cx, .slice ay ny cy] 25)) (cs := #[.int .i64 8, .string ⟨u.toArray⟩, .string ⟨o.toArray⟩, .int .i64 id, .int .i64 a, .int .i64 b, .int .i64 c, .string ⟨st.toArray⟩]) (vs := evVals ⟨8, u, o, id, ⟨a, b, c, st⟩⟩) rfl 29 (B := w.heap.size + 1) (by simp)).later b3)
  have FR : Hid ((((w.alloc (.cells #[.slice ax nx cx, .slice ay ny cy] 25)).alloc (.cells #[.int .i64 8, .string ⟨u.toArray⟩, .string ⟨o.toArray⟩, .int .i64 id, .int .i64 a, .int .i64 b, .int .i64 c, .string ⟨st.toArray⟩] 29)).alloc (.cells #[.slice none 0 0, .slice none 0 0] 25)).heap[w.heap.size + 1 + 1]? = some (.cells #[.slice none 0 0, .slice none 0 0] 25 (0, 0))) := by
    have hz := heap_newT ((w.alloc (.cells #[.slice ax nx cx, .slice ay ny cy] 25)).alloc (.cells #[.int .i64 8, .string ⟨u.toArray⟩, .string ⟨o.toArray⟩, .int .i64 id, .int .i64 a, .int .i64 b, .int .i64 c, .string ⟨st.toArray⟩] 29)) (.cells #[.slice none 0 0, .slice none 0 0] 25)
    simp only [World.size_alloc] at hz
    exact hz
  have HE := Lib.hid he
  have HS := Lib.hid hs
  obtain ⟨s0, s1, f0, f1⟩ := two_T FS.out
  obtain ⟨e0, e1, e2, e3, e4, e5, e6, e7⟩ := eightT FE.out
  clear b1 b2 b3 b123 h he hs
  clear hm
  go_enter Tryz.func16, Tryz.ntmps16
  go_wp2_with fail
  refine (rstmay_any H.out HE.out (by omega) HS.out HM).mono ?_
  rintro e w1 ⟨rfl, c1⟩
  replace HB := Lib.hid (below2Z HB.out c1)
  replace H := Lib.hid (H.out.later c1)
  replace FS := Lib.hid (upT FS.out c1)
  replace FE := Lib.hid (FE.out.later c1)
  replace FR := Lib.hid (upT FR.out c1)
  clear s0 s1 f0 f1 e0 e1 e2 e3 e4 e5 e6 e7 c1
  obtain ⟨s0, s1, f0, f1⟩ := two_T FS.out
  obtain ⟨e0, e1, e2, e3, e4, e5, e6, e7⟩ := eightT FE.out
  obtain ⟨r0, r1, g0, g1⟩ := two_T FR.out
  have FR1 := FR
  have bt := bl_newZ w1 (.cells #[.slice ax nx cx, .slice ay ny cy] 25)
  have FT := Lib.hid (heap_newT w1 (.cells #[.slice ax nx cx, .slice ay ny cy] 25))
  replace HB := Lib.hid (below2Z HB.out bt)
  replace H := Lib.hid (H.out.later bt)
  replace FS := Lib.hid (upT FS.out bt)
  replace FE := Lib.hid (FE.out.later bt)
  replace FR := Lib.hid (upT FR.out bt)
  have hzt := HB.out.size
  clear bt
  go_upto_region 5 with fail
  have hTw : w.heap.size ≤ w1.heap.size := by have := (Array.getElem?_eq_some_iff.1 FR1.out).1; omega
  have hTR : w1.heap.size ≠ w.heap.size + 1 + 1 := by have := (Array.getElem?_eq_some_iff.1 FR1.out).1; omega
  have hTS : w1.heap.size ≠ w.heap.size := by have := (Array.getElem?_eq_some_iff.1 FR1.out).1; omega
  have hST : w.heap.size ≠ w1.heap.size := fun e => hTS e.symm
  generalize hW : w1.alloc (.cells #[.slice ax nx cx, .slice ay ny cy] 25) = w1t at HB H FS FE FR FT ⊢
  generalize hT : w1.heap.size = T at FT hTw hTR hTS hST ⊢
  clear s0 s1 f0 f1 e0 e1 e2 e3 e4 e5 e6 e7 r0 r1 g0 g1
  obtain ⟨s0, s1, f0, f1⟩ := two_T FS.out
  obtain ⟨e0, e1, e2, e3, e4, e5, e6, e7⟩ := eightT FE.out
  obtain ⟨r0, r1, g0, g1⟩ := two_T FR.out
  obtain ⟨t0, t1, v0, v1⟩ := two_T FT.out
  go_wp2_with fail
  refine (rsdrop_any H.out.2 HS.out u id HD).mono ?_
  rintro e w2 ⟨x', rfl, hx, c2⟩
  obtain ⟨ap, np, cp, rfl⟩ : ∃ a n c, x' = .slice a n c := by obtain ⟨a, c, e, -⟩ := RdS.open' hx; exact ⟨_, _, _, e⟩
  replace HB := Lib.hid (below2Z HB.out c2)
  replace H := Lib.hid (H.out.later c2)
  replace FS := Lib.hid (upT FS.out c2)
  replace FE := Lib.hid (FE.out.later c2)
  replace FR := Lib.hid (upT FR.out c2)
  replace FT := Lib.hid (upT FT.out c2)
  clear s0 s1 f0 f1 e0 e1 e2 e3 e4 e5 e6 e7 r0 r1 g0 g1 t0 t1 v0 v1 c2
  obtain ⟨s0, s1, f0, f1⟩ := two_T FS.out
  obtain ⟨e0, e1, e2, e3, e4, e5, e6, e7⟩ := eightT FE.out
  obtain ⟨r0, r1, g0, g1⟩ := two_T FR.out
  obtain ⟨t0, t1, v0, v1⟩ := two_T FT.out
  have HN : Hid (StAt w2 (.slice ax nx cx) (.slice ap np cp) ⟨t.e, m⟩) := Lib.hid ⟨H.out.1, hx⟩
  go_wp2_with fail
  obtain ⟨q1, q2, q3⟩ := st_one H.out HB.out hTw FT.out H.out.sl 1 (.slice ap np cp) hTR FR.out
  obtain ⟨z1, z2, o0, o1⟩ := st_fin q1 q2 (show w.heap.size ≤ w.heap.size + 1 + 1 by omega) q3 allSl_nil
  refine bodyPost_ret (v := .tuple #[.agg #[.slice ax nx cx, .slice ay ny cy], .int .i64 n]) (by simp [results, Tryz.results16, go_sem, o0, o1]) rfl ⟨_, _, rfl, z1, z2⟩

theorem rstdo_any {w : World} {x y : Value} {t : Sta} (h : StAt w x y t) (he : ShortE t.e) (hl : t.e.length ≤ 900) (hs : ShortS t.s) (e : Ev) (hu : e.u.length ≤ 4294967296) (ho : e.o.length ≤ 4294967296) (hst : e.v.st.length ≤ 4294967296) {t' : Sta} {n : Nat} (hd : stApply t e = (t', n)) :
    Calls Tryz.prog 16 #[.agg #[x, y], .agg #[.int .i64 e.k, .string ⟨e.u.toArray⟩, .string ⟨e.o.toArray⟩, .int .i64 e.id, .int .i64 e.v.sh, .int .i64 e.v.pr, .int .i64 e.v.si, .string ⟨e.v.st.toArray⟩]] w fun z w' => ∃ x' y', z = .returned (.tuple #[.agg #[x', y'], .int .i64 n]) ∧ StAt w' x' y' t' ∧ Below w.heap.size w w' := by
  obtain ⟨ax, cx, rfl, -⟩ := h.1.open'
  obtain ⟨ay, cy, rfl, -⟩ := RdS.open' h.2
  cases hm : stMay t with
  | false =>
    rw [stApply_bad (.inl hm)] at hd
    obtain ⟨rfl, rfl⟩ := Prod.mk.inj hd
    exact rstdo_a h he hl hs e.u e.o e.v.st e.id e.v.sh e.v.pr e.v.si hu ho hst e.k hm
  | true =>
    by_cases hb : e.k < 1
    · rw [stApply_bad (.inr (.inl hb))] at hd
      obtain ⟨rfl, rfl⟩ := Prod.mk.inj hd
      exact rstdo_b1 h he hl hs e.u e.o e.v.st e.id e.v.sh e.v.pr e.v.si hu ho hst e.k hm hb
    · by_cases hb2 : 8 < e.k
      · rw [stApply_bad (.inr (.inr hb2))] at hd
        obtain ⟨rfl, rfl⟩ := Prod.mk.inj hd
        exact rstdo_b2 h he hl hs e.u e.o e.v.st e.id e.v.sh e.v.pr e.v.si hu ho hst e.k hm hb2
      · have herr := fun hn => stApply_err hd hn
        obtain ⟨k, u, o, id, v⟩ := e
        try simp only at hb hb2 hu ho hst
        by_cases h6 : k ≤ 6
        · obtain ⟨m, j, hr⟩ : ∃ m j, roDo t.e k u o = (m, j) := ⟨_, _, rfl⟩
          rw [stApply_do hm (by show 1 ≤ k; omega) h6 hr] at hd
          obtain ⟨rfl, rfl⟩ := Prod.mk.inj hd
          by_cases hn : j = 0
          · subst hn
            exact rstdo_c0 h he hl hs u o v.st id v.sh v.pr v.si hu ho hst k hm (by omega) h6 hr
          · have := rstdo_cn h he hl hs u o v.st id v.sh v.pr v.si hu ho hst k hm (by omega) h6 hr hn
            rw [herr hn]
            exact this
        · by_cases h7 : k = 7
          · obtain ⟨m, j, hr⟩ : ∃ m j, sePut t.s ⟨u, id, v⟩ = (m, j) := ⟨_, _, rfl⟩
            rw [stApply_put hm h7 hr] at hd
            obtain ⟨rfl, rfl⟩ := Prod.mk.inj hd
            subst h7
            by_cases hn : j = 0
            · subst hn
              exact rstdo_d0 h he hl hs u o v.st id v.sh v.pr v.si hu ho hst hm hr
            · have := rstdo_dn h he hl hs u o v.st id v.sh v.pr v.si hu ho hst hm hr hn
              rw [herr hn]
              exact this
          · have h8 : k = 8 := by omega
            obtain ⟨m, j, hr⟩ : ∃ m j, seDrop t.s u id = (m, j) := ⟨_, _, rfl⟩
            rw [stApply_drop hm h8 hr] at hd
            obtain ⟨rfl, rfl⟩ := Prod.mk.inj hd
            subst h8
            by_cases hn : j = 0
            · subst hn
              exact rstdo_e0 h he hl hs u o v.st id v.sh v.pr v.si hu ho hst hm hr
            · have := rstdo_en h he hl hs u o v.st id v.sh v.pr v.si hu ho hst hm hr hn
              rw [herr hn]
              exact this

end Go.Proofs.YtdilcckoapaimaaGreat

end
