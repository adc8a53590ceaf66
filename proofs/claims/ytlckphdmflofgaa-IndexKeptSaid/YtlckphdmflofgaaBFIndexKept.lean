/-
  THE PROOF OF IndexKept: for every input the law returns true, and each argument reads behind the call as it read before. No condition.
-/
import Derived.Test.YtlckphdmflofgaaB03
import Derived.Test.YtlckphdmflofgaaB11
import Derived.Test.YtlckphdmflofgaaB01
import Derived.Test.YtlckphdmflofgaaB13
import Derived.Test.YtlckphdmflofgaaB08
import Derived.Test.YtlckphdmflofgaaRows
import Derived.ProofKit
import Derived.OpenShut
import Derived.ShutString
import Derived.ChangeOld
import Derived.SliceStrings
import Derived.Lib.SmallJoins

section
/-
  INDEXKEPT: its walk.
-/
namespace Go.Proofs.Ytlckphdmflofgaa
open Go.RowKit Go.ChangeMaps Go.MapKept

/-- What holds between two moves. -/
def IxKeptAt (w0 w : World) (base xb k : Nat) (lv : Value) : Prop :=
  ∃ L F E, IxB w base xb (24 * k) L F ∧ Ents w lv E ∧ KeptIx L E ∧ RoM E ∧ L.length ≤ 2 * k ∧ E.length ≤ 2 * k ∧ Below base w0 w

theorem row_int {w wr : World} {a : Option Addr} {n c : Nat} {zs : List Int} (h : IsRow .i64 w a n c zs) (hb : Below w.heap.size w wr) {k : Nat} (hk : k < n) : ∃ b off z, a = some ⟨b, off, none⟩ ∧ wr.cell? ⟨b, off + k, none⟩ = some (.int .i64 z) ∧ (Lit.int .i64 z).wf = true := by
  obtain ⟨h1, -, h2, h3⟩ := h.form
  rcases h2 with h2 | ⟨b, off, e, hlt, hc⟩
  · omega
  · refine ⟨b, off, zs.getD k 0, e, ?_, h3 _ ?_⟩
    · rw [hb.cell hlt]
      exact hc k hk
    · rw [List.getD_eq_getElem?_getD, List.getElem?_eq_getElem (by omega)]
      exact List.getElem_mem (by omega)

theorem roWat_le (E : List Ent) (c : List UInt8) : (roWat E c).length ≤ E.length := by
  unfold roWat
  rw [List.length_map]
  exact List.length_filter_le _ _

set_option maxHeartbeats 12800000 in
set_option maxRecDepth 100000 in
theorem walkIndexKept {w : World} (a1 : Option Addr) (n1 c1 : Nat) (zs : List Int) (hk1 : IsRow .i64 w a1 n1 c1 zs) {va : Value} {l : List Pr} (h : Prs w va l) :
    Calls Try.prog 8 #[.slice a1 n1 c1, va] w fun e w' => e = .returned (.bool true) ∧ Below w.heap.size w w' := by
  have HL := Lib.hid (fun w => live13 w)
  obtain ⟨a2, cap, rfl, hcap⟩ := h.open'
  have HV := Lib.hid h
  have HZ := Lib.hid hk1
  have hn1 : n1 ≤ 9223372036854775807 := by have := hk1.form; unfold maxLen at this; omega
  clear h hk1
  go_enter Try.func8, Try.ntmps8
  by_cases h1 : n1 = l.length
  · subst h1
    by_cases h2 : 40 < l.length
    · have s3 : (40 : Int) < (l.length : Int) := by omega
      have s4 : decide ((40 : Int) < (l.length : Int)) = true := decide_eq_true s3
      go_wp2_with fail
      refine (HL.out _).mono ?_
      rintro e w2 ⟨rfl, hb⟩
      go_wp2_with fail
      go_ret
      exact ⟨rfl, hb⟩
    have s3 : ¬ (40 : Int) < (l.length : Int) := by omega
    have s4 : decide ((40 : Int) < (l.length : Int)) = false := decide_eq_false s3
    go_wp2_with fail
    refine (ixb_new w).mono ?_
    rintro e w1 ⟨xb, F1, rfl, hx, hb⟩
    have H0 : Hid (IxKeptAt w w1 w.heap.size xb 0 (.slice none 0 0)) := ⟨[], F1, [], hx, ⟨none, 0, rfl, Nat.le_refl _, by unfold maxLen; omega, fun _ => rfl, .inl rfl⟩, kept_nil, roM_nil, Nat.le_refl _, Nat.le_refl _, hb⟩
    clear hx hb
    go_wp2_with fail
    go_loopw [6, 7] (fun nv s wr => ∃ k : Nat, ∃ lv : Value, k ≤ l.length ∧ lv = nv ∧ s = .int .i64 k ∧ Hid (IxKeptAt w wr w.heap.size xb k lv)) (fun _ s _ => l.length - (intOf s).toNat)
    case atStart => exact ⟨0, _, by omega, rfl, rfl, H0⟩
    case round =>
      obtain ⟨k, lv, hk, hlv, rfl, HH⟩ := hrel
      subst hlv
      obtain ⟨L, F1, E, X1, E1, K1, M1, hL1, hE1, B1⟩ := HH.out
      have HX := Lib.hid X1
      have HE := Lib.hid E1
      have HK := Lib.hid K1
      have HM := Lib.hid M1
      have HB := Lib.hid B1
      clear X1 E1 K1 M1 B1 HH
      by_cases hlt : k < l.length
      · obtain ⟨b2, o2, rfl, hc2⟩ := HV.out.row HB.out k hlt
        obtain ⟨b1, o1, z, rfl, hz1, hzw⟩ := row_int HZ.out HB.out hlt
        obtain ⟨⟨u, c⟩, hy⟩ : ∃ y, l.getD k ([], []) = y := ⟨_, rfl⟩
        rw [hy] at hc2
        have x0 : wr.cell? ⟨b2, o2 + k * 2, none⟩ = some (.string ⟨u.toArray⟩) := hc2 0 _ rfl
        have x1 : wr.cell? ⟨b2, o2 + k * 2 + 1, none⟩ = some (.string ⟨c.toArray⟩) := hc2 1 _ rfl
        have hz := Lib.hid hzw
        clear hc2 hy hzw
        go_upto_region 10 with fail
        go_region
        replace HX := Lib.hid (HX.out.stay (w' := wr.drew) (fun _ _ => rfl))
        replace HE := Lib.hid (Ents.later HE.out (Below.refl wr.heap.size wr).drew)
        replace HB : Hid (Below w.heap.size w wr.drew) := Lib.hid HB.out.drew
        have y1 : wr.drew.cell? ⟨b1, o1 + k, none⟩ = some (.int .i64 z) := hz1
        clear x0 x1 hz1
        by_cases hu : 40 < u.length
        · have s1 : (40 : Int) < (u.length : Int) := by omega
          have s2 : decide ((40 : Int) < (u.length : Int)) = true := decide_eq_true s1
          go_wp2_with fail
          refine (HL.out _).mono ?_
          rintro e w2 ⟨rfl, hb⟩
          go_wp2_with fail
          go_ret
          exact ⟨rfl, HB.out.trans (hb.mono HB.out.size)⟩
        have s1 : ¬ (40 : Int) < (u.length : Int) := by omega
        have s2 : decide ((40 : Int) < (u.length : Int)) = false := decide_eq_false s1
        by_cases hc : 40 < c.length
        · have s5 : (40 : Int) < (c.length : Int) := by omega
          have s6 : decide ((40 : Int) < (c.length : Int)) = true := decide_eq_true s5
          go_wp2_with fail
          refine (HL.out _).mono ?_
          rintro e w2 ⟨rfl, hb⟩
          go_wp2_with fail
          go_ret
          exact ⟨rfl, HB.out.trans (hb.mono HB.out.size)⟩
        have s5 : ¬ (40 : Int) < (c.length : Int) := by omega
        have s6 : decide ((40 : Int) < (c.length : Int)) = false := decide_eq_false s5
        obtain ⟨⟨M, er⟩, hdo'⟩ : ∃ p, roDo E z u c = p := ⟨_, rfl⟩
        have hdo := Lib.hid hdo'
        have hmm := kept_may HM.out hdo'
        have HM2 := Lib.hid hmm.1
        have hml := hmm.2
        clear hdo' hmm
        go_wp2_with fail
        refine (rdo_any HE.out (roM_short HM.out) (by omega) u c (by omega) (by omega) z hz.out hdo.out).mono ?_
        rintro e wz ⟨v2, rfl, hv2, bz⟩
        replace HX := Lib.hid (HX.out.later bz)
        replace HB : Hid (Below w.heap.size w wz) := Lib.hid (HB.out.trans (bz.mono HB.out.size))
        clear HE
        have HE := Lib.hid hv2
        clear hv2
        clear bz
        obtain ⟨q, hq⟩ : ∃ q, ixHas L (u, c) = q := ⟨_, rfl⟩
        have HQ := Lib.hid hq
        clear hq
        go_wp2_with fail
        refine (ixb_has HX.out u c (by omega) (by omega) HQ.out).mono ?_
        rintro e wz ⟨rfl, bz⟩
        replace HX := Lib.hid (HX.out.later bz)
        replace HE := Lib.hid (Ents.later HE.out bz)
        replace HB : Hid (Below w.heap.size w wz) := Lib.hid (HB.out.trans (bz.mono HB.out.size))
        clear bz
        go_wp2_with fail
        refine (sees8_any HE.out u c).mono ?_
        rintro e wz ⟨rfl, bz⟩
        replace HX := Lib.hid (HX.out.later bz)
        replace HE := Lib.hid (Ents.later HE.out bz)
        replace HB : Hid (Below w.heap.size w wz) := Lib.hid (HB.out.trans (bz.mono HB.out.size))
        clear bz
        obtain ⟨sv, hsv⟩ : ∃ s, roSees M u c = s := ⟨_, rfl⟩
        rw [hsv]
        have HSV := Lib.hid hsv
        clear hsv
        obtain ⟨L2, hs2, hh2, hl2⟩ := set_ansK L (u, c) sv
        rw [HQ.out] at hs2
        obtain ⟨r, hr⟩ : ∃ r, (q != sv) = r := ⟨_, rfl⟩
        rw [hr] at hs2
        have HS2 := Lib.hid hs2
        have HH2 := Lib.hid hh2
        clear hs2 hh2
        go_wp2_with fail
        refine (ixb_set HX.out (by omega) u c (by omega) (by omega) (by omega) sv HS2.out).mono ?_
        rintro e wz ⟨F2, rfl, X2, B2, T2⟩
        replace HE := Lib.hid (HE.out.besideIx HX.out T2)
        clear HX
        have HX := Lib.hid X2
        replace HB := Lib.hid (HB.out.trans B2)
        clear X2 B2 T2
        go_wp2_with fail
        refine (sees8_any HE.out u c).mono ?_
        rintro e wz ⟨rfl, bz⟩
        replace HX := Lib.hid (HX.out.later bz)
        replace HE := Lib.hid (Ents.later HE.out bz)
        replace HB : Hid (Below w.heap.size w wz) := Lib.hid (HB.out.trans (bz.mono HB.out.size))
        clear bz
        rw [HSV.out]
        have tq : (!(r == !(q == sv))) = false := by rw [← hr]; cases q <;> cases sv <;> rfl
        clear hr
        go_wp2_with fail
        refine (sees8_any HE.out c u).mono ?_
        rintro e wz ⟨rfl, bz⟩
        replace HX := Lib.hid (HX.out.later bz)
        replace HE := Lib.hid (Ents.later HE.out bz)
        replace HB : Hid (Below w.heap.size w wz) := Lib.hid (HB.out.trans (bz.mono HB.out.size))
        clear bz
        clear tq
        obtain ⟨L3, hs3, hh3, hl3⟩ := set_ansK L2 (c, u) (roSees M c u)
        have HS3 := Lib.hid hs3
        have HK3 := Lib.hid (kept_step HK.out hdo.out (HSV.out.symm ▸ HH2.out) hh3)
        clear hs3 hh3
        go_wp2_with fail
        refine (ixb_set HX.out (by omega) c u (by omega) (by omega) (by omega) (roSees M c u) HS3.out).mono ?_
        rintro e wz ⟨F2, rfl, X2, B2, T2⟩
        replace HE := Lib.hid (HE.out.besideIx HX.out T2)
        clear HX
        have HX := Lib.hid X2
        replace HB := Lib.hid (HB.out.trans B2)
        clear X2 B2 T2
        go_wp2_with fail
        refine (ixb_watch HX.out u (by omega) (by omega) (kept_wat HK3.out HM2.out.1 u)).mono ?_
        rintro e wz ⟨v5, rfl, ⟨ht, _⟩, bz⟩
        replace HX := Lib.hid (HX.out.later bz)
        replace HE := Lib.hid (Ents.later HE.out bz)
        replace HB : Hid (Below w.heap.size w wz) := Lib.hid (HB.out.trans (bz.mono HB.out.size))
        have T1 := Lib.hid ht
        clear ht
        clear bz
        go_wp2_with fail
        refine (rwatchers_rise HE.out HM2.out.1 (by omega) u).mono ?_
        rintro e wz ⟨v6, rfl, ht, bz⟩
        replace HX := Lib.hid (HX.out.later bz)
        replace HE := Lib.hid (Ents.later HE.out bz)
        replace HB : Hid (Below w.heap.size w wz) := Lib.hid (HB.out.trans (bz.mono HB.out.size))
        replace T1 := Lib.hid (T1.out.later bz)
        have T2 := Lib.hid ht
        clear ht
        clear bz
        go_wp2_with fail
        refine (same_yes T1.out T2.out (Nat.le_trans (roWat_le _ _) (by omega))).mono ?_
        rintro e wz ⟨rfl, bz⟩
        replace HX := Lib.hid (HX.out.later bz)
        replace HE := Lib.hid (Ents.later HE.out bz)
        replace HB : Hid (Below w.heap.size w wz) := Lib.hid (HB.out.trans (bz.mono HB.out.size))
        clear T1 T2
        clear bz
        go_wp2_with fail
        refine (ixb_watch HX.out c (by omega) (by omega) (kept_wat HK3.out HM2.out.1 c)).mono ?_
        rintro e wz ⟨v5, rfl, ⟨ht, _⟩, bz⟩
        replace HX := Lib.hid (HX.out.later bz)
        replace HE := Lib.hid (Ents.later HE.out bz)
        replace HB : Hid (Below w.heap.size w wz) := Lib.hid (HB.out.trans (bz.mono HB.out.size))
        have T1 := Lib.hid ht
        clear ht
        clear bz
        go_wp2_with fail
        refine (rwatchers_rise HE.out HM2.out.1 (by omega) c).mono ?_
        rintro e wz ⟨v6, rfl, ht, bz⟩
        replace HX := Lib.hid (HX.out.later bz)
        replace HE := Lib.hid (Ents.later HE.out bz)
        replace HB : Hid (Below w.heap.size w wz) := Lib.hid (HB.out.trans (bz.mono HB.out.size))
        replace T1 := Lib.hid (T1.out.later bz)
        have T2 := Lib.hid ht
        clear ht
        clear bz
        go_wp2_with fail
        refine (same_yes T1.out T2.out (Nat.le_trans (roWat_le _ _) (by omega))).mono ?_
        rintro e wz ⟨rfl, bz⟩
        replace HX := Lib.hid (HX.out.later bz)
        replace HE := Lib.hid (Ents.later HE.out bz)
        replace HB : Hid (Below w.heap.size w wz) := Lib.hid (HB.out.trans (bz.mono HB.out.size))
        clear T1 T2
        clear bz
        have HEND := Lib.hid (show IxKeptAt w wz w.heap.size xb (k + 1) v2 from ⟨L3, _, M, HX.out.more (by omega), HE.out, HK3.out, HM2.out, by omega, by omega, HB.out⟩)
        clear HX HE HK HK3 HM HM2 HB HS2 HS3 HH2 HQ
        go_wp2_with fail
        go_roundw
        case rel => exact ⟨k + 1, v2, by omega, rfl, by go_num, HEND⟩
        case measure => simp [intOf]; omega
      · obtain rfl : k = l.length := by omega
        clear HX HE HK HM
        go_wp2_with fail
        refine (HL.out _).mono ?_
        rintro e w2 ⟨rfl, hb⟩
        go_wp2_with fail
        go_ret
        exact ⟨rfl, HB.out.trans (hb.mono HB.out.size)⟩
  · have t1 : ((n1 : Int) == (l.length : Int)) = false := by simp; omega
    have t2 : ((n1 : Int) != (l.length : Int)) = true := by simp; omega
    have t3 : ¬ (n1 : Int) = (l.length : Int) := by omega
    go_wp2_with fail
    refine (HL.out _).mono ?_
    rintro e w2 ⟨rfl, hb⟩
    go_wp2_with fail
    go_ret
    exact ⟨rfl, hb⟩

end Go.Proofs.Ytlckphdmflofgaa
end

section
/-
  THE FRAME OF THE PROOF OF IndexKept: for every input the law returns true, and each argument reads behind the call as it read before. No condition.
-/
namespace Go.Proofs.Ytlckphdmflofgaa.indexKept
open Go.ChangeShapes Go.WideShapes Go.ChangeAt Go.RowKit
open Go.ChangeMaps (open_string shut_string)
set_option linter.unusedVariables false

theorem own : ownKnob Try.prog.godebug = none := by kernel_rfl
theorem laidOut : laidOutB Try.prog = true := by kernel_rfl

set_option maxRecDepth 100000 in
theorem lifted (os : Os) (started : os.Started) (H : Type) (enc : TypeId × Value → H) :
    ReturnsInHanded {} Try.checked os 8 .any (Rows.indexKeptSpec.pre6 enc Try.prog Try.f8 Rows.indexKeptRow.domain false) (Rows.indexKeptSpec.post enc Try.prog Try.f8 false true false false) := by
  refine returnsInHanded_of_change (C := Try.checked) own started (by kernel_rfl) Try.func8
    (ChangeSpec.witness6 (enc := enc) (C := Try.checked) false ⟨#[], #[.slice none 0 0, .slice none 0 0], []⟩ 8 (by kernel_rfl) (by kernel_rfl) (by kernel_rfl) (by kernel_rfl)) ?_
  intro W base args ds gs before hval0 hW hcnd _
  have hval : ∀ (j : Nat) t v, Try.f8.params[j]? = some t → args[j]? = some v → Value.okWide Try.prog W .any base t v := hval0
  have hW' := hW
  obtain ⟨p, q, hA0, hV, rfl, hfz, hnd⟩ := hW
  have hA : DataW.TrodAll enc Try.prog W 0 (fun _ => true) true Try.f8.params.toList args.toList ds p := hA0
  rw [Try.params8] at hA hval
  obtain ⟨v0, vs0, d0, ds0, p0, q0, hargs, rfl, rfl, h0, r0⟩ := trodAll_cons hA
  obtain ⟨v1, vs1, d1, ds1, p1, q1, rfl, rfl, rfl, h1, r1⟩ := trodAll_cons r0
  obtain ⟨rfl, rfl, rfl⟩ := trodAll_nil r1
  obtain rfl : args = #[v0, v1] := by cases args; simp_all
  obtain ⟨rfl, rfl⟩ := trodVars_none hV
  have k0 := h0
  have lt0 : ∀ x ∈ p0, x.block < W.heap.size := by obtain ⟨m, hm⟩ := k0; exact DataW.trod_lt m _ _ _ hm
  obtain ⟨a0, len0, cap0, rfl⟩ := okWide_slice Try.underlying42 (hval 0 42 v0 rfl rfl)
  obtain ⟨z0, w0⟩ : ∃ zs, IsRow .i64 W a0 len0 cap0 zs := by
    obtain ⟨fuel, hf⟩ := h0
    rcases open_ints Try.underlying42 Try.underlying3 (by kernel_rfl) hf with ⟨hcs, _⟩ | ⟨x, l, c, zs, hcs, _, hl, hm, hz, _, hcell, hwz⟩
    · simp [Value.cells] at hcs
      obtain ⟨rfl, rfl, rfl⟩ := hcs
      exact ⟨[], .inl ⟨rfl, rfl, rfl, rfl⟩⟩
    · simp [Value.cells] at hcs
      obtain ⟨rfl, rfl, rfl⟩ := hcs
      exact ⟨zs, .inr ⟨_, rfl, hl, hm, by simpa using hz, hcell, hwz⟩⟩
  have k1 := h1
  have lt1 : ∀ x ∈ p1, x.block < W.heap.size := by obtain ⟨m, hm⟩ := k1; exact DataW.trod_lt m _ _ _ hm
  obtain ⟨l1, w1⟩ := open_prs (hval 1 28 v1 rfl rfl) h1
  clear hA0 hval0
  refine (walkIndexKept (w := W) a0 len0 cap0 z0 w0 w1).mono fun e W' ⟨he, bel⟩ => ?_
  subst he
  exact ⟨_, rfl, _, _, _, [], _, [], hW', trodAll_mk1 (shut_bool Try.underlying4 _), (trodAll_cons_mk (Below.trod laidOut (by kernel_rfl) (of_decide_eq_true (by kernel_rfl)) k0 bel lt0) (trodAll_cons_mk (Below.trod laidOut (by kernel_rfl) (of_decide_eq_true (by kernel_rfl)) k1 bel lt1) trodAll_mk0)), rfl, bel.frame _, fun h => by cases h⟩

theorem over : Rows.indexKeptRow.holds Try.pinned (OpenSpec.ofChange Rows.indexKeptSpec) :=
  OpenClaim.holds_of_wide 8 Try.f8 rfl rfl rfl rfl rfl rfl rfl ⟨rfl, rfl, rfl, rfl, rfl⟩ rfl rfl rfl rfl rfl (by kernel_rfl) Try.func8 (by kernel_rfl)
    (of_decide_eq_true (by kernel_rfl)) (by unfold Func.isWrapper; first | (rw [if_pos (by decide +kernel)]; kernel_rfl) | (rw [if_neg (by decide +kernel)]; exact ⟨rfl, rfl⟩))
    (fun os started H enc _ => lifted os started H enc)

/-- THE STATEMENT. -/
theorem proved : Rows.IndexKeptSaid := over
#print axioms proved
end Go.Proofs.Ytlckphdmflofgaa.indexKept
end
