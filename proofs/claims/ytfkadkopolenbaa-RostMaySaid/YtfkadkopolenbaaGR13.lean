/-
  TEXTS OF THE PROOF, one behind the other: EntDel, OpenS, RosFrame, IdRow, RosOf, RosMayP, EntWith.
-/
import Derived.Test.YtfkadkopolenbaaGR11
import Derived.Test.YtfkadkopolenbaaGR12
import Derived.Test.YtfkadkopolenbaaGR10
import Derived.ProofKit
import Derived.OpenShut
import Derived.Lib.SmallJoins
import Derived.Deep.Slices
import Derived.Deep.Fields
import Derived.ChangeSame
import Derived.Test.YtfkadkopolenbaaProg
import Derived.Test.YtfkadkopolenbaaGR01
import Derived.Laws.AppendOwnNone
import Derived.Laws.OwnMore
import Derived.Test.YtfkadkopolenbaaGR02

section

/-
  slices.IndexFunc AND slices.DeleteFunc OF ENTRIES, at the one predicate that asks for an Owner and a Contact; without.
-/
namespace Go.Proofs.Ytfkadkopolenbaa
open Go.RowKit

theorem Ents.rdS {w : World} {v : Value} {l : List Ent} (h : Ents w v l) : RdS entVals 7 Ent.zero w v l := by
  obtain ⟨a, cap, h1, h2, h3, h4, h5⟩ := h
  refine ⟨a, cap, h1, h2, h3, h4, ?_⟩
  rcases h5 with h5 | ⟨b, off, e, hlt, hc⟩
  · exact .inl h5
  · exact .inr ⟨b, off, e, hlt, fun i hi => cells7_at.1 (hc i hi)⟩

theorem RdS.ents {w : World} {v : Value} {l : List Ent} (h : RdS entVals 7 Ent.zero w v l) : Ents w v l := by
  obtain ⟨a, cap, h1, h2, h3, h4, h5⟩ := h
  refine ⟨a, cap, h1, h2, h3, h4, ?_⟩
  rcases h5 with h5 | ⟨b, off, e, hlt, hc⟩
  · exact .inl h5
  · exact .inr ⟨b, off, e, hlt, fun i hi => cells7_at.2 (hc i hi)⟩

set_option maxHeartbeats 800000 in
set_option maxRecDepth 100000 in
theorem wo1_any {w : World} {B : Nat} {ko kc : List UInt8} {k1 k2 k3 k4 k5 : Bool} (hk : Cells7 w B 0 ⟨ko, kc, ⟨k1, k2, k3, k4, k5⟩⟩) (xo xc : List UInt8) (x1 x2 x3 x4 x5 : Bool) {r : Bool} (h : Hid (entIs ⟨xo, xc, ⟨x1, x2, x3, x4, x5⟩⟩ ⟨ko, kc, ⟨k1, k2, k3, k4, k5⟩⟩ = r)) :
    Calls Try.prog 86 #[.agg #[.string ⟨xo.toArray⟩, .string ⟨xc.toArray⟩, .bool x1, .bool x2, .bool x3, .bool x4, .bool x5], .pointer (some ⟨B, 0, none⟩)] w fun e w' => e = .returned (.bool r) ∧ Below w.heap.size w w' := by
  have B0 := Lib.hid ((Below.refl w.heap.size w).alloc (Nat.le_refl _) (.cells #[.string ⟨xo.toArray⟩, .string ⟨xc.toArray⟩, .bool x1, .bool x2, .bool x3, .bool x4, .bool x5] 49))
  have HC := Lib.hid (rcompare_any xo xc ko kc x1 x2 x3 x4 x5 k1 k2 k3 k4 k5)
  obtain ⟨n, hn⟩ : ∃ n, entI ⟨xo, xc, ⟨x1, x2, x3, x4, x5⟩⟩ ⟨ko, kc, ⟨k1, k2, k3, k4, k5⟩⟩ = n := ⟨_, rfl⟩
  have t1 : (n == 0) = r := by
    rw [← h.out, ← hn]
    cases he : entIs ⟨xo, xc, ⟨x1, x2, x3, x4, x5⟩⟩ ⟨ko, kc, ⟨k1, k2, k3, k4, k5⟩⟩ with
    | true => exact entI_on he
    | false => exact entI_off he
  rw [hn] at HC
  obtain ⟨c0, c1, c2, c3, c4, c5, c6⟩ := hk.later (B0.out)
  simp only [Nat.zero_add] at c0 c1 c2 c3 c4 c5 c6
  clear hn h hk
  go_enter Try.func86, Try.ntmps86
  go_wp2_with fail
  refine (HC.out _).mono ?_
  rintro e w1 ⟨rfl, b1⟩
  have B1 := Lib.hid (below2S B0.out b1)
  clear b1 c0 c1 c2 c3 c4 c5 c6
  go_wp2_with fail
  go_ret
  exact ⟨rfl, B1.out⟩

/-- Where the first entry of an Owner and a Contact stands. -/
def FoundE (t : List Ent) (key : Ent) (n : Int) : Prop :=
  (∃ k : Nat, k < t.length ∧ n = k ∧ entIs (t.getD k Ent.zero) key = true ∧ ∀ j, j < k → entIs (t.getD j Ent.zero) key = false) ∨ (n = -1 ∧ ∀ j, j < t.length → entIs (t.getD j Ent.zero) key = false)

set_option maxHeartbeats 1600000 in
set_option maxRecDepth 100000 in
theorem eindexf_any {w : World} {v : Value} {t : List Ent} (hv : Ents w v t) {B : Nat} {ko kc : List UInt8} {k1 k2 k3 k4 k5 : Bool} (hk : Cells7 w B 0 ⟨ko, kc, ⟨k1, k2, k3, k4, k5⟩⟩) :
    Calls Try.prog 100 #[v, .func (.func 86) #[] #[.pointer (some ⟨B, 0, none⟩)]] w fun e w' => ∃ n, e = .returned (.int .i64 n) ∧ FoundE t ⟨ko, kc, ⟨k1, k2, k3, k4, k5⟩⟩ n ∧ Below w.heap.size w w' := by
  have HV := Lib.hid hv
  have HK := Lib.hid hk
  obtain ⟨a, cap, rfl, hm⟩ := hv.open'
  clear hv hk
  go_enter Try.func100, Try.ntmps100
  go_wp2_with fail
  go_loopw [8] (fun i wr => ∃ k : Nat, k ≤ t.length ∧ i = .int .i64 k ∧ Hid (Below w.heap.size w wr) ∧ Hid (∀ j, j < k → entIs (t.getD j Ent.zero) ⟨ko, kc, ⟨k1, k2, k3, k4, k5⟩⟩ = false)) (fun i _ => t.length - (intOf i).toNat)
  case atStart => exact ⟨0, by omega, rfl, Below.refl _ _, fun j hj => absurd hj (by omega)⟩
  case round =>
    obtain ⟨k, hk, rfl, HN, HA⟩ := hrel
    by_cases hlt : k < t.length
    · obtain ⟨b, off, rfl, h0, h1, h2, h3, h4, h5, h6⟩ := HV.out.row HN.out k hlt
      obtain ⟨⟨xo, xc, ⟨x1, x2, x3, x4, x5⟩⟩, hr⟩ : ∃ r, t.getD k Ent.zero = r := ⟨_, rfl⟩
      rw [hr] at h0 h1 h2 h3 h4 h5 h6
      have HR := Lib.hid hr
      simp only at h0 h1 h2 h3 h4 h5 h6
      have HKr := Lib.hid (HK.out.later HN.out)
      clear hr
      cases hc : entIs ⟨xo, xc, ⟨x1, x2, x3, x4, x5⟩⟩ ⟨ko, kc, ⟨k1, k2, k3, k4, k5⟩⟩ with
      | true =>
        have HD := Lib.hid (wo1_any HKr.out xo xc x1 x2 x3 x4 x5 (Lib.hid hc))
        have HF : Hid (FoundE t ⟨ko, kc, ⟨k1, k2, k3, k4, k5⟩⟩ k) := .inl ⟨k, hlt, rfl, by rw [HR.out]; exact hc, HA.out⟩
        clear hc
        go_wp2_with fail
        refine HD.out.mono ?_
        rintro e w1 ⟨rfl, hb1⟩
        have N1 := Lib.hid (below2S HN.out hb1)
        clear hb1 h0 h1 h2 h3 h4 h5 h6
        go_wp2_with fail
        go_ret
        exact ⟨_, rfl, HF.out, N1.out⟩
      | false =>
        have HD := Lib.hid (wo1_any HKr.out xo xc x1 x2 x3 x4 x5 (Lib.hid hc))
        have HA2 : Hid (∀ j, j < k + 1 → entIs (t.getD j Ent.zero) ⟨ko, kc, ⟨k1, k2, k3, k4, k5⟩⟩ = false) := by
          show ∀ j, j < k + 1 → _
          intro j hj
          by_cases hjk : j = k
          · rw [hjk, HR.out]; exact hc
          · exact HA.out j (by omega)
        clear hc
        go_wp2_with fail
        refine HD.out.mono ?_
        rintro e w1 ⟨rfl, hb1⟩
        have N1 := Lib.hid (below2S HN.out hb1)
        clear hb1 h0 h1 h2 h3 h4 h5 h6
        go_wp2_with fail
        go_roundw
        case rel => exact ⟨k + 1, by omega, by go_num, N1, HA2⟩
        case measure => simp [intOf]; omega
    · obtain rfl : k = t.length := by omega
      have HF : Hid (FoundE t ⟨ko, kc, ⟨k1, k2, k3, k4, k5⟩⟩ (-1)) := .inr ⟨rfl, HA.out⟩
      go_wp2_with fail
      go_ret
      exact ⟨_, rfl, HF.out, HN.out⟩

theorem edrop_none {t : List Ent} {key : Ent} (h : ∀ j, j < t.length → entIs (t.getD j Ent.zero) key = false) : dropO entIs t key = t := by
  unfold dropO
  rw [List.filter_eq_self]
  intro r hr
  obtain ⟨k, hk, rfl⟩ := List.getElem_of_mem hr
  have := h k hk
  rw [getD_at hk] at this
  simp [this]

theorem edrop_next {t : List Ent} {key : Ent} {j : Nat} (hj : j < t.length) {r : Ent} (hr : t.getD j Ent.zero = r) :
    (entIs r key = true → dropO entIs (t.take (j + 1)) key = dropO entIs (t.take j) key) ∧ (entIs r key = false → dropO entIs (t.take (j + 1)) key = dropO entIs (t.take j) key ++ [r]) := by
  unfold dropO
  rw [List.take_succ_eq_append_getElem hj, ← getD_at hj, hr, List.filter_append]
  constructor
  · intro h
    simp [h]
  · intro h
    simp [h]

theorem eset_take_next {u : List Ent} {i : Nat} (hi : i < u.length) (r : Ent) : (u.set i r).take (i + 1) = u.take i ++ [r] := by
  rw [List.take_set, List.set_eq_take_append_cons_drop]
  rw [if_pos (by rw [List.length_take]; omega)]
  rw [List.take_take, List.drop_of_length_le (by rw [List.length_take]; omega), show min i (i + 1) = i by omega]

/-- Where DeleteFunc stands: entries kept up to i, entries looked at up to j. -/
def EDelAt (t u : List Ent) (key : Ent) (i j : Nat) : Prop := u.length = t.length ∧ i < j ∧ j ≤ t.length ∧ u.take i = dropO entIs (t.take j) key ∧ u.drop j = t.drop j

theorem edelAt_start {t : List Ent} {key : Ent} {k : Nat} (hk : k < t.length) (hc : entIs (t.getD k Ent.zero) key = true) (hn : ∀ j, j < k → entIs (t.getD j Ent.zero) key = false) : EDelAt t t key k (k + 1) := by
  refine ⟨rfl, by omega, hk, ?_, rfl⟩
  rw [(edrop_next hk rfl).1 hc]
  refine (edrop_none fun j hj => ?_).symm
  rw [List.length_take] at hj
  have : (t.take k).getD j Ent.zero = t.getD j Ent.zero := by simp [List.getD, show j < k by omega]
  rw [this]
  exact hn j (by omega)

theorem edelAt_row {t u : List Ent} {key : Ent} {i j : Nat} (h : EDelAt t u key i j) (hj : j < t.length) : u.getD j Ent.zero = t.getD j Ent.zero := by
  obtain ⟨h1, _, _, _, h5⟩ := h
  have a := List.drop_eq_getElem_cons (show j < u.length by omega)
  have b := List.drop_eq_getElem_cons hj
  rw [h5, b] at a
  rw [getD_at hj, getD_at (show j < u.length by omega)]
  exact (List.cons.inj a).1.symm

theorem edelAt_skip {t u : List Ent} {key : Ent} {i j : Nat} (h : EDelAt t u key i j) (hj : j < t.length) {r : Ent} (hr : t.getD j Ent.zero = r) (hc : entIs r key = true) : EDelAt t u key i (j + 1) := by
  obtain ⟨h1, h2, h3, h4, h5⟩ := h
  refine ⟨h1, by omega, hj, by rw [(edrop_next hj hr).1 hc, h4], ?_⟩
  have e : ∀ l : List Ent, l.drop (j + 1) = (l.drop j).drop 1 := fun l => by rw [List.drop_drop]
  rw [e u, e t, h5]

theorem edelAt_keep {t u : List Ent} {key : Ent} {i j : Nat} (h : EDelAt t u key i j) (hj : j < t.length) {r : Ent} (hr : t.getD j Ent.zero = r) (hc : entIs r key = false) : EDelAt t (u.set i r) key (i + 1) (j + 1) := by
  obtain ⟨h1, h2, h3, h4, h5⟩ := h
  refine ⟨by simpa using h1, by omega, hj, by rw [eset_take_next (by omega), h4, (edrop_next hj hr).2 hc], ?_⟩
  have e : ∀ l : List Ent, l.drop (j + 1) = (l.drop j).drop 1 := fun l => by rw [List.drop_drop]
  rw [List.drop_set, if_pos (by omega), e u, e t, h5]

/-- Seven cells of a row stored anew. -/
def setE (w : World) (g o : Nat) (xo xc : List UInt8) (x1 x2 x3 x4 x5 : Bool) : World :=
  ((((((w.setCell ⟨g, o, none⟩ (.string ⟨xo.toArray⟩)).setCell ⟨g, o + 1, none⟩ (.string ⟨xc.toArray⟩)).setCell ⟨g, o + 2, none⟩ (.bool x1)).setCell ⟨g, o + 3, none⟩ (.bool x2)).setCell ⟨g, o + 4, none⟩ (.bool x3)).setCell ⟨g, o + 5, none⟩ (.bool x4)).setCell ⟨g, o + 6, none⟩ (.bool x5)

theorem setE_own {w : World} {base g n cap : Nat} {u : List Ent} (h : OwnS entVals 7 49 w base (.slice (some ⟨g, 0, none⟩) n cap) u) {i : Nat} (hi : i < u.length) (xo xc : List UInt8) (x1 x2 x3 x4 x5 : Bool) :
    OwnS entVals 7 49 (setE w g (i * 7) xo xc x1 x2 x3 x4 x5) base (.slice (some ⟨g, 0, none⟩) n cap) (u.set i ⟨xo, xc, ⟨x1, x2, x3, x4, x5⟩⟩) := ownS_set entOK h hi ⟨xo, xc, ⟨x1, x2, x3, x4, x5⟩⟩

theorem setE_below {B g o : Nat} {w0 w : World} (h : Below B w0 w) (hB : B ≤ g) (xo xc : List UInt8) (x1 x2 x3 x4 x5 : Bool) : Below B w0 (setE w g o xo xc x1 x2 x3 x4 x5) :=
  ((((((h.setCell hB _).setCell hB _).setCell hB _).setCell hB _).setCell hB _).setCell hB _).setCell hB _

set_option maxHeartbeats 3200000 in
set_option maxRecDepth 100000 in
theorem edeletef_some {w : World} {base g n cap : Nat} {t : List Ent} (ho : OwnS entVals 7 49 w base (.slice (some ⟨g, 0, none⟩) n cap) t) {B : Nat} {ko kc : List UInt8} {k1 k2 k3 k4 k5 : Bool} (hk : Cells7 w B 0 ⟨ko, kc, ⟨k1, k2, k3, k4, k5⟩⟩) (hB : B < base) (hbase : base ≤ w.heap.size) :
    Calls Try.prog 84 #[.slice (some ⟨g, 0, none⟩) n cap, .func (.func 86) #[] #[.pointer (some ⟨B, 0, none⟩)]] w fun e w' => ∃ v, e = .returned v ∧ OwnS entVals 7 49 w' base v (dropO entIs t ⟨ko, kc, ⟨k1, k2, k3, k4, k5⟩⟩) ∧ Below base w w' := by
  have HO := Lib.hid ho
  have HK := Lib.hid hk
  obtain ⟨hn, hbg, hgw, hnc, hcm, _⟩ := ho.head
  subst hn
  unfold maxLen at hcm
  have HI := Lib.hid (eindexf_any (ho.rd entOK).ents hk)
  clear ho hk
  go_enter Try.func84, Try.ntmps84
  go_wp2_with fail
  refine HI.out.mono ?_
  rintro e w1 ⟨m, rfl, hf, hb1⟩
  have B1 := Lib.hid hb1
  have O1 := Lib.hid (HO.out.later hb1)
  clear hb1 HI HO
  rcases hf with ⟨k, hklt, rfl, hkc, hkn⟩ | ⟨rfl, hno⟩
  · have HD := Lib.hid (edelAt_start hklt hkc hkn)
    have t0 : ((k : Int) == -1) = false := by simp
    clear hkc hkn
    go_wp2_with fail
    go_loopw [5, 6] (fun a b wr => ∃ (i j : Nat) (u : List Ent), a = .int .i64 i ∧ b = .int .i64 j ∧ Hid (EDelAt t u ⟨ko, kc, ⟨k1, k2, k3, k4, k5⟩⟩ i j) ∧ Hid (OwnS entVals 7 49 wr base (.slice (some ⟨g, 0, none⟩) t.length cap) u) ∧ Hid (Below base w wr)) (fun _ b _ => t.length - (intOf b).toNat)
    case atStart => exact ⟨k, k + 1, t, rfl, by go_num, HD, O1, B1.out.mono hbase⟩
    case round =>
      clear HD O1 B1 hklt
      obtain ⟨i, j, u, rfl, rfl, HD, HO, HN⟩ := hrel
      have hij := HD.out.2.1
      have hjn := HD.out.2.2.1
      have hul := HD.out.1
      by_cases hlt : j < t.length
      · obtain ⟨h0, h1, h2, h3, h4, h5, h6⟩ := cells7_at.2 (HO.out.row entOK (show j < u.length by omega))
        have hgr := HO.out.head.2.2.1
        have hrow := edelAt_row HD.out hlt
        obtain ⟨⟨xo, xc, ⟨x1, x2, x3, x4, x5⟩⟩, hr⟩ : ∃ r, t.getD j Ent.zero = r := ⟨_, rfl⟩
        rw [hrow, hr] at h0 h1 h2 h3 h4 h5 h6
        simp only at h0 h1 h2 h3 h4 h5 h6
        have HR := Lib.hid hr
        have hkr : Cells7 wr B 0 ⟨ko, kc, ⟨k1, k2, k3, k4, k5⟩⟩ := cells7_at.2 (fun q u hu => (HN.out.cell (p := ⟨B, 0 + q, none⟩) hB).trans (cells7_at.1 HK.out q u hu))
        have hcell := Lib.hid (hkr.later (bl_newZ wr (.cells #[.string ⟨xo.toArray⟩, .string ⟨xc.toArray⟩, .bool x1, .bool x2, .bool x3, .bool x4, .bool x5] 49)))
        have CX := Lib.hid (cells7_made wr ⟨xo, xc, ⟨x1, x2, x3, x4, x5⟩⟩ 49)
        have hbr : base ≤ wr.heap.size := by omega
        have bn := bl_newZ wr (.cells #[.string ⟨xo.toArray⟩, .string ⟨xc.toArray⟩, .bool x1, .bool x2, .bool x3, .bool x4, .bool x5] 49)
        clear hr hrow hkr
        cases hc : entIs ⟨xo, xc, ⟨x1, x2, x3, x4, x5⟩⟩ ⟨ko, kc, ⟨k1, k2, k3, k4, k5⟩⟩ with
        | true =>
          have HD2 := Lib.hid (edelAt_skip HD.out hlt HR.out hc)
          have HDel := Lib.hid (wo1_any hcell.out xo xc x1 x2 x3 x4 x5 (Lib.hid hc))
          clear hc hcell
          go_wp2_with fail
          refine HDel.out.mono ?_
          rintro e w2 ⟨rfl, hb2⟩
          have bx := below2Z bn hb2
          have N2 := Lib.hid (HN.out.trans (bx.mono hbr))
          have O2 := Lib.hid (HO.out.later bx)
          clear hb2 bx bn h0 h1 h2 h3 h4 h5 h6
          go_wp2_with fail
          go_roundw
          case rel => exact ⟨i, j + 1, u, rfl, by go_num, HD2, O2, N2⟩
          case measure => simp [intOf]; omega
        | false =>
          have HD2 := Lib.hid (edelAt_keep HD.out hlt HR.out hc)
          have HDel := Lib.hid (wo1_any hcell.out xo xc x1 x2 x3 x4 x5 (Lib.hid hc))
          clear hc hcell
          go_wp2_with fail
          refine HDel.out.mono ?_
          rintro e w2 ⟨rfl, hb2⟩
          obtain ⟨k0', k1', k2', k3', k4', k5', k6'⟩ := CX.out.later hb2
          simp only [Nat.zero_add] at k0' k1' k2' k3' k4' k5' k6'
          have bx := below2Z bn hb2
          have N2 := Lib.hid (HN.out.trans (bx.mono hbr))
          have O2 := Lib.hid (HO.out.later bx)
          have hsz := bx.size
          obtain ⟨s0, s1, s2, s3, s4, s5, s6⟩ := cells7_at.2 (O2.out.row entOK (show i < u.length by omega))
          have f0 := O2.out.frozenAt (i * 7)
          have f1 := O2.out.frozenAt (i * 7 + 1)
          have f2 := O2.out.frozenAt (i * 7 + 2)
          have f3 := O2.out.frozenAt (i * 7 + 3)
          have f4 := O2.out.frozenAt (i * 7 + 4)
          have f5 := O2.out.frozenAt (i * 7 + 5)
          have f6 := O2.out.frozenAt (i * 7 + 6)
          have O3 := Lib.hid (setE_own O2.out (show i < u.length by omega) xo xc x1 x2 x3 x4 x5)
          have N3 := Lib.hid (setE_below (o := i * 7) N2.out hbg xo xc x1 x2 x3 x4 x5)
          clear hb2 bx bn h0 h1 h2 h3 h4 h5 h6 O2 N2
          go_wp2_with fail
          go_roundw
          case rel => exact ⟨i + 1, j + 1, u.set i ⟨xo, xc, ⟨x1, x2, x3, x4, x5⟩⟩, by go_num, by go_num, HD2, O3, N3⟩
          case measure => simp [intOf]; omega
      · obtain rfl : j = t.length := by omega
        have hR : u.take i = dropO entIs t ⟨ko, kc, ⟨k1, k2, k3, k4, k5⟩⟩ := by have := HD.out.2.2.2.1; rwa [List.take_length] at this
        have HR := Lib.hid hR
        have hne : ¬ cap = i := by omega
        clear hR
        go_wp2_with (with_reducible refine wpList_clear_S entOK rfl (.tmp 38) rfl base g t.length cap u HO.out i (some ⟨g, i * 7, none⟩) (t.length - i) (cap - i) rfl (fun _ => rfl) (by omega) ?_)
        intro w3 h3 hb3
        have O3 := Lib.hid (ownS_cut entOK h3 (i := i) (by rw [List.length_append, List.length_take, List.length_replicate]; omega))
        have N3 := Lib.hid (HN.out.trans (hb3.mono hbg))
        clear h3 hb3
        go_wp2_with fail
        go_ret
        refine ⟨_, rfl, ?_, N3.out⟩
        have := O3.out
        rw [List.take_append_of_le_length (by rw [List.length_take]; omega), List.take_take, Nat.min_self, HR.out] at this
        exact this
  · have HR := Lib.hid (edrop_none hno)
    clear hno
    go_wp2_with fail
    go_ret
    exact ⟨_, rfl, by rw [HR.out]; exact O1.out, B1.out.mono hbase⟩

set_option maxHeartbeats 1600000 in
set_option maxRecDepth 100000 in
theorem edeletef_nil {w : World} {B : Nat} {ko kc : List UInt8} {k1 k2 k3 k4 k5 : Bool} (hk : Cells7 w B 0 ⟨ko, kc, ⟨k1, k2, k3, k4, k5⟩⟩) :
    Calls Try.prog 84 #[.slice none 0 0, .func (.func 86) #[] #[.pointer (some ⟨B, 0, none⟩)]] w fun e w' => e = .returned (.slice none 0 0) ∧ Below w.heap.size w w' := by
  have HI := Lib.hid (eindexf_any (ents_nil w) hk)
  clear hk
  go_enter Try.func84, Try.ntmps84
  go_wp2_with fail
  refine HI.out.mono ?_
  rintro e w1 ⟨m, rfl, hf, hb1⟩
  have B1 := Lib.hid hb1
  clear hb1 HI
  rcases hf with ⟨k, hklt, rfl, hkc, hkn⟩ | ⟨rfl, hno⟩
  · simp at hklt
  · clear hno
    go_wp2_with fail
    go_ret
    exact ⟨rfl, B1.out⟩

set_option maxHeartbeats 1600000 in
set_option maxRecDepth 100000 in
theorem rwithout_any {w : World} {v : Value} {l : List Ent} (hv : Ents w v l) (hl : l.length ≤ 4294967) (ko kc : List UInt8) (k1 k2 k3 k4 k5 : Bool) :
    Calls Try.prog 69 #[v, .agg #[.string ⟨ko.toArray⟩, .string ⟨kc.toArray⟩, .bool k1, .bool k2, .bool k3, .bool k4, .bool k5]] w fun e w' => ∃ u, e = .returned u ∧ OwnS entVals 7 49 w' w.heap.size u (dropO entIs l ⟨ko, kc, ⟨k1, k2, k3, k4, k5⟩⟩) ∧ Below w.heap.size w w' := by
  have bn := bl_newZ w (.cells #[.string ⟨ko.toArray⟩, .string ⟨kc.toArray⟩, .bool k1, .bool k2, .bool k3, .bool k4, .bool k5] 49)
  have B0 := Lib.hid bn
  have HS := Lib.hid (show (w.alloc (.cells #[.string ⟨ko.toArray⟩, .string ⟨kc.toArray⟩, .bool k1, .bool k2, .bool k3, .bool k4, .bool k5] 49)).heap.size = w.heap.size + 1 by simp)
  have K0 := Lib.hid (cells7_made w ⟨ko, kc, ⟨k1, k2, k3, k4, k5⟩⟩ 49)
  have HC := Lib.hid (ent_clone (hv.later bn).rdS hl)
  have hmf : ∀ (fn : Fn) (first cap : Array Value) (w : World), (Instr.makeFunc fn first cap).run Try.prog w = .ok (.func fn first cap) w := fun _ _ _ _ => rfl
  obtain ⟨a, cap, rfl, hm⟩ := hv.open'
  clear hv bn
  go_enter Try.func69, Try.ntmps69
  go_wp2_with fail
  refine HC.out.mono ?_
  rintro e w1 ⟨u, rfl, ho, b1⟩
  have B1 := Lib.hid (below2Z B0.out b1)
  have K1 := Lib.hid (K0.out.later b1)
  have hsz := b1.size
  rw [HS.out] at ho hsz
  have HO := Lib.hid ho
  rcases ho.2 with ⟨rfl, h0⟩ | ⟨g, cp, cur, rfl, -, -, -, -, -, -⟩
  · obtain rfl : l = [] := List.length_eq_zero_iff.1 h0
    have HD := Lib.hid (edeletef_nil K1.out)
    clear ho b1 h0
    go_wp2_with fail
    refine HD.out.mono ?_
    rintro e w2 ⟨rfl, b2⟩
    have B2 := Lib.hid (below2Z B1.out b2)
    clear b2
    go_wp2_with fail
    go_ret
    exact ⟨_, rfl, ownS_nil _ _, B2.out⟩
  · have HD := Lib.hid (edeletef_some HO.out K1.out (by omega) (by omega))
    clear ho b1
    go_wp2_with fail
    refine HD.out.mono ?_
    rintro e w2 ⟨y, rfl, ho2, b2⟩
    have B2 := Lib.hid (B1.out.trans (b2.mono (by omega)))
    have O2 := Lib.hid (ownS_low ho2 (show w.heap.size ≤ w.heap.size + 1 by omega))
    clear b2 ho2
    go_wp2_with fail
    go_ret
    exact ⟨_, rfl, O2.out, B2.out⟩

end Go.Proofs.Ytfkadkopolenbaa

end

section

/-
  FOR THE FRAMES: a slice of structs that came in, opened; over any program.
-/
namespace Go.Proofs.Ytfkadkopolenbaa
open Go.ChangeShapes Go.WideShapes Go.ChangeAt Go.RowKit Go.Deep

theorem choose_S {α : Type} (zero : α) {n : Nat} {Q : Nat → α → Prop} (h : ∀ i, i < n → ∃ r, Q i r) : ∃ t : List α, t.length = n ∧ ∀ i, i < n → Q i (t.getD i zero) := by
  induction n with
  | zero => exact ⟨[], rfl, fun i hi => absurd hi (by omega)⟩
  | succ n ih =>
    obtain ⟨t, hl, ht⟩ := ih fun i hi => h i (by omega)
    obtain ⟨r, hr⟩ := h n (by omega)
    refine ⟨t ++ [r], by simp [hl], fun i hi => ?_⟩
    by_cases hin : i < n
    · have := ht i hin
      simp only [List.getD] at this ⊢
      rwa [List.getElem?_append_left (by omega)]
    · obtain rfl : i = n := by omega
      simp only [List.getD]
      rw [List.getElem?_append_right (by omega), hl]
      simpa using hr

/-- A slice of structs that came in. -/
theorem open_rdS {α : Type} {P : Program} {vals : α → List Value} {sz : Nat} {zero : α} {T S : TypeId} {Z : Value} {bytes : Nat} (D : RowOK P vals sz zero T S Z bytes) (hcells : P.cellsOf T = sz)
    {H : Type} {enc : TypeId × Value → H} {w : World} {base : Nat} {spare : Nat → Bool} {held : Bool} {ok : α → Prop}
    (helem : ∀ fuel cs x, DataW.trod enc P w base spare held fuel T cs = some x → ∃ r, cs = vals r ∧ ok r)
    {r : Reach} {b0 : Nat} {v : Value} {d : DataW H} {p : List MemPlace} (hv : Value.okWide P w r b0 S v) (h : DataW.Trod enc P w base spare held S v d p) :
    ∃ t : List α, RdS vals sz zero w v t ∧ ∀ r ∈ t, ok r := by
  obtain ⟨a, len, cap, rfl⟩ := okWide_slice D.under hv
  obtain ⟨fuel, hf⟩ := h
  rcases open_slice D.under hf with ⟨hcs, _⟩ | ⟨x, l, c, m, n, D', Pl, hcs, _, hl, hm, hmm, _, hi⟩
  · simp [Value.cells] at hcs
    obtain ⟨rfl, rfl, rfl⟩ := hcs
    exact ⟨[], rdS_nil w, by simp⟩
  · simp [Value.cells] at hcs
    obtain ⟨rfl, rfl, rfl⟩ := hcs
    have hlm : len ≤ m := by rw [hmm]; split <;> omega
    rw [hcells] at hi
    obtain ⟨t, htl, ht⟩ := choose_S zero (n := len) (Q := fun i r => (∀ j u, (vals r)[j]? = some u → w.cell? ((x.add (i * sz)).add j) = some u) ∧ ok r) (fun i hil => by
      obtain ⟨cs', hc, htr⟩ := hi i (by omega)
      obtain ⟨_, hcl, hat⟩ := World.cells?_some hc
      obtain ⟨r, rfl, w1⟩ := helem _ _ _ htr
      refine ⟨r, fun j u hu => ?_, w1⟩
      have hj : j < sz := by have := (List.getElem?_eq_some_iff.1 hu).1; rwa [D.len] at this
      rw [hat j hj, hu])
    refine ⟨t, ⟨some x, cap, by rw [htl], by omega, by omega, (fun e => by cases e), ?_⟩, fun r hr => ?_⟩
    · by_cases h0 : len = 0
      · exact .inl (List.length_eq_zero_iff.1 (by omega))
      · obtain ⟨b, off, spot⟩ := x
        have hne : 0 < (vals (t.getD 0 zero)).length := by rw [D.len]; exact D.pos
        have hc := (ht 0 (by omega)).1 0 _ (List.getElem?_eq_getElem hne)
        have hspot : spot = none := by simpa [Addr.add] using World.cell?_spot hc
        subst hspot
        refine .inr ⟨b, off, rfl, ?_, fun i hil => fun j u hu => ?_⟩
        · have := World.block_lt_of_cell? w _ hc
          simpa [Addr.add] using this
        · have := (ht i (by omega)).1 j u hu
          rwa [Addr.add_lit, Addr.add_lit] at this
    · obtain ⟨i, hil, rfl⟩ := List.getElem_of_mem hr
      have := (ht i (by omega)).2
      rwa [List.getD_eq_getElem?_getD, List.getElem?_eq_getElem hil] at this

end Go.Proofs.Ytfkadkopolenbaa

end

section

/-
  FOR THE FRAMES OF LAYER 8's PROOFS: entries, moves, and texts' arrays that came in, opened.
-/
namespace Go.Proofs.Ytfkadkopolenbaa
open Go.ChangeShapes Go.WideShapes Go.ChangeAt Go.RowKit Go.Deep

/-- A move: what a user does to another one. -/
structure RMov where
  k : Int
  u : List UInt8
  o : List UInt8

def RMov.zero : RMov := ⟨0, [], []⟩

def rmovVals (m : RMov) : List Value := [.int .i64 m.k, .string ⟨m.u.toArray⟩, .string ⟨m.o.toArray⟩]

def rmovFit (m : RMov) : Prop := (Lit.int .i64 m.k).wf = true

theorem rmovOK : RowOK Try.prog rmovVals 3 RMov.zero 33 39 (.agg #[.int .i64 0, .string ⟨#[]⟩, .string ⟨#[]⟩]) 40 where
  len _ := rfl
  one a u hu := by
    simp only [rmovVals, List.mem_cons, List.not_mem_nil, or_false] at hu
    rcases hu with rfl | rfl | rfl <;> rfl
  pos := by decide
  small := by decide
  under := Try.underlying39
  info := by kernel_rfl
  zvals := rfl
  fits := by decide

section
variable {H : Type} {enc : TypeId × Value → H} {w : World} {base : Nat} {spare : Nat → Bool} {held : Bool}

theorem list3R {α : Type} {l : List α} (h : l.length = 3) : ∃ a b c, l = [a, b, c] := by
  match l, h with
  | [a, b, c], _ => exact ⟨a, b, c, rfl⟩

theorem list5R {α : Type} {l : List α} (h : l.length = 5) : ∃ a b c d e, l = [a, b, c, d, e] := by
  match l, h with
  | [a, b, c, d, e], _ => exact ⟨a, b, c, d, e, rfl⟩

theorem list7R {α : Type} {l : List α} (h : l.length = 7) : ∃ a b c d e f g, l = [a, b, c, d, e, f, g] := by
  match l, h with
  | [a, b, c, d, e, f, g], _ => exact ⟨a, b, c, d, e, f, g, rfl⟩

theorem trod_boolR {fuel : Nat} {cs : List Value} {x : DataW H × List MemPlace} (h : DataW.trod enc Try.prog w base spare held fuel 4 cs = some x) : ∃ b, cs = [.bool b] := by
  obtain ⟨b, hb, _⟩ := DataW.trod_bool Try.underlying4 h
  exact ⟨b, hb⟩

theorem trod_textR {fuel : Nat} {cs : List Value} {x : DataW H × List MemPlace} (h : DataW.trod enc Try.prog w base spare held fuel 9 cs = some x) : ∃ l : List UInt8, cs = [.string ⟨l.toArray⟩] := by
  obtain ⟨s, e, _, _⟩ := DataW.trod_string Try.underlying9 h
  exact ⟨s.data.toList, by rw [e]⟩

set_option maxRecDepth 100000 in
theorem trod_itR {fuel : Nat} {cs : List Value} {x : DataW H × List MemPlace} (h : DataW.trod enc Try.prog w base spare held fuel 26 cs = some x) :
    ∃ v : It, cs = [.bool v.to, .bool v.fr, .bool v.out, .bool v.inn, .bool v.bl] := by
  obtain ⟨xs, n, _, _, hl, hx, hf⟩ := DataW.trod_struct Try.underlying26 h
  have c35 : Try.prog.cellsOf 26 = 5 := by kernel_rfl
  have c3 : Try.prog.cellsOf 4 = 1 := by kernel_rfl
  rw [c35] at hl
  obtain ⟨a, b, c, d, e, rfl⟩ := list5R hl
  have get : ∀ i, i < 5 → xs[i]? = some (xs.getD i (.nil, [])) := fun i hi => by
    have : i < xs.length := by rw [hx]; exact hi
    simp [List.getD, List.getElem?_eq_getElem this]
  have f0 : DataW.trod enc Try.prog w base spare held n 4 (([a, b, c, d, e].drop 0).take (Try.prog.cellsOf 4)) = some (xs.getD 0 (.nil, [])) := (hf 0 _ rfl).trans (get 0 (by omega))
  have f1 : DataW.trod enc Try.prog w base spare held n 4 (([a, b, c, d, e].drop 1).take (Try.prog.cellsOf 4)) = some (xs.getD 1 (.nil, [])) := (hf 1 _ rfl).trans (get 1 (by omega))
  have f2 : DataW.trod enc Try.prog w base spare held n 4 (([a, b, c, d, e].drop 2).take (Try.prog.cellsOf 4)) = some (xs.getD 2 (.nil, [])) := (hf 2 _ rfl).trans (get 2 (by omega))
  have f3 : DataW.trod enc Try.prog w base spare held n 4 (([a, b, c, d, e].drop 3).take (Try.prog.cellsOf 4)) = some (xs.getD 3 (.nil, [])) := (hf 3 _ rfl).trans (get 3 (by omega))
  have f4 : DataW.trod enc Try.prog w base spare held n 4 (([a, b, c, d, e].drop 4).take (Try.prog.cellsOf 4)) = some (xs.getD 4 (.nil, [])) := (hf 4 _ rfl).trans (get 4 (by omega))
  rw [c3] at f0 f1 f2 f3 f4
  obtain ⟨z0, e0⟩ := trod_boolR f0
  obtain ⟨z1, e1⟩ := trod_boolR f1
  obtain ⟨z2, e2⟩ := trod_boolR f2
  obtain ⟨z3, e3⟩ := trod_boolR f3
  obtain ⟨z4, e4⟩ := trod_boolR f4
  simp at e0 e1 e2 e3 e4
  subst e0 e1 e2 e3 e4
  exact ⟨⟨z0, z1, z2, z3, z4⟩, rfl⟩

set_option maxRecDepth 100000 in
theorem trod_entR (fuel : Nat) (cs : List Value) (x : DataW H × List MemPlace) (h : DataW.trod enc Try.prog w base spare held fuel 49 cs = some x) :
    ∃ s : Ent, cs = entVals s ∧ True := by
  obtain ⟨xs, n, _, _, hl, hx, hf⟩ := DataW.trod_struct Try.underlying49 h
  have c6 : Try.prog.cellsOf 49 = 7 := by kernel_rfl
  have c4 : Try.prog.cellsOf 26 = 5 := by kernel_rfl
  have c9 : Try.prog.cellsOf 9 = 1 := by kernel_rfl
  rw [c6] at hl
  obtain ⟨a, b, c, d, e, f, g, rfl⟩ := list7R hl
  have get : ∀ i, i < 3 → xs[i]? = some (xs.getD i (.nil, [])) := fun i hi => by
    have : i < xs.length := by rw [hx]; exact hi
    simp [List.getD, List.getElem?_eq_getElem this]
  have f0 : DataW.trod enc Try.prog w base spare held n 9 (([a, b, c, d, e, f, g].drop 0).take (Try.prog.cellsOf 9)) = some (xs.getD 0 (.nil, [])) := (hf 0 _ rfl).trans (get 0 (by omega))
  have f1 : DataW.trod enc Try.prog w base spare held n 9 (([a, b, c, d, e, f, g].drop 1).take (Try.prog.cellsOf 9)) = some (xs.getD 1 (.nil, [])) := (hf 1 _ rfl).trans (get 1 (by omega))
  have f2 : DataW.trod enc Try.prog w base spare held n 26 (([a, b, c, d, e, f, g].drop 2).take (Try.prog.cellsOf 26)) = some (xs.getD 2 (.nil, [])) := (hf 2 _ rfl).trans (get 2 (by omega))
  rw [c9] at f0 f1
  rw [c4] at f2
  obtain ⟨u, e0⟩ := trod_textR f0
  obtain ⟨z, e1⟩ := trod_textR f1
  obtain ⟨v, e2⟩ := trod_itR f2
  simp at e0 e1 e2
  obtain ⟨rfl, rfl, rfl, rfl, rfl⟩ := e2
  subst e0 e1
  exact ⟨⟨u, z, v⟩, rfl, trivial⟩

set_option maxRecDepth 100000 in
/-- Entries that came in. -/
theorem open_ents {r : Reach} {b0 : Nat} {v : Value} {d : DataW H} {p : List MemPlace} (hv : Value.okWide Try.prog w r b0 22 v) (h : DataW.Trod enc Try.prog w base spare held 22 v d p) :
    ∃ l : List Ent, Ents w v l := by
  obtain ⟨l, h1, _⟩ := open_rdS (ok := fun _ => True) entOK (by kernel_rfl) trod_entR hv h
  exact ⟨l, h1.ents⟩

theorem trod_intR {fuel : Nat} {cs : List Value} {x : DataW H × List MemPlace} (h : DataW.trod enc Try.prog w base spare held fuel 3 cs = some x) : ∃ z, cs = [.int .i64 z] ∧ (Lit.int .i64 z).wf = true := by
  obtain ⟨z, e, _, hw⟩ := DataW.trod_int Try.underlying3 h
  exact ⟨z, e, hw⟩

set_option maxRecDepth 100000 in
theorem trod_rmov (fuel : Nat) (cs : List Value) (x : DataW H × List MemPlace) (h : DataW.trod enc Try.prog w base spare held fuel 33 cs = some x) :
    ∃ r : RMov, cs = rmovVals r ∧ rmovFit r := by
  obtain ⟨xs, n, _, _, hl, hx, hf⟩ := DataW.trod_struct Try.underlying33 h
  have c3 : Try.prog.cellsOf 33 = 3 := by kernel_rfl
  have c1 : Try.prog.cellsOf 3 = 1 := by kernel_rfl
  have c0 : Try.prog.cellsOf 9 = 1 := by kernel_rfl
  rw [c3] at hl
  obtain ⟨a, b, c, rfl⟩ := list3R hl
  have get : ∀ i, i < 3 → xs[i]? = some (xs.getD i (.nil, [])) := fun i hi => by
    have : i < xs.length := by rw [hx]; exact hi
    simp [List.getD, List.getElem?_eq_getElem this]
  have f0 : DataW.trod enc Try.prog w base spare held n 3 (([a, b, c].drop 0).take (Try.prog.cellsOf 3)) = some (xs.getD 0 (.nil, [])) := (hf 0 _ rfl).trans (get 0 (by omega))
  have f1 : DataW.trod enc Try.prog w base spare held n 9 (([a, b, c].drop 1).take (Try.prog.cellsOf 9)) = some (xs.getD 1 (.nil, [])) := (hf 1 _ rfl).trans (get 1 (by omega))
  have f2 : DataW.trod enc Try.prog w base spare held n 9 (([a, b, c].drop 2).take (Try.prog.cellsOf 9)) = some (xs.getD 2 (.nil, [])) := (hf 2 _ rfl).trans (get 2 (by omega))
  rw [c0] at f1 f2
  rw [c1] at f0
  obtain ⟨z, e0, w0⟩ := trod_intR f0
  obtain ⟨u, e1⟩ := trod_textR f1
  obtain ⟨o, e2⟩ := trod_textR f2
  simp at e0 e1 e2
  subst e0 e1 e2
  exact ⟨⟨z, u, o⟩, rfl, w0⟩

def RMovsAt (w : World) (v : Value) (l : List RMov) : Prop := RdS rmovVals 3 RMov.zero w v l ∧ ∀ m ∈ l, rmovFit m

set_option maxRecDepth 100000 in
/-- Moves that came in. -/
theorem open_rmoves {r : Reach} {b0 : Nat} {v : Value} {d : DataW H} {p : List MemPlace} (hv : Value.okWide Try.prog w r b0 39 v) (h : DataW.Trod enc Try.prog w base spare held 39 v d p) :
    ∃ l : List RMov, RMovsAt w v l := by
  obtain ⟨t, h1, h2⟩ := open_rdS (ok := rmovFit) rmovOK (by kernel_rfl) trod_rmov hv h
  exact ⟨t, h1, h2⟩

set_option maxRecDepth 100000 in
/-- A move that came in. -/
theorem open_rmove {r : Reach} {b0 : Nat} {v : Value} {d : DataW H} {p : List MemPlace} (hv : Value.okWide Try.prog w r b0 33 v) (h : DataW.Trod enc Try.prog w base spare held 33 v d p) :
    ∃ s : RMov, v = .agg #[.int .i64 s.k, .string ⟨s.u.toArray⟩, .string ⟨s.o.toArray⟩] ∧ rmovFit s := by
  obtain ⟨cs, rfl, _⟩ := okWide_struct Try.underlying33 hv
  obtain ⟨fuel, hf⟩ := h
  obtain ⟨s, hc, w1⟩ := trod_rmov _ _ _ hf
  refine ⟨s, ?_, w1⟩
  obtain ⟨l⟩ := cs
  simp [Value.cells, rmovVals] at hc
  rw [hc]

end

end Go.Proofs.Ytfkadkopolenbaa

end

section

/-
  ROWS OF TEXTS IN MEMORY, over any program: what they hold, and what append makes of them.
-/
namespace Go.Proofs.Ytfkadkopolenbaa
open Go.RowKit

theorem cell_after {w w' : World} {a : Addr} {v : Value} (h : w.cell? a = some v) (hb : Below w.heap.size w w') : w'.cell? a = some v :=
  (hb.cell (World.block_lt_of_cell? w a h)).trans h

/-- A text as a cell's value. -/
def encS (l : List UInt8) : Value := .string ⟨l.toArray⟩

/-- Which list of texts a slice holds. -/
def Texts (w : World) (v : Value) (ls : List (List UInt8)) : Prop :=
  ∃ a cap, v = .slice a ls.length cap ∧ ls.length ≤ cap ∧ cap ≤ maxLen ∧ (a = none → cap = 0) ∧
    (ls = [] ∨ ∃ b off, a = some ⟨b, off, none⟩ ∧ b < w.heap.size ∧ ∀ i, i < ls.length → w.cell? ⟨b, off + i, none⟩ = some (encS (ls.getD i [])))

theorem Texts.later {w w' : World} {v : Value} {ls : List (List UInt8)} (h : Texts w v ls) (hb : Below w.heap.size w w') : Texts w' v ls := by
  obtain ⟨a, cap, h1, h2, h3, h4, h5⟩ := h
  refine ⟨a, cap, h1, h2, h3, h4, ?_⟩
  rcases h5 with h5 | ⟨b, off, e, hlt, hc⟩
  · exact .inl h5
  · exact .inr ⟨b, off, e, Nat.lt_of_lt_of_le hlt hb.size, fun i hi => (hb.cell (p := ⟨b, off + i, none⟩) hlt).trans (hc i hi)⟩

theorem texts_nil (w : World) : Texts w (.slice none 0 0) [] := ⟨none, 0, rfl, by simp, by simp, fun _ => rfl, .inl rfl⟩

theorem texts_of_strs {w : World} {a : Option Addr} {len cap : Nat} {ss : List ByteArray} (h : IsStrs w a len cap ss) : ∃ ls, Texts w (.slice a len cap) ls ∧ ls.length = len ∧ ∀ l ∈ ls, l.length ≤ maxLen := by
  obtain ⟨ls, h1, h2, h3, h4⟩ := h.form
  refine ⟨ls, ⟨a, cap, by rw [h1], ?_, ?_, ?_, ?_⟩, h1, h4⟩
  · rcases h with ⟨_, rfl, rfl, _⟩ | ⟨x, _, hl, _, _⟩ <;> omega
  · rcases h with ⟨_, _, rfl, _⟩ | ⟨x, _, _, hm, _⟩
    · simp
    · exact hm
  · rcases h with ⟨_, _, rfl, _⟩ | ⟨x, e, _⟩
    · exact fun _ => rfl
    · intro e'; rw [e] at e'; cases e'
  · rcases h3 with h3 | ⟨b, off, e, hlt, hc⟩
    · exact .inl (List.length_eq_zero_iff.1 (by omega))
    · exact .inr ⟨b, off, e, hlt, fun i hi => hc i (by omega)⟩

theorem encS_one (ls : List (List UInt8)) : ∀ u ∈ ls.map encS, u.oneCell' = true := by
  intro u hu
  obtain ⟨l, _, rfl⟩ := List.mem_map.1 hu
  rfl

/-- A row of the call's own. -/
theorem texts_of_own {w : World} {base e : Nat} {v : Value} {ls : List (List UInt8)} (h : w.ownsRow base e 1 v ls.length (ls.map encS)) : Texts w v ls := by
  rcases h with ⟨_, ⟨rfl, h0⟩ | ⟨g, cap, cur, rfl, hb, hg, hn, hc, hsz, htk⟩⟩
  · obtain rfl : ls = [] := List.length_eq_zero_iff.1 h0
    exact texts_nil w
  · refine ⟨some ⟨g, 0, none⟩, cap, rfl, hn, hc, (fun e => by cases e), ?_⟩
    refine .inr ⟨g, 0, rfl, (Array.getElem?_eq_some_iff.1 hg).1, fun i hi => ?_⟩
    rw [Nat.zero_add, cell_of_row w g i cur e (0, 0) hg]
    have h1 : cur.toList[i]? = (ls.map encS)[i]? := by
      rw [← htk, List.getElem?_take, if_pos (by omega)]
    have h2 : (ls.map encS)[i]? = some (encS (ls.getD i [])) := by
      simp [List.getD, List.getElem?_eq_getElem hi]
    rw [← h2, ← h1]
    simp

/-- A row of texts of the call's own. -/
def OwnT (w : World) (base e : Nat) (v : Value) (ls : List (List UInt8)) : Prop := w.ownsRow base e 1 v ls.length (ls.map encS)

theorem OwnT.alloc {w : World} {base e : Nat} {v : Value} {ls : List (List UInt8)} (h : OwnT w base e v ls) (o : Obj) : OwnT (w.alloc o) base e v ls := World.ownsRow.alloc h o
theorem OwnT.texts {w : World} {base e : Nat} {v : Value} {ls : List (List UInt8)} (h : OwnT w base e v ls) : Texts w v ls := texts_of_own h
theorem ownT_made (w : World) (e : Nat) : OwnT (w.alloc (.cells #[] e)) w.heap.size e (.slice (some ⟨w.heap.size, 0, none⟩) 0 0) [] := World.ownsRow_made w #[] 0 (Nat.le_refl _) (by decide) rfl

/-- 'out = append(out, src...)', out nil or a row of the call's own, src whatever (its address any term). -/
theorem wpList_append_texts {P : Program} {w : World} {ops : Array Oper} {rest : List Oper} {o : Oper} {a : Act} {Q : Exit → Act → World → Prop}
    (hgd : o.guard = none) (s x : Operand) (t : TypeId) (ho : o.op = .call { callee := .builtin .append, args := #[s, x], argTypes := #[t, t] })
    (base : Nat) (e : TypeId) (i : TypeInfo) (z : Value) (bytes : Nat) (ht : P.underlying t = some (.slice e)) (hi : P.info? e = some i) (hz : i.zero = some z)
    (hsize : i.size = 1) (hby : i.bytes = bytes) (hzs : z.cells.size = 1)
    (v : Value) (ls : List (List UInt8)) (hs : a.eval s = v) (hown : OwnT w base e v ls)
    (ao : Option Addr) (m c : Nat) (ms : List (List UInt8)) (hx : a.eval x = .slice ao m c) (hm : m = ms.length) (hnone : ao = none → c = 0 ∧ ms = [])
    (hsome : ∀ ad, ao = some ad → ∀ j u, (ms.map encS)[j]? = some u → w.cell? (ad.add j) = some u)
    (hlen : ls.length + ms.length < 4294967296) (hb : bytes ≤ 4096) (hbase : base ≤ w.heap.size)
    (h : ∀ v' w', OwnT w' base e v' (ls ++ ms) → Below base w w' → wpList P ops Q rest (a.put o.dst v') w') :
    wpList P ops Q (o :: rest) a w := by
  cases ao with
  | none =>
    obtain ⟨rfl, rfl⟩ := hnone rfl
    simp only [List.length_nil] at hm
    subst hm
    exact wpList_append_own_none hgd s x t ho base e i 1 ht hi v ls.length (ls.map encS) hs hown hx (h v w (by simpa using hown) (Below.refl _ _))
  | some ad =>
    subst hm
    refine wpList_append_own _ hgd s x t ho base e i z 1 bytes ht hi hz hsize hby hzs (by decide) v ls.length (ls.map encS) hs hown ad ms.length c (ms.map encS) hx (by simp) (hsome ad rfl) (encS_one ms)
      (by unfold maxLen; omega) (Nat.le_trans (Nat.mul_le_mul (show ls.length + ms.length ≤ 4294967296 by omega) hb) (by decide)) hbase ?_
    intro v' w' hown' hgrow _
    refine h v' w' ?_ ((Below.refl base w).grown hgrow hbase (fun k hk => (World.ownsRow.lt hown k hk).1))
    unfold OwnT
    rw [List.map_append, List.length_append]
    exact hown'

end Go.Proofs.Ytfkadkopolenbaa

end

section

/-
  LAYER 8: the Contacts of an Owner, the document's and the code's.
-/
namespace Go.Proofs.Ytfkadkopolenbaa
open Go.RowKit

theorem Try.infoTxt : (Try.prog.info? 9).map (fun i => (i.zero, i.size, i.bytes)) = some (some (.string ⟨#[]⟩), 1, 16) := by kernel_rfl

theorem new_cellR {w : World} {u : Value} {e : TypeId} : ∀ ad, some (⟨w.heap.size, 0, none⟩ : Addr) = some ad → ∀ j v, ([u] : List Value)[j]? = some v → (w.alloc (.cells #[u] e)).cell? (ad.add j) = some v := by
  intro ad had j v hv
  obtain rfl := Option.some.inj had
  exact cells_one w u e j v hv

theorem new_cellN {w : World} {u : Value} {e : TypeId} {B : Nat} (hB : B = w.heap.size) : ∀ ad, some (⟨B, 0, none⟩ : Addr) = some ad → ∀ j v, ([u] : List Value)[j]? = some v → (w.alloc (.cells #[u] e)).cell? (ad.add j) = some v := by
  subst hB
  exact new_cellR

theorem roOf_succ {l : List Ent} {k : Nat} (hk : k < l.length) (o : List UInt8) : roOf (l.take (k + 1)) o = if (l.getD k Ent.zero).o = o then roOf (l.take k) o ++ [(l.getD k Ent.zero).c] else roOf (l.take k) o := by
  unfold roOf
  rw [List.take_succ_eq_append_getElem hk, getD_at hk, List.filter_append, List.map_append]
  by_cases h : l[k].o = o
  · rw [if_pos h, List.filter_cons, if_pos (by simp [ofOwner, h])]
    rfl
  · rw [if_neg h, List.filter_cons, if_neg (by simp [ofOwner, h])]
    simp

theorem roOf_le (l : List Ent) (o : List UInt8) : (roOf l o).length ≤ l.length := by
  rw [roOf_len]
  exact List.length_filter_le _ _

set_option maxHeartbeats 1600000 in
set_option maxRecDepth 100000 in
theorem rof_any {w : World} {v : Value} {l : List Ent} (hv : Ents w v l) (hl : l.length ≤ 4294967) (o : List UInt8) :
    Calls Try.prog 23 #[v, .string ⟨o.toArray⟩] w fun e w' => ∃ u, e = .returned u ∧ OwnT w' w.heap.size 9 u (roOf l o) ∧ Below w.heap.size w w' := by
  obtain ⟨i0, hi, hz0, hz1, hz2⟩ := info_parts Try.infoTxt
  have HV := Lib.hid hv
  obtain ⟨a, cap, rfl, _⟩ := hv.open'
  clear hv
  go_enter Try.func23, Try.ntmps23
  go_wp2_with fail
  go_loopw [5, 6] (fun s i wr => ∃ k : Nat, k ≤ l.length ∧ i = .int .i64 k ∧ Hid (OwnT wr w.heap.size 9 s (roOf (l.take k) o)) ∧ Hid (Below w.heap.size w wr)) (fun _ i _ => l.length - (intOf i).toNat)
  case atStart => exact ⟨0, by omega, rfl, World.ownsRow_nil _ _ _ _, Below.refl _ _⟩
  case round =>
    obtain ⟨k, hk, rfl, HO, HN⟩ := hrel
    by_cases hlt : k < l.length
    · obtain ⟨b, off, rfl, h0, h1, _⟩ := HV.out.row HN.out k hlt
      have hX := roOf_succ hlt o
      obtain ⟨⟨eo, c, it⟩, hr⟩ : ∃ r, l.getD k Ent.zero = r := ⟨_, rfl⟩
      rw [hr] at h0 h1 hX
      simp only at h0 h1 hX
      clear hr
      by_cases ho : eo = o
      · rw [if_pos ho] at hX
        have HX := Lib.hid hX
        subst ho
        have O2 := Lib.hid (HO.out.alloc (.cells #[.string ⟨c.toArray⟩] 9))
        have N2 := Lib.hid (bl_allocS HN.out (.cells #[.string ⟨c.toArray⟩] 9))
        have hz3 := N2.out.size
        have hcl : (roOf (l.take k) eo).length ≤ 4294967 := by have := roOf_le (l.take k) eo; rw [List.length_take] at this; omega
        clear hX HO
        go_wp2_with (at_builtin; go_must (refine wpList_append_texts rfl _ _ 29 rfl w.heap.size 9 i0 _ 16 Try.underlying29 hi hz0 hz1 hz2 rfl _ (roOf (l.take k) eo) rfl (by exact O2.out) _ 1 1 [c] rfl rfl (fun e => nomatch e) ?c1 (by simp only [List.length_cons, List.length_nil]; omega) (by decide) hz3 ?_))
        case c1 => exact new_cellR
        intro v' w' hown' hb'
        rw [← HX.out] at hown'
        have O3 := Lib.hid hown'
        have N3 := Lib.hid (N2.out.trans hb')
        clear hown' hb' O2 h0 h1
        go_wp2_with fail
        go_roundw
        case rel => exact ⟨k + 1, by omega, by go_num, O3, N3⟩
        case measure => simp [intOf]; omega
      · rw [if_neg ho] at hX
        have o3 := HO.out
        rw [← hX] at o3
        have O3 := Lib.hid o3
        clear o3
        have t1 : (eo == o) = false := by rw [beq_eq_false_iff_ne]; exact ho
        clear hX HO ho
        go_wp2_with fail
        go_roundw
        case rel => exact ⟨k + 1, by omega, by go_num, O3, HN⟩
        case measure => simp [intOf]; omega
    · obtain rfl : k = l.length := by omega
      have ht := HO.out
      rw [List.take_length] at ht
      have HT := Lib.hid ht
      clear ht
      go_wp2_with fail
      go_ret
      exact ⟨_, rfl, HT.out, HN.out⟩

set_option maxHeartbeats 1600000 in
set_option maxRecDepth 100000 in
theorem of_any {w : World} {v : Value} {l : List Ent} (hv : Ents w v l) (hl : l.length ≤ 4294967) (o : List UInt8) :
    Calls Try.prog 22 #[v, .string ⟨o.toArray⟩] w fun e w' => ∃ u, e = .returned u ∧ OwnT w' w.heap.size 9 u (roOf l o) ∧ Below w.heap.size w w' := by
  obtain ⟨i0, hi, hz0, hz1, hz2⟩ := info_parts Try.infoTxt
  have HV := Lib.hid hv
  obtain ⟨a, cap, rfl, _⟩ := hv.open'
  clear hv
  go_enter Try.func22, Try.ntmps22
  go_wp2_with fail
  go_loopw [5, 10] (fun s i wr => ∃ k : Nat, k ≤ l.length ∧ i = .int .i64 k ∧ Hid (OwnT wr w.heap.size 9 s (roOf (l.take k) o)) ∧ Hid (Below w.heap.size w wr)) (fun _ i _ => l.length - (intOf i).toNat)
  case atStart => exact ⟨0, by omega, rfl, World.ownsRow_nil _ _ _ _, Below.refl _ _⟩
  case round =>
    obtain ⟨k, hk, rfl, HO, HN⟩ := hrel
    by_cases hlt : k < l.length
    · obtain ⟨b, off, rfl, h0, h1, h2, h3, h4, h5, h6⟩ := HV.out.row HN.out k hlt
      have hX := roOf_succ hlt o
      obtain ⟨⟨eo, c, ⟨i1, i2, i3, i4, i5⟩⟩, hr⟩ : ∃ r, l.getD k Ent.zero = r := ⟨_, rfl⟩
      rw [hr] at h0 h1 h2 h3 h4 h5 h6 hX
      simp only at h0 h1 h2 h3 h4 h5 h6 hX
      clear hr
      by_cases ho : eo = o
      · rw [if_pos ho] at hX
        have HX := Lib.hid hX
        subst ho
        have O2 := Lib.hid ((HO.out.alloc (.cells #[.string ⟨eo.toArray⟩, .string ⟨c.toArray⟩, .bool i1, .bool i2, .bool i3, .bool i4, .bool i5] 49)).alloc (.cells #[.string ⟨c.toArray⟩] 9))
        have N2 := Lib.hid (bl_allocS (bl_allocS HN.out (.cells #[.string ⟨eo.toArray⟩, .string ⟨c.toArray⟩, .bool i1, .bool i2, .bool i3, .bool i4, .bool i5] 49)) (.cells #[.string ⟨c.toArray⟩] 9))
        have hz3 := N2.out.size
        have hcl : (roOf (l.take k) eo).length ≤ 4294967 := by have := roOf_le (l.take k) eo; rw [List.length_take] at this; omega
        clear hX HO
        go_wp2_with (at_builtin; go_must (refine wpList_append_texts rfl _ _ 29 rfl w.heap.size 9 i0 _ 16 Try.underlying29 hi hz0 hz1 hz2 rfl _ (roOf (l.take k) eo) rfl (by exact O2.out) _ 1 1 [c] rfl rfl (fun e => nomatch e) ?c1 (by simp only [List.length_cons, List.length_nil]; omega) (by decide) hz3 ?_))
        case c1 => exact new_cellN (by simp)
        intro v' w' hown' hb'
        rw [← HX.out] at hown'
        have O3 := Lib.hid hown'
        have N3 := Lib.hid (N2.out.trans hb')
        clear hown' hb' O2 h0 h1 h2 h3 h4 h5 h6
        go_wp2_with fail
        go_roundw
        case rel => exact ⟨k + 1, by omega, by go_num, O3, N3⟩
        case measure => simp [intOf]; omega
      · rw [if_neg ho] at hX
        have o3 := HO.out.alloc (.cells #[.string ⟨eo.toArray⟩, .string ⟨c.toArray⟩, .bool i1, .bool i2, .bool i3, .bool i4, .bool i5] 49)
        rw [← hX] at o3
        have O3 := Lib.hid o3
        clear o3
        have N3 := Lib.hid (bl_allocS HN.out (.cells #[.string ⟨eo.toArray⟩, .string ⟨c.toArray⟩, .bool i1, .bool i2, .bool i3, .bool i4, .bool i5] 49))
        have t1 : (eo == o) = false := by rw [beq_eq_false_iff_ne]; exact ho
        clear hX HO ho
        go_wp2_with fail
        go_roundw
        case rel => exact ⟨k + 1, by omega, by go_num, O3, N3⟩
        case measure => simp [intOf]; omega
    · obtain rfl : k = l.length := by omega
      have ht := HO.out
      rw [List.take_length] at ht
      have HT := Lib.hid ht
      clear ht
      go_wp2_with fail
      go_ret
      exact ⟨_, rfl, HT.out, HN.out⟩

end Go.Proofs.Ytfkadkopolenbaa

end

section

/-
  LAYER 8, PLAIN: what rosters may be, as the document asks it entry by entry, and as the code asks it: the same. Set, put and dropped.
-/
namespace Go.Proofs.Ytfkadkopolenbaa

theorem entOrd : OrdOK entLt entIs where
  irrefl := entLt_irrefl
  trans _ _ _ := entLt_trans
  tri := entLt_tri
  same _ _ _ h := entLt_same h

/-- An entry is of two names, and stands behind the one ahead (the same words as riseAt). -/
def roRiseAt (l : List Ent) (i : Nat) : Bool :=
  idIs (l.getD i Ent.zero).o && (idIs (l.getD i Ent.zero).c && (!decide ((l.getD i Ent.zero).o = (l.getD i Ent.zero).c) && (decide (i = 0) || entLt (l.getD (i - 1) Ent.zero) (l.getD i Ent.zero))))

def roIt (l : List Ent) (o c : List UInt8) : It := match l.find? fun e => entIs e ⟨o, c, It.zero⟩ with
  | some e => e.it
  | none => It.zero

/-- Has it a counterpart that it may face, and not both empty? -/
def roPaired (l : List Ent) (e : Ent) : Bool :=
  (l.any fun x => entIs x ⟨e.c, e.o, It.zero⟩) && (suMay e.it (roIt l e.c e.o) && !(suEmpty e.it && suEmpty (roIt l e.c e.o)))

def roCodeAt (l : List Ent) (i : Nat) : Bool := !roOver l i && roPaired l (l.getD i Ent.zero)

/-- The code's May. -/
def roMayC (l : List Ent) : Bool := (List.range l.length).all (roRiseAt l) && (List.range l.length).all (roCodeAt l)

def roDocAt (l : List Ent) (i : Nat) : Bool := roRiseAt l i && (decide ((roOf l (l.getD i Ent.zero).o).length ≤ 16) && roPaired l (l.getD i Ent.zero))

/-- The document's May. -/
def roMayD (l : List Ent) : Bool := (List.range l.length).all (roDocAt l)

theorem roRise_rise {l : List Ent} (h : (List.range l.length).all (roRiseAt l) = true) : Rise l := by
  rw [List.all_eq_true] at h
  have step : ∀ k, k + 1 < l.length → entLt (l.getD k Ent.zero) (l.getD (k + 1) Ent.zero) = true := by
    intro k hk
    have := h (k + 1) (List.mem_range.2 hk)
    unfold roRiseAt at this
    simp only [Bool.and_eq_true, Bool.or_eq_true, decide_eq_true_eq] at this
    rcases this.2.2.2 with h0 | h0
    · omega
    · rwa [show k + 1 - 1 = k by omega] at h0
  have far : ∀ d i, i + (d + 1) < l.length → entLt (l.getD i Ent.zero) (l.getD (i + (d + 1)) Ent.zero) = true := by
    intro d
    induction d with
    | zero => intro i hi; exact step i hi
    | succ d ih =>
      intro i hi
      exact entLt_trans (ih i (by omega)) (step (i + (d + 1)) (by omega))
  refine List.pairwise_iff_getElem.2 fun i j hi hj hij => ?_
  obtain ⟨d, rfl⟩ : ∃ d, j = i + (d + 1) := ⟨j - i - 1, by omega⟩
  have := far d i hj
  rwa [getD_at hi, getD_at hj] at this

theorem roMay_same (l : List Ent) : roMayD l = roMayC l := by
  rw [Bool.eq_iff_iff]
  unfold roMayD roMayC
  rw [Bool.and_eq_true, List.all_eq_true, List.all_eq_true, List.all_eq_true]
  constructor
  · intro h
    have h1 : ∀ i ∈ List.range l.length, roRiseAt l i = true := fun i hi => by
      have := h i hi
      unfold roDocAt at this
      simp only [Bool.and_eq_true] at this
      exact this.1
    have hr : Rise l := roRise_rise (by rw [List.all_eq_true]; exact h1)
    have hov := (over_iff hr).1 (fun i hi => by
      have := h i (List.mem_range.2 hi)
      unfold roDocAt at this
      simp only [Bool.and_eq_true, decide_eq_true_eq] at this
      exact this.2.1)
    refine ⟨h1, fun i hi => ?_⟩
    have := h i hi
    unfold roDocAt at this
    simp only [Bool.and_eq_true] at this
    unfold roCodeAt
    rw [hov i (List.mem_range.1 hi), this.2.2]
    rfl
  · rintro ⟨h1, h2⟩ i hi
    have hr : Rise l := roRise_rise (by rw [List.all_eq_true]; exact h1)
    have hov := (over_iff hr).2 (fun i hi => by
      have := h2 i (List.mem_range.2 hi)
      unfold roCodeAt at this
      simp only [Bool.and_eq_true, Bool.not_eq_true'] at this
      exact this.1)
    have hc := h2 i hi
    unfold roCodeAt at hc
    simp only [Bool.and_eq_true] at hc
    unfold roDocAt
    rw [h1 i hi, hc.2, Bool.true_and, Bool.and_true]
    simpa using hov i (List.mem_range.1 hi)

theorem roMay_rise {l : List Ent} (h : roMayC l = true) : Rise l := by
  unfold roMayC at h
  rw [Bool.and_eq_true] at h
  exact roRise_rise h.1

/-- With it at its place, or without it. -/
def roSet (l : List Ent) (x : Ent) (keep : Bool) : List Ent := rsO entLt entIs x l (!keep)

theorem roSet_keep {l : List Ent} (hr : Rise l) (x : Ent) : roSet l x true = putO entLt entIs l x := rsO_put entOrd hr x
theorem roSet_drop (l : List Ent) (x : Ent) : roSet l x false = dropO entIs l x := rsO_drop l x

theorem roSet_rise {l : List Ent} (hr : Rise l) (x : Ent) (keep : Bool) : Rise (roSet l x keep) := by
  cases keep with
  | true => rw [roSet_keep hr]; exact rise_putO entOrd hr x
  | false => rw [roSet_drop]; exact rise_dropO hr x

/-- P8.2. -/
def roDo (l : List Ent) (k : Int) (u o : List UInt8) : List Ent × Nat :=
  if (roMayC l && (idIs u && (idIs o && (!decide (u = o) && (decide (1 ≤ k) && decide (k ≤ 6)))))) = true then
    (match suAct (roIt l u o) (roIt l o u) k with
    | (a, b, e) =>
      if e ≠ 0 then (l, e)
      else if (!(l.any fun x => entIs x ⟨u, o, It.zero⟩) && (decide (16 ≤ (roOf l u).length) || decide (16 ≤ (roOf l o).length))) = true then (l, 5)
      else (roSet (roSet l ⟨u, o, a⟩ (!(suEmpty a && suEmpty b))) ⟨o, u, b⟩ (!(suEmpty a && suEmpty b)), 0))
  else (l, 1)

end Go.Proofs.Ytfkadkopolenbaa

end

section

/-
  LAYER 8, THE CODE: with; isFull.
-/
namespace Go.Proofs.Ytfkadkopolenbaa
open Go.RowKit

theorem putO_here {l : List Ent} (hr : Rise l) {x : Ent} (h : (decide (entPlace l x < l.length) && entIs (l.getD (entPlace l x) Ent.zero) x) = true) : putO entLt entIs l x = l.set (entPlace l x) x := by
  have hany := (entPlace_there hr x).symm.trans h
  unfold putO
  cases hf : findO entIs l x with
  | none =>
    have := (findO_isSome (eq := entIs) (l := l) (x := x)).trans hany
    rw [hf] at this
    cases this
  | some i =>
    have := findO_place entOrd hr hf
    subst this
    rfl

theorem putO_new {l : List Ent} (hr : Rise l) {x : Ent} (h : (decide (entPlace l x < l.length) && entIs (l.getD (entPlace l x) Ent.zero) x) = false) : putO entLt entIs l x = putS l (entPlace l x) x := by
  have hany := (entPlace_there hr x).symm.trans h
  unfold putO
  cases hf : findO entIs l x with
  | none => rfl
  | some i =>
    have := (findO_isSome (eq := entIs) (l := l) (x := x)).trans hany
    rw [hf] at this
    cases this

set_option maxHeartbeats 1600000 in
set_option maxRecDepth 100000 in
theorem rwith_any {w : World} {v : Value} {l : List Ent} (hv : Ents w v l) (hr : Rise l) (hl : l.length ≤ 1000) (xo xc : List UInt8) (x1 x2 x3 x4 x5 : Bool) :
    Calls Try.prog 70 #[v, .agg #[.string ⟨xo.toArray⟩, .string ⟨xc.toArray⟩, .bool x1, .bool x2, .bool x3, .bool x4, .bool x5]] w fun e w' => ∃ u, e = .returned u ∧ OwnS entVals 7 49 w' w.heap.size u (putO entLt entIs l ⟨xo, xc, ⟨x1, x2, x3, x4, x5⟩⟩) ∧ Below w.heap.size w w' := by
  have bn := bl_newZ w (.cells #[.string ⟨xo.toArray⟩, .string ⟨xc.toArray⟩, .bool x1, .bool x2, .bool x3, .bool x4, .bool x5] 49)
  have B0 := Lib.hid bn
  have HS := Lib.hid (show (w.alloc (.cells #[.string ⟨xo.toArray⟩, .string ⟨xc.toArray⟩, .bool x1, .bool x2, .bool x3, .bool x4, .bool x5] 49)).heap.size = w.heap.size + 1 by simp)
  have K0 := Lib.hid (cells7_made w ⟨xo, xc, ⟨x1, x2, x3, x4, x5⟩⟩ 49)
  have HV := Lib.hid (hv.later bn)
  obtain ⟨p, hp⟩ : ∃ p, entPlace l ⟨xo, xc, ⟨x1, x2, x3, x4, x5⟩⟩ = p := ⟨_, rfl⟩
  obtain ⟨q, hq⟩ : ∃ q, (decide (p < l.length) && entIs (l.getD p Ent.zero) ⟨xo, xc, ⟨x1, x2, x3, x4, x5⟩⟩) = q := ⟨_, rfl⟩
  have HP := Lib.hid (place_any HV.out hr xo xc x1 x2 x3 x4 x5 hp hq)
  have hple : p ≤ l.length := by rw [← hp]; exact entPlace_le l _
  have HE : Hid (putO entLt entIs l ⟨xo, xc, ⟨x1, x2, x3, x4, x5⟩⟩ = if q = true then l.set p ⟨xo, xc, ⟨x1, x2, x3, x4, x5⟩⟩ else putS l p ⟨xo, xc, ⟨x1, x2, x3, x4, x5⟩⟩) := by
    show _ = _
    subst hp
    cases q with
    | true => rw [if_pos rfl]; exact putO_here hr hq
    | false => rw [if_neg (by decide)]; exact putO_new hr hq
  have HQ : Hid (q = true → p < l.length) := fun e => by
    rw [e, Bool.and_eq_true, decide_eq_true_eq] at hq
    exact hq.1
  generalize putO entLt entIs l ⟨xo, xc, ⟨x1, x2, x3, x4, x5⟩⟩ = R at HE ⊢
  obtain ⟨a, cap, rfl, hm⟩ := hv.open'
  clear hv bn hp hq
  cases q with
  | true =>
    have hlt := HQ.out rfl
    go_enter Try.func70, Try.ntmps70
    go_wp2_with fail
    refine HP.out.mono ?_
    rintro e w1 ⟨rfl, b1⟩
    have B1 := Lib.hid (below2Z B0.out b1)
    have K1 := Lib.hid (K0.out.later b1)
    have V1 := Lib.hid (HV.out.later b1)
    have hz1 := b1.size
    clear b1
    go_wp2_with fail
    refine (ent_clone V1.out.rdS (by omega)).mono ?_
    rintro e w2 ⟨u, rfl, ho, b2⟩
    have B2 := Lib.hid (below2Z B1.out b2)
    obtain ⟨k0, k1, k2, k3, k4, k5, k6⟩ := K1.out.later b2
    simp only [Nat.zero_add] at k0 k1 k2 k3 k4 k5 k6
    have HO := Lib.hid ho
    rw [HS.out] at hz1
    rcases ho.2 with ⟨rfl, h0⟩ | ⟨g, cp, cur, rfl, hbg, -, -, hcm, -, -⟩
    · omega
    · have n0 : (0 : Int) ≤ (p : Int) := by omega
      have n1 : (p : Int) < (l.length : Int) := by omega
      obtain ⟨s0, s1, s2, s3, s4, s5, s6⟩ := cells7_at.2 (HO.out.row entOK hlt)
      have f0 := HO.out.frozenAt (p * 7)
      have f1 := HO.out.frozenAt (p * 7 + 1)
      have f2 := HO.out.frozenAt (p * 7 + 2)
      have f3 := HO.out.frozenAt (p * 7 + 3)
      have f4 := HO.out.frozenAt (p * 7 + 4)
      have f5 := HO.out.frozenAt (p * 7 + 5)
      have f6 := HO.out.frozenAt (p * 7 + 6)
      have O3 := Lib.hid (ownS_low (setE_own HO.out hlt xo xc x1 x2 x3 x4 x5) (show w.heap.size ≤ w1.heap.size by omega))
      have N3 := Lib.hid (setE_below (o := p * 7) B2.out (show w.heap.size ≤ g by omega) xo xc x1 x2 x3 x4 x5)
      have HR := HE.out
      simp only [if_true] at HR
      have hid := Lib.hid HR
      clear ho b2 HR HE HQ
      go_wp2_with fail
      go_ret
      exact ⟨_, rfl, by rw [hid.out]; exact O3.out, N3.out⟩
  | false =>
    have HR := HE.out
    simp only [Bool.false_eq_true, if_false] at HR
    have hid := Lib.hid HR
    clear HR HE HQ
    go_enter Try.func70, Try.ntmps70
    go_wp2_with fail
    refine HP.out.mono ?_
    rintro e w1 ⟨rfl, b1⟩
    have B1 := Lib.hid (below2Z B0.out b1)
    have K1 := Lib.hid (K0.out.later b1)
    have V1 := Lib.hid (HV.out.later b1)
    have hz1 := b1.size
    rw [HS.out] at hz1
    clear b1
    go_wp2_with fail
    refine (ent_clone V1.out.rdS (by omega)).mono ?_
    rintro e w2 ⟨u, rfl, ho, b2⟩
    have B2 := Lib.hid (below2Z B1.out b2)
    obtain ⟨k0, k1, k2, k3, k4, k5, k6⟩ := K1.out.later b2
    simp only [Nat.zero_add] at k0 k1 k2 k3 k4 k5 k6
    have b3 := bl_newZ w2 (.cells #[.string ⟨xo.toArray⟩, .string ⟨xc.toArray⟩, .bool x1, .bool x2, .bool x3, .bool x4, .bool x5] 49)
    have HO := Lib.hid (ho.later b3)
    have HL := Lib.hid (loneS_new (vals := entVals) (T := 49) (w := w2) (r := ⟨xo, xc, ⟨x1, x2, x3, x4, x5⟩⟩) (cs := #[.string ⟨xo.toArray⟩, .string ⟨xc.toArray⟩, .bool x1, .bool x2, .bool x3, .bool x4, .bool x5]) rfl (B := w2.heap.size) rfl)
    have HNE : Hid (∀ g n c, u = .slice (some ⟨g, 0, none⟩) n c → w2.heap.size ≠ g) := fun g n c e => by
      subst e
      have h1 := ho.head.2.2.1
      omega
    have hz2 := b2.size
    have hz3 := b3.size
    have HI := Lib.hid (ent_insert (base := w1.heap.size) HO.out (by omega) hl hple HL.out HNE.out)
    have B3 := Lib.hid (below2Z B2.out b3)
    have hw1 : Hid (w.heap.size ≤ w1.heap.size) := by show _ ≤ _; omega
    clear ho b2 b3 hz2 hz3
    go_wp2_with fail
    refine HI.out.mono ?_
    rintro e w4 ⟨y, rfl, ho4, b4⟩
    have O4 := Lib.hid (ownS_low ho4 hw1.out)
    have B4 := Lib.hid (B3.out.trans (b4.mono hw1.out))
    clear b4 ho4
    go_wp2_with fail
    go_ret
    exact ⟨_, rfl, by rw [hid.out]; exact O4.out, B4.out⟩

end Go.Proofs.Ytfkadkopolenbaa

end
