/-
  TEXTS OF THE PROOF, one behind the other: EntDel, RosOf, EntWith, RosPair, RosRise, RosOver.
-/
import Derived.Test.YtlckphdmflofgaaB08
import Derived.Test.YtlckphdmflofgaaB04
import Derived.Test.YtlckphdmflofgaaB03

section
/-
  slices.IndexFunc AND slices.DeleteFunc OF ENTRIES, at the one predicate that asks for an Owner and a Contact; without.
-/
namespace Go.Proofs.Ytlckphdmflofgaa
open Go.RowKit

theorem Ents.rdS {w : World} {v : Value} {l : List Ent} (h : Ents w v l) : RdS entVals 7 Ent.zero w v l := by
  obtain ⟨a, cap, h1, h2, h3, h4, h5⟩ := h
  refine ⟨a, cap, h1, h2, h3, h4, ?_⟩
  rcases h5 with h5 | ⟨b, off, e, hlt, hc⟩
  · exact .inl h5
  · exact .inr ⟨b, off, e, hlt, fun i hi => cells7_at.1 (hc i hi)⟩

theorem RdS.ents {w : World} {v : Value} {l : List Ent} (h : RdS entVals 7 Ent.zero w v l) : Ents w v l := by
  obtain ⟨a, cap, h1, h2, h3, h4, h5⟩ := h
  refine ⟨a, cap, h1, h2, h3, h4, ?_⟩
  rcases h5 with h5 | ⟨b, off, e, hlt, hc⟩
  · exact .inl h5
  · exact .inr ⟨b, off, e, hlt, fun i hi => cells7_at.2 (hc i hi)⟩

set_option maxHeartbeats 800000 in
set_option maxRecDepth 100000 in
theorem wo1_any {w : World} {B : Nat} {ko kc : List UInt8} {k1 k2 k3 k4 k5 : Bool} (hk : Cells7 w B 0 ⟨ko, kc, ⟨k1, k2, k3, k4, k5⟩⟩) (xo xc : List UInt8) (x1 x2 x3 x4 x5 : Bool) {r : Bool} (h : Hid (entIs ⟨xo, xc, ⟨x1, x2, x3, x4, x5⟩⟩ ⟨ko, kc, ⟨k1, k2, k3, k4, k5⟩⟩ = r)) :
    Calls Try.prog 63 #[.agg #[.string ⟨xo.toArray⟩, .string ⟨xc.toArray⟩, .bool x1, .bool x2, .bool x3, .bool x4, .bool x5], .pointer (some ⟨B, 0, none⟩)] w fun e w' => e = .returned (.bool r) ∧ Below w.heap.size w w' := by
  have B0 := Lib.hid ((Below.refl w.heap.size w).alloc (Nat.le_refl _) (.cells #[.string ⟨xo.toArray⟩, .string ⟨xc.toArray⟩, .bool x1, .bool x2, .bool x3, .bool x4, .bool x5] 70))
  have HC := Lib.hid (rcompare_any xo xc ko kc x1 x2 x3 x4 x5 k1 k2 k3 k4 k5)
  obtain ⟨n, hn⟩ : ∃ n, entI ⟨xo, xc, ⟨x1, x2, x3, x4, x5⟩⟩ ⟨ko, kc, ⟨k1, k2, k3, k4, k5⟩⟩ = n := ⟨_, rfl⟩
  have t1 : (n == 0) = r := by
    rw [← h.out, ← hn]
    cases he : entIs ⟨xo, xc, ⟨x1, x2, x3, x4, x5⟩⟩ ⟨ko, kc, ⟨k1, k2, k3, k4, k5⟩⟩ with
    | true => exact entI_on he
    | false => exact entI_off he
  rw [hn] at HC
  obtain ⟨c0, c1, c2, c3, c4, c5, c6⟩ := hk.later (B0.out)
  simp only [Nat.zero_add] at c0 c1 c2 c3 c4 c5 c6
  clear hn h hk
  go_enter Try.func63, Try.ntmps63
  go_wp2_with fail
  refine (HC.out _).mono ?_
  rintro e w1 ⟨rfl, b1⟩
  have B1 := Lib.hid (below2S B0.out b1)
  clear b1 c0 c1 c2 c3 c4 c5 c6
  go_wp2_with fail
  go_ret
  exact ⟨rfl, B1.out⟩

/-- Where the first entry of an Owner and a Contact stands. -/
def FoundE (t : List Ent) (key : Ent) (n : Int) : Prop :=
  (∃ k : Nat, k < t.length ∧ n = k ∧ entIs (t.getD k Ent.zero) key = true ∧ ∀ j, j < k → entIs (t.getD j Ent.zero) key = false) ∨ (n = -1 ∧ ∀ j, j < t.length → entIs (t.getD j Ent.zero) key = false)

set_option maxHeartbeats 1600000 in
set_option maxRecDepth 100000 in
theorem eindexf_any {w : World} {v : Value} {t : List Ent} (hv : Ents w v t) {B : Nat} {ko kc : List UInt8} {k1 k2 k3 k4 k5 : Bool} (hk : Cells7 w B 0 ⟨ko, kc, ⟨k1, k2, k3, k4, k5⟩⟩) :
    Calls Try.prog 77 #[v, .func (.func 63) #[] #[.pointer (some ⟨B, 0, none⟩)]] w fun e w' => ∃ n, e = .returned (.int .i64 n) ∧ FoundE t ⟨ko, kc, ⟨k1, k2, k3, k4, k5⟩⟩ n ∧ Below w.heap.size w w' := by
  have HV := Lib.hid hv
  have HK := Lib.hid hk
  obtain ⟨a, cap, rfl, hm⟩ := hv.open'
  clear hv hk
  go_enter Try.func77, Try.ntmps77
  go_wp2_with fail
  go_loopw [8] (fun i wr => ∃ k : Nat, k ≤ t.length ∧ i = .int .i64 k ∧ Hid (Below w.heap.size w wr) ∧ Hid (∀ j, j < k → entIs (t.getD j Ent.zero) ⟨ko, kc, ⟨k1, k2, k3, k4, k5⟩⟩ = false)) (fun i _ => t.length - (intOf i).toNat)
  case atStart => exact ⟨0, by omega, rfl, Below.refl _ _, fun j hj => absurd hj (by omega)⟩
  case round =>
    obtain ⟨k, hk, rfl, HN, HA⟩ := hrel
    by_cases hlt : k < t.length
    · obtain ⟨b, off, rfl, h0, h1, h2, h3, h4, h5, h6⟩ := HV.out.row HN.out k hlt
      obtain ⟨⟨xo, xc, ⟨x1, x2, x3, x4, x5⟩⟩, hr⟩ : ∃ r, t.getD k Ent.zero = r := ⟨_, rfl⟩
      rw [hr] at h0 h1 h2 h3 h4 h5 h6
      have HR := Lib.hid hr
      simp only at h0 h1 h2 h3 h4 h5 h6
      have HKr := Lib.hid (HK.out.later HN.out)
      clear hr
      cases hc : entIs ⟨xo, xc, ⟨x1, x2, x3, x4, x5⟩⟩ ⟨ko, kc, ⟨k1, k2, k3, k4, k5⟩⟩ with
      | true =>
        have HD := Lib.hid (wo1_any HKr.out xo xc x1 x2 x3 x4 x5 (Lib.hid hc))
        have HF : Hid (FoundE t ⟨ko, kc, ⟨k1, k2, k3, k4, k5⟩⟩ k) := .inl ⟨k, hlt, rfl, by rw [HR.out]; exact hc, HA.out⟩
        clear hc
        go_wp2_with fail
        refine HD.out.mono ?_
        rintro e w1 ⟨rfl, hb1⟩
        have N1 := Lib.hid (below2S HN.out hb1)
        clear hb1 h0 h1 h2 h3 h4 h5 h6
        go_wp2_with fail
        go_ret
        exact ⟨_, rfl, HF.out, N1.out⟩
      | false =>
        have HD := Lib.hid (wo1_any HKr.out xo xc x1 x2 x3 x4 x5 (Lib.hid hc))
        have HA2 : Hid (∀ j, j < k + 1 → entIs (t.getD j Ent.zero) ⟨ko, kc, ⟨k1, k2, k3, k4, k5⟩⟩ = false) := by
          show ∀ j, j < k + 1 → _
          intro j hj
          by_cases hjk : j = k
          · rw [hjk, HR.out]; exact hc
          · exact HA.out j (by omega)
        clear hc
        go_wp2_with fail
        refine HD.out.mono ?_
        rintro e w1 ⟨rfl, hb1⟩
        have N1 := Lib.hid (below2S HN.out hb1)
        clear hb1 h0 h1 h2 h3 h4 h5 h6
        go_wp2_with fail
        go_roundw
        case rel => exact ⟨k + 1, by omega, by go_num, N1, HA2⟩
        case measure => simp [intOf]; omega
    · obtain rfl : k = t.length := by omega
      have HF : Hid (FoundE t ⟨ko, kc, ⟨k1, k2, k3, k4, k5⟩⟩ (-1)) := .inr ⟨rfl, HA.out⟩
      go_wp2_with fail
      go_ret
      exact ⟨_, rfl, HF.out, HN.out⟩

theorem edrop_none {t : List Ent} {key : Ent} (h : ∀ j, j < t.length → entIs (t.getD j Ent.zero) key = false) : dropO entIs t key = t := by
  unfold dropO
  rw [List.filter_eq_self]
  intro r hr
  obtain ⟨k, hk, rfl⟩ := List.getElem_of_mem hr
  have := h k hk
  rw [getD_at hk] at this
  simp [this]

theorem edrop_next {t : List Ent} {key : Ent} {j : Nat} (hj : j < t.length) {r : Ent} (hr : t.getD j Ent.zero = r) :
    (entIs r key = true → dropO entIs (t.take (j + 1)) key = dropO entIs (t.take j) key) ∧ (entIs r key = false → dropO entIs (t.take (j + 1)) key = dropO entIs (t.take j) key ++ [r]) := by
  unfold dropO
  rw [List.take_succ_eq_append_getElem hj, ← getD_at hj, hr, List.filter_append]
  constructor
  · intro h
    simp [h]
  · intro h
    simp [h]

theorem eset_take_next {u : List Ent} {i : Nat} (hi : i < u.length) (r : Ent) : (u.set i r).take (i + 1) = u.take i ++ [r] := by
  rw [List.take_set, List.set_eq_take_append_cons_drop]
  rw [if_pos (by rw [List.length_take]; omega)]
  rw [List.take_take, List.drop_of_length_le (by rw [List.length_take]; omega), show min i (i + 1) = i by omega]

/-- Where DeleteFunc stands: entries kept up to i, entries looked at up to j. -/
def EDelAt (t u : List Ent) (key : Ent) (i j : Nat) : Prop := u.length = t.length ∧ i < j ∧ j ≤ t.length ∧ u.take i = dropO entIs (t.take j) key ∧ u.drop j = t.drop j

theorem edelAt_start {t : List Ent} {key : Ent} {k : Nat} (hk : k < t.length) (hc : entIs (t.getD k Ent.zero) key = true) (hn : ∀ j, j < k → entIs (t.getD j Ent.zero) key = false) : EDelAt t t key k (k + 1) := by
  refine ⟨rfl, by omega, hk, ?_, rfl⟩
  rw [(edrop_next hk rfl).1 hc]
  refine (edrop_none fun j hj => ?_).symm
  rw [List.length_take] at hj
  have : (t.take k).getD j Ent.zero = t.getD j Ent.zero := by simp [List.getD, show j < k by omega]
  rw [this]
  exact hn j (by omega)

theorem edelAt_row {t u : List Ent} {key : Ent} {i j : Nat} (h : EDelAt t u key i j) (hj : j < t.length) : u.getD j Ent.zero = t.getD j Ent.zero := by
  obtain ⟨h1, _, _, _, h5⟩ := h
  have a := List.drop_eq_getElem_cons (show j < u.length by omega)
  have b := List.drop_eq_getElem_cons hj
  rw [h5, b] at a
  rw [getD_at hj, getD_at (show j < u.length by omega)]
  exact (List.cons.inj a).1.symm

theorem edelAt_skip {t u : List Ent} {key : Ent} {i j : Nat} (h : EDelAt t u key i j) (hj : j < t.length) {r : Ent} (hr : t.getD j Ent.zero = r) (hc : entIs r key = true) : EDelAt t u key i (j + 1) := by
  obtain ⟨h1, h2, h3, h4, h5⟩ := h
  refine ⟨h1, by omega, hj, by rw [(edrop_next hj hr).1 hc, h4], ?_⟩
  have e : ∀ l : List Ent, l.drop (j + 1) = (l.drop j).drop 1 := fun l => by rw [List.drop_drop]
  rw [e u, e t, h5]

theorem edelAt_keep {t u : List Ent} {key : Ent} {i j : Nat} (h : EDelAt t u key i j) (hj : j < t.length) {r : Ent} (hr : t.getD j Ent.zero = r) (hc : entIs r key = false) : EDelAt t (u.set i r) key (i + 1) (j + 1) := by
  obtain ⟨h1, h2, h3, h4, h5⟩ := h
  refine ⟨by simpa using h1, by omega, hj, by rw [eset_take_next (by omega), h4, (edrop_next hj hr).2 hc], ?_⟩
  have e : ∀ l : List Ent, l.drop (j + 1) = (l.drop j).drop 1 := fun l => by rw [List.drop_drop]
  rw [List.drop_set, if_pos (by omega), e u, e t, h5]

/-- Seven cells of a row stored anew. -/
def setE (w : World) (g o : Nat) (xo xc : List UInt8) (x1 x2 x3 x4 x5 : Bool) : World :=
  ((((((w.setCell ⟨g, o, none⟩ (.string ⟨xo.toArray⟩)).setCell ⟨g, o + 1, none⟩ (.string ⟨xc.toArray⟩)).setCell ⟨g, o + 2, none⟩ (.bool x1)).setCell ⟨g, o + 3, none⟩ (.bool x2)).setCell ⟨g, o + 4, none⟩ (.bool x3)).setCell ⟨g, o + 5, none⟩ (.bool x4)).setCell ⟨g, o + 6, none⟩ (.bool x5)

theorem setE_own {w : World} {base g n cap : Nat} {u : List Ent} (h : OwnS entVals 7 70 w base (.slice (some ⟨g, 0, none⟩) n cap) u) {i : Nat} (hi : i < u.length) (xo xc : List UInt8) (x1 x2 x3 x4 x5 : Bool) :
    OwnS entVals 7 70 (setE w g (i * 7) xo xc x1 x2 x3 x4 x5) base (.slice (some ⟨g, 0, none⟩) n cap) (u.set i ⟨xo, xc, ⟨x1, x2, x3, x4, x5⟩⟩) := ownS_set entOK h hi ⟨xo, xc, ⟨x1, x2, x3, x4, x5⟩⟩

theorem setE_below {B g o : Nat} {w0 w : World} (h : Below B w0 w) (hB : B ≤ g) (xo xc : List UInt8) (x1 x2 x3 x4 x5 : Bool) : Below B w0 (setE w g o xo xc x1 x2 x3 x4 x5) :=
  ((((((h.setCell hB _).setCell hB _).setCell hB _).setCell hB _).setCell hB _).setCell hB _).setCell hB _

set_option maxHeartbeats 3200000 in
set_option maxRecDepth 100000 in
theorem edeletef_some {w : World} {base g n cap : Nat} {t : List Ent} (ho : OwnS entVals 7 70 w base (.slice (some ⟨g, 0, none⟩) n cap) t) {B : Nat} {ko kc : List UInt8} {k1 k2 k3 k4 k5 : Bool} (hk : Cells7 w B 0 ⟨ko, kc, ⟨k1, k2, k3, k4, k5⟩⟩) (hB : B < base) (hbase : base ≤ w.heap.size) :
    Calls Try.prog 61 #[.slice (some ⟨g, 0, none⟩) n cap, .func (.func 63) #[] #[.pointer (some ⟨B, 0, none⟩)]] w fun e w' => ∃ v, e = .returned v ∧ OwnS entVals 7 70 w' base v (dropO entIs t ⟨ko, kc, ⟨k1, k2, k3, k4, k5⟩⟩) ∧ Below base w w' := by
  have HO := Lib.hid ho
  have HK := Lib.hid hk
  obtain ⟨hn, hbg, hgw, hnc, hcm, _⟩ := ho.head
  subst hn
  unfold maxLen at hcm
  have HI := Lib.hid (eindexf_any (ho.rd entOK).ents hk)
  clear ho hk
  go_enter Try.func61, Try.ntmps61
  go_wp2_with fail
  refine HI.out.mono ?_
  rintro e w1 ⟨m, rfl, hf, hb1⟩
  have B1 := Lib.hid hb1
  have O1 := Lib.hid (HO.out.later hb1)
  clear hb1 HI HO
  rcases hf with ⟨k, hklt, rfl, hkc, hkn⟩ | ⟨rfl, hno⟩
  · have HD := Lib.hid (edelAt_start hklt hkc hkn)
    have t0 : ((k : Int) == -1) = false := by simp
    clear hkc hkn
    go_wp2_with fail
    go_loopw [5, 6] (fun a b wr => ∃ (i j : Nat) (u : List Ent), a = .int .i64 i ∧ b = .int .i64 j ∧ Hid (EDelAt t u ⟨ko, kc, ⟨k1, k2, k3, k4, k5⟩⟩ i j) ∧ Hid (OwnS entVals 7 70 wr base (.slice (some ⟨g, 0, none⟩) t.length cap) u) ∧ Hid (Below base w wr)) (fun _ b _ => t.length - (intOf b).toNat)
    case atStart => exact ⟨k, k + 1, t, rfl, by go_num, HD, O1, B1.out.mono hbase⟩
    case round =>
      clear HD O1 B1 hklt
      obtain ⟨i, j, u, rfl, rfl, HD, HO, HN⟩ := hrel
      have hij := HD.out.2.1
      have hjn := HD.out.2.2.1
      have hul := HD.out.1
      by_cases hlt : j < t.length
      · obtain ⟨h0, h1, h2, h3, h4, h5, h6⟩ := cells7_at.2 (HO.out.row entOK (show j < u.length by omega))
        have hgr := HO.out.head.2.2.1
        have hrow := edelAt_row HD.out hlt
        obtain ⟨⟨xo, xc, ⟨x1, x2, x3, x4, x5⟩⟩, hr⟩ : ∃ r, t.getD j Ent.zero = r := ⟨_, rfl⟩
        rw [hrow, hr] at h0 h1 h2 h3 h4 h5 h6
        simp only at h0 h1 h2 h3 h4 h5 h6
        have HR := Lib.hid hr
        have hkr : Cells7 wr B 0 ⟨ko, kc, ⟨k1, k2, k3, k4, k5⟩⟩ := cells7_at.2 (fun q u hu => (HN.out.cell (p := ⟨B, 0 + q, none⟩) hB).trans (cells7_at.1 HK.out q u hu))
        have hcell := Lib.hid (hkr.later (bl_newZ wr (.cells #[.string ⟨xo.toArray⟩, .string ⟨xc.toArray⟩, .bool x1, .bool x2, .bool x3, .bool x4, .bool x5] 70)))
        have CX := Lib.hid (cells7_made wr ⟨xo, xc, ⟨x1, x2, x3, x4, x5⟩⟩ 70)
        have hbr : base ≤ wr.heap.size := by omega
        have bn := bl_newZ wr (.cells #[.string ⟨xo.toArray⟩, .string ⟨xc.toArray⟩, .bool x1, .bool x2, .bool x3, .bool x4, .bool x5] 70)
        clear hr hrow hkr
        cases hc : entIs ⟨xo, xc, ⟨x1, x2, x3, x4, x5⟩⟩ ⟨ko, kc, ⟨k1, k2, k3, k4, k5⟩⟩ with
        | true =>
          have HD2 := Lib.hid (edelAt_skip HD.out hlt HR.out hc)
          have HDel := Lib.hid (wo1_any hcell.out xo xc x1 x2 x3 x4 x5 (Lib.hid hc))
          clear hc hcell
          go_wp2_with fail
          refine HDel.out.mono ?_
          rintro e w2 ⟨rfl, hb2⟩
          have bx := below2Z bn hb2
          have N2 := Lib.hid (HN.out.trans (bx.mono hbr))
          have O2 := Lib.hid (HO.out.later bx)
          clear hb2 bx bn h0 h1 h2 h3 h4 h5 h6
          go_wp2_with fail
          go_roundw
          case rel => exact ⟨i, j + 1, u, rfl, by go_num, HD2, O2, N2⟩
          case measure => simp [intOf]; omega
        | false =>
          have HD2 := Lib.hid (edelAt_keep HD.out hlt HR.out hc)
          have HDel := Lib.hid (wo1_any hcell.out xo xc x1 x2 x3 x4 x5 (Lib.hid hc))
          clear hc hcell
          go_wp2_with fail
          refine HDel.out.mono ?_
          rintro e w2 ⟨rfl, hb2⟩
          obtain ⟨k0', k1', k2', k3', k4', k5', k6'⟩ := CX.out.later hb2
          simp only [Nat.zero_add] at k0' k1' k2' k3' k4' k5' k6'
          have bx := below2Z bn hb2
          have N2 := Lib.hid (HN.out.trans (bx.mono hbr))
          have O2 := Lib.hid (HO.out.later bx)
          have hsz := bx.size
          obtain ⟨s0, s1, s2, s3, s4, s5, s6⟩ := cells7_at.2 (O2.out.row entOK (show i < u.length by omega))
          have f0 := O2.out.frozenAt (i * 7)
          have f1 := O2.out.frozenAt (i * 7 + 1)
          have f2 := O2.out.frozenAt (i * 7 + 2)
          have f3 := O2.out.frozenAt (i * 7 + 3)
          have f4 := O2.out.frozenAt (i * 7 + 4)
          have f5 := O2.out.frozenAt (i * 7 + 5)
          have f6 := O2.out.frozenAt (i * 7 + 6)
          have O3 := Lib.hid (setE_own O2.out (show i < u.length by omega) xo xc x1 x2 x3 x4 x5)
          have N3 := Lib.hid (setE_below (o := i * 7) N2.out hbg xo xc x1 x2 x3 x4 x5)
          clear hb2 bx bn h0 h1 h2 h3 h4 h5 h6 O2 N2
          go_wp2_with fail
          go_roundw
          case rel => exact ⟨i + 1, j + 1, u.set i ⟨xo, xc, ⟨x1, x2, x3, x4, x5⟩⟩, by go_num, by go_num, HD2, O3, N3⟩
          case measure => simp [intOf]; omega
      · obtain rfl : j = t.length := by omega
        have hR : u.take i = dropO entIs t ⟨ko, kc, ⟨k1, k2, k3, k4, k5⟩⟩ := by have := HD.out.2.2.2.1; rwa [List.take_length] at this
        have HR := Lib.hid hR
        have hne : ¬ cap = i := by omega
        clear hR
        go_wp2_with (with_reducible refine wpList_clear_S entOK rfl (.tmp 38) rfl base g t.length cap u HO.out i (some ⟨g, i * 7, none⟩) (t.length - i) (cap - i) rfl (fun _ => rfl) (by omega) ?_)
        intro w3 h3 hb3
        have O3 := Lib.hid (ownS_cut entOK h3 (i := i) (by rw [List.length_append, List.length_take, List.length_replicate]; omega))
        have N3 := Lib.hid (HN.out.trans (hb3.mono hbg))
        clear h3 hb3
        go_wp2_with fail
        go_ret
        refine ⟨_, rfl, ?_, N3.out⟩
        have := O3.out
        rw [List.take_append_of_le_length (by rw [List.length_take]; omega), List.take_take, Nat.min_self, HR.out] at this
        exact this
  · have HR := Lib.hid (edrop_none hno)
    clear hno
    go_wp2_with fail
    go_ret
    exact ⟨_, rfl, by rw [HR.out]; exact O1.out, B1.out.mono hbase⟩

set_option maxHeartbeats 1600000 in
set_option maxRecDepth 100000 in
theorem edeletef_nil {w : World} {B : Nat} {ko kc : List UInt8} {k1 k2 k3 k4 k5 : Bool} (hk : Cells7 w B 0 ⟨ko, kc, ⟨k1, k2, k3, k4, k5⟩⟩) :
    Calls Try.prog 61 #[.slice none 0 0, .func (.func 63) #[] #[.pointer (some ⟨B, 0, none⟩)]] w fun e w' => e = .returned (.slice none 0 0) ∧ Below w.heap.size w w' := by
  have HI := Lib.hid (eindexf_any (ents_nil w) hk)
  clear hk
  go_enter Try.func61, Try.ntmps61
  go_wp2_with fail
  refine HI.out.mono ?_
  rintro e w1 ⟨m, rfl, hf, hb1⟩
  have B1 := Lib.hid hb1
  clear hb1 HI
  rcases hf with ⟨k, hklt, rfl, hkc, hkn⟩ | ⟨rfl, hno⟩
  · simp at hklt
  · clear hno
    go_wp2_with fail
    go_ret
    exact ⟨rfl, B1.out⟩

set_option maxHeartbeats 1600000 in
set_option maxRecDepth 100000 in
theorem rwithout_any {w : World} {v : Value} {l : List Ent} (hv : Ents w v l) (hl : l.length ≤ 4294967) (ko kc : List UInt8) (k1 k2 k3 k4 k5 : Bool) :
    Calls Try.prog 41 #[v, .agg #[.string ⟨ko.toArray⟩, .string ⟨kc.toArray⟩, .bool k1, .bool k2, .bool k3, .bool k4, .bool k5]] w fun e w' => ∃ u, e = .returned u ∧ OwnS entVals 7 70 w' w.heap.size u (dropO entIs l ⟨ko, kc, ⟨k1, k2, k3, k4, k5⟩⟩) ∧ Below w.heap.size w w' := by
  have bn := bl_newZ w (.cells #[.string ⟨ko.toArray⟩, .string ⟨kc.toArray⟩, .bool k1, .bool k2, .bool k3, .bool k4, .bool k5] 70)
  have B0 := Lib.hid bn
  have HS := Lib.hid (show (w.alloc (.cells #[.string ⟨ko.toArray⟩, .string ⟨kc.toArray⟩, .bool k1, .bool k2, .bool k3, .bool k4, .bool k5] 70)).heap.size = w.heap.size + 1 by simp)
  have K0 := Lib.hid (cells7_made w ⟨ko, kc, ⟨k1, k2, k3, k4, k5⟩⟩ 70)
  have HC := Lib.hid (ent_clone (hv.later bn).rdS hl)
  have hmf : ∀ (fn : Fn) (first cap : Array Value) (w : World), (Instr.makeFunc fn first cap).run Try.prog w = .ok (.func fn first cap) w := fun _ _ _ _ => rfl
  obtain ⟨a, cap, rfl, hm⟩ := hv.open'
  clear hv bn
  go_enter Try.func41, Try.ntmps41
  go_wp2_with fail
  refine HC.out.mono ?_
  rintro e w1 ⟨u, rfl, ho, b1⟩
  have B1 := Lib.hid (below2Z B0.out b1)
  have K1 := Lib.hid (K0.out.later b1)
  have hsz := b1.size
  rw [HS.out] at ho hsz
  have HO := Lib.hid ho
  rcases ho.2 with ⟨rfl, h0⟩ | ⟨g, cp, cur, rfl, -, -, -, -, -, -⟩
  · obtain rfl : l = [] := List.length_eq_zero_iff.1 h0
    have HD := Lib.hid (edeletef_nil K1.out)
    clear ho b1 h0
    go_wp2_with fail
    refine HD.out.mono ?_
    rintro e w2 ⟨rfl, b2⟩
    have B2 := Lib.hid (below2Z B1.out b2)
    clear b2
    go_wp2_with fail
    go_ret
    exact ⟨_, rfl, ownS_nil _ _, B2.out⟩
  · have HD := Lib.hid (edeletef_some HO.out K1.out (by omega) (by omega))
    clear ho b1
    go_wp2_with fail
    refine HD.out.mono ?_
    rintro e w2 ⟨y, rfl, ho2, b2⟩
    have B2 := Lib.hid (B1.out.trans (b2.mono (by omega)))
    have O2 := Lib.hid (ownS_low ho2 (show w.heap.size ≤ w.heap.size + 1 by omega))
    clear b2 ho2
    go_wp2_with fail
    go_ret
    exact ⟨_, rfl, O2.out, B2.out⟩

end Go.Proofs.Ytlckphdmflofgaa
end

section
/-
  LAYER 8: the Contacts of an Owner, the document's and the code's.
-/
namespace Go.Proofs.Ytlckphdmflofgaa
open Go.RowKit

theorem Try.infoTxt : (Try.prog.info? 9).map (fun i => (i.zero, i.size, i.bytes)) = some (some (.string ⟨#[]⟩), 1, 16) := by kernel_rfl

theorem new_cellR {w : World} {u : Value} {e : TypeId} : ∀ ad, some (⟨w.heap.size, 0, none⟩ : Addr) = some ad → ∀ j v, ([u] : List Value)[j]? = some v → (w.alloc (.cells #[u] e)).cell? (ad.add j) = some v := by
  intro ad had j v hv
  obtain rfl := Option.some.inj had
  exact cells_one w u e j v hv

theorem new_cellN {w : World} {u : Value} {e : TypeId} {B : Nat} (hB : B = w.heap.size) : ∀ ad, some (⟨B, 0, none⟩ : Addr) = some ad → ∀ j v, ([u] : List Value)[j]? = some v → (w.alloc (.cells #[u] e)).cell? (ad.add j) = some v := by
  subst hB
  exact new_cellR

theorem roOf_succ {l : List Ent} {k : Nat} (hk : k < l.length) (o : List UInt8) : roOf (l.take (k + 1)) o = if (l.getD k Ent.zero).o = o then roOf (l.take k) o ++ [(l.getD k Ent.zero).c] else roOf (l.take k) o := by
  unfold roOf
  rw [List.take_succ_eq_append_getElem hk, getD_at hk, List.filter_append, List.map_append]
  by_cases h : l[k].o = o
  · rw [if_pos h, List.filter_cons, if_pos (by simp [ofOwner, h])]
    rfl
  · rw [if_neg h, List.filter_cons, if_neg (by simp [ofOwner, h])]
    simp

theorem roOf_le (l : List Ent) (o : List UInt8) : (roOf l o).length ≤ l.length := by
  rw [roOf_len]
  exact List.length_filter_le _ _

set_option maxHeartbeats 1600000 in
set_option maxRecDepth 100000 in
theorem of_any {w : World} {v : Value} {l : List Ent} (hv : Ents w v l) (hl : l.length ≤ 4294967) (o : List UInt8) :
    Calls Try.prog 60 #[v, .string ⟨o.toArray⟩] w fun e w' => ∃ u, e = .returned u ∧ OwnT w' w.heap.size 9 u (roOf l o) ∧ Below w.heap.size w w' := by
  obtain ⟨i0, hi, hz0, hz1, hz2⟩ := info_parts Try.infoTxt
  have HV := Lib.hid hv
  obtain ⟨a, cap, rfl, _⟩ := hv.open'
  clear hv
  go_enter Try.func60, Try.ntmps60
  go_wp2_with fail
  go_loopw [5, 10] (fun s i wr => ∃ k : Nat, k ≤ l.length ∧ i = .int .i64 k ∧ Hid (OwnT wr w.heap.size 9 s (roOf (l.take k) o)) ∧ Hid (Below w.heap.size w wr)) (fun _ i _ => l.length - (intOf i).toNat)
  case atStart => exact ⟨0, by omega, rfl, World.ownsRow_nil _ _ _ _, Below.refl _ _⟩
  case round =>
    obtain ⟨k, hk, rfl, HO, HN⟩ := hrel
    by_cases hlt : k < l.length
    · obtain ⟨b, off, rfl, h0, h1, h2, h3, h4, h5, h6⟩ := HV.out.row HN.out k hlt
      have hX := roOf_succ hlt o
      obtain ⟨⟨eo, c, ⟨i1, i2, i3, i4, i5⟩⟩, hr⟩ : ∃ r, l.getD k Ent.zero = r := ⟨_, rfl⟩
      rw [hr] at h0 h1 h2 h3 h4 h5 h6 hX
      simp only at h0 h1 h2 h3 h4 h5 h6 hX
      clear hr
      by_cases ho : eo = o
      · rw [if_pos ho] at hX
        have HX := Lib.hid hX
        subst ho
        have O2 := Lib.hid ((HO.out.alloc (.cells #[.string ⟨eo.toArray⟩, .string ⟨c.toArray⟩, .bool i1, .bool i2, .bool i3, .bool i4, .bool i5] 70)).alloc (.cells #[.string ⟨c.toArray⟩] 9))
        have N2 := Lib.hid (bl_allocS (bl_allocS HN.out (.cells #[.string ⟨eo.toArray⟩, .string ⟨c.toArray⟩, .bool i1, .bool i2, .bool i3, .bool i4, .bool i5] 70)) (.cells #[.string ⟨c.toArray⟩] 9))
        have hz3 := N2.out.size
        have hcl : (roOf (l.take k) eo).length ≤ 4294967 := by have := roOf_le (l.take k) eo; rw [List.length_take] at this; omega
        clear hX HO
        go_wp2_with (at_builtin; go_must (refine wpList_append_texts rfl _ _ 38 rfl w.heap.size 9 i0 _ 16 Try.underlying38 hi hz0 hz1 hz2 rfl _ (roOf (l.take k) eo) rfl (by exact O2.out) _ 1 1 [c] rfl rfl (fun e => nomatch e) ?c1 (by simp only [List.length_cons, List.length_nil]; omega) (by decide) hz3 ?_))
        case c1 => exact new_cellN (by simp)
        intro v' w' hown' hb'
        rw [← HX.out] at hown'
        have O3 := Lib.hid hown'
        have N3 := Lib.hid (N2.out.trans hb')
        clear hown' hb' O2 h0 h1 h2 h3 h4 h5 h6
        go_wp2_with fail
        go_roundw
        case rel => exact ⟨k + 1, by omega, by go_num, O3, N3⟩
        case measure => simp [intOf]; omega
      · rw [if_neg ho] at hX
        have o3 := HO.out.alloc (.cells #[.string ⟨eo.toArray⟩, .string ⟨c.toArray⟩, .bool i1, .bool i2, .bool i3, .bool i4, .bool i5] 70)
        rw [← hX] at o3
        have O3 := Lib.hid o3
        clear o3
        have N3 := Lib.hid (bl_allocS HN.out (.cells #[.string ⟨eo.toArray⟩, .string ⟨c.toArray⟩, .bool i1, .bool i2, .bool i3, .bool i4, .bool i5] 70))
        have t1 : (eo == o) = false := by rw [beq_eq_false_iff_ne]; exact ho
        clear hX HO ho
        go_wp2_with fail
        go_roundw
        case rel => exact ⟨k + 1, by omega, by go_num, O3, N3⟩
        case measure => simp [intOf]; omega
    · obtain rfl : k = l.length := by omega
      have ht := HO.out
      rw [List.take_length] at ht
      have HT := Lib.hid ht
      clear ht
      go_wp2_with fail
      go_ret
      exact ⟨_, rfl, HT.out, HN.out⟩

end Go.Proofs.Ytlckphdmflofgaa
end

section
/-
  LAYER 8, THE CODE: with; isFull.
-/
namespace Go.Proofs.Ytlckphdmflofgaa
open Go.RowKit

theorem putO_here {l : List Ent} (hr : Rise l) {x : Ent} (h : (decide (entPlace l x < l.length) && entIs (l.getD (entPlace l x) Ent.zero) x) = true) : putO entLt entIs l x = l.set (entPlace l x) x := by
  have hany := (entPlace_there hr x).symm.trans h
  unfold putO
  cases hf : findO entIs l x with
  | none =>
    have := (findO_isSome (eq := entIs) (l := l) (x := x)).trans hany
    rw [hf] at this
    cases this
  | some i =>
    have := findO_place entOrd hr hf
    subst this
    rfl

theorem putO_new {l : List Ent} (hr : Rise l) {x : Ent} (h : (decide (entPlace l x < l.length) && entIs (l.getD (entPlace l x) Ent.zero) x) = false) : putO entLt entIs l x = putS l (entPlace l x) x := by
  have hany := (entPlace_there hr x).symm.trans h
  unfold putO
  cases hf : findO entIs l x with
  | none => rfl
  | some i =>
    have := (findO_isSome (eq := entIs) (l := l) (x := x)).trans hany
    rw [hf] at this
    cases this

set_option maxHeartbeats 1600000 in
set_option maxRecDepth 100000 in
theorem rwith_any {w : World} {v : Value} {l : List Ent} (hv : Ents w v l) (hr : Rise l) (hl : l.length ≤ 1000) (xo xc : List UInt8) (x1 x2 x3 x4 x5 : Bool) :
    Calls Try.prog 42 #[v, .agg #[.string ⟨xo.toArray⟩, .string ⟨xc.toArray⟩, .bool x1, .bool x2, .bool x3, .bool x4, .bool x5]] w fun e w' => ∃ u, e = .returned u ∧ OwnS entVals 7 70 w' w.heap.size u (putO entLt entIs l ⟨xo, xc, ⟨x1, x2, x3, x4, x5⟩⟩) ∧ Below w.heap.size w w' := by
  have bn := bl_newZ w (.cells #[.string ⟨xo.toArray⟩, .string ⟨xc.toArray⟩, .bool x1, .bool x2, .bool x3, .bool x4, .bool x5] 70)
  have B0 := Lib.hid bn
  have HS := Lib.hid (show (w.alloc (.cells #[.string ⟨xo.toArray⟩, .string ⟨xc.toArray⟩, .bool x1, .bool x2, .bool x3, .bool x4, .bool x5] 70)).heap.size = w.heap.size + 1 by simp)
  have K0 := Lib.hid (cells7_made w ⟨xo, xc, ⟨x1, x2, x3, x4, x5⟩⟩ 70)
  have HV := Lib.hid (hv.later bn)
  obtain ⟨p, hp⟩ : ∃ p, entPlace l ⟨xo, xc, ⟨x1, x2, x3, x4, x5⟩⟩ = p := ⟨_, rfl⟩
  obtain ⟨q, hq⟩ : ∃ q, (decide (p < l.length) && entIs (l.getD p Ent.zero) ⟨xo, xc, ⟨x1, x2, x3, x4, x5⟩⟩) = q := ⟨_, rfl⟩
  have HP := Lib.hid (place_any HV.out hr xo xc x1 x2 x3 x4 x5 hp hq)
  have hple : p ≤ l.length := by rw [← hp]; exact entPlace_le l _
  have HE : Hid (putO entLt entIs l ⟨xo, xc, ⟨x1, x2, x3, x4, x5⟩⟩ = if q = true then l.set p ⟨xo, xc, ⟨x1, x2, x3, x4, x5⟩⟩ else putS l p ⟨xo, xc, ⟨x1, x2, x3, x4, x5⟩⟩) := by
    show _ = _
    subst hp
    cases q with
    | true => rw [if_pos rfl]; exact putO_here hr hq
    | false => rw [if_neg (by decide)]; exact putO_new hr hq
  have HQ : Hid (q = true → p < l.length) := fun e => by
    rw [e, Bool.and_eq_true, decide_eq_true_eq] at hq
    exact hq.1
  generalize putO entLt entIs l ⟨xo, xc, ⟨x1, x2, x3, x4, x5⟩⟩ = R at HE ⊢
  obtain ⟨a, cap, rfl, hm⟩ := hv.open'
  clear hv bn hp hq
  cases q with
  | true =>
    have hlt := HQ.out rfl
    go_enter Try.func42, Try.ntmps42
    go_wp2_with fail
    refine HP.out.mono ?_
    rintro e w1 ⟨rfl, b1⟩
    have B1 := Lib.hid (below2Z B0.out b1)
    have K1 := Lib.hid (K0.out.later b1)
    have V1 := Lib.hid (HV.out.later b1)
    have hz1 := b1.size
    clear b1
    go_wp2_with fail
    refine (ent_clone V1.out.rdS (by omega)).mono ?_
    rintro e w2 ⟨u, rfl, ho, b2⟩
    have B2 := Lib.hid (below2Z B1.out b2)
    obtain ⟨k0, k1, k2, k3, k4, k5, k6⟩ := K1.out.later b2
    simp only [Nat.zero_add] at k0 k1 k2 k3 k4 k5 k6
    have HO := Lib.hid ho
    rw [HS.out] at hz1
    rcases ho.2 with ⟨rfl, h0⟩ | ⟨g, cp, cur, rfl, hbg, -, -, hcm, -, -⟩
    · omega
    · have n0 : (0 : Int) ≤ (p : Int) := by omega
      have n1 : (p : Int) < (l.length : Int) := by omega
      obtain ⟨s0, s1, s2, s3, s4, s5, s6⟩ := cells7_at.2 (HO.out.row entOK hlt)
      have f0 := HO.out.frozenAt (p * 7)
      have f1 := HO.out.frozenAt (p * 7 + 1)
      have f2 := HO.out.frozenAt (p * 7 + 2)
      have f3 := HO.out.frozenAt (p * 7 + 3)
      have f4 := HO.out.frozenAt (p * 7 + 4)
      have f5 := HO.out.frozenAt (p * 7 + 5)
      have f6 := HO.out.frozenAt (p * 7 + 6)
      have O3 := Lib.hid (ownS_low (setE_own HO.out hlt xo xc x1 x2 x3 x4 x5) (show w.heap.size ≤ w1.heap.size by omega))
      have N3 := Lib.hid (setE_below (o := p * 7) B2.out (show w.heap.size ≤ g by omega) xo xc x1 x2 x3 x4 x5)
      have HR := HE.out
      simp only [if_true] at HR
      have hid := Lib.hid HR
      clear ho b2 HR HE HQ
      go_wp2_with fail
      go_ret
      exact ⟨_, rfl, by rw [hid.out]; exact O3.out, N3.out⟩
  | false =>
    have HR := HE.out
    simp only [Bool.false_eq_true, if_false] at HR
    have hid := Lib.hid HR
    clear HR HE HQ
    go_enter Try.func42, Try.ntmps42
    go_wp2_with fail
    refine HP.out.mono ?_
    rintro e w1 ⟨rfl, b1⟩
    have B1 := Lib.hid (below2Z B0.out b1)
    have K1 := Lib.hid (K0.out.later b1)
    have V1 := Lib.hid (HV.out.later b1)
    have hz1 := b1.size
    rw [HS.out] at hz1
    clear b1
    go_wp2_with fail
    refine (ent_clone V1.out.rdS (by omega)).mono ?_
    rintro e w2 ⟨u, rfl, ho, b2⟩
    have B2 := Lib.hid (below2Z B1.out b2)
    obtain ⟨k0, k1, k2, k3, k4, k5, k6⟩ := K1.out.later b2
    simp only [Nat.zero_add] at k0 k1 k2 k3 k4 k5 k6
    have b3 := bl_newZ w2 (.cells #[.string ⟨xo.toArray⟩, .string ⟨xc.toArray⟩, .bool x1, .bool x2, .bool x3, .bool x4, .bool x5] 70)
    have HO := Lib.hid (ho.later b3)
    have HL := Lib.hid (loneS_new (vals := entVals) (T := 70) (w := w2) (r := ⟨xo, xc, ⟨x1, x2, x3, x4, x5⟩⟩) (cs := #[.string ⟨xo.toArray⟩, .string ⟨xc.toArray⟩, .bool x1, .bool x2, .bool x3, .bool x4, .bool x5]) rfl (B := w2.heap.size) rfl)
    have HNE : Hid (∀ g n c, u = .slice (some ⟨g, 0, none⟩) n c → w2.heap.size ≠ g) := fun g n c e => by
      subst e
      have h1 := ho.head.2.2.1
      omega
    have hz2 := b2.size
    have hz3 := b3.size
    have HI := Lib.hid (ent_insert (base := w1.heap.size) HO.out (by omega) hl hple HL.out HNE.out)
    have B3 := Lib.hid (below2Z B2.out b3)
    have hw1 : Hid (w.heap.size ≤ w1.heap.size) := by show _ ≤ _; omega
    clear ho b2 b3 hz2 hz3
    go_wp2_with fail
    refine HI.out.mono ?_
    rintro e w4 ⟨y, rfl, ho4, b4⟩
    have O4 := Lib.hid (ownS_low ho4 hw1.out)
    have B4 := Lib.hid (B3.out.trans (b4.mono hw1.out))
    clear b4 ho4
    go_wp2_with fail
    go_ret
    exact ⟨_, rfl, by rw [hid.out]; exact O4.out, B4.out⟩

end Go.Proofs.Ytlckphdmflofgaa
end

section
/-
  LAYER 8, THE CODE: whether an entry has a counterpart that it may face.
-/
namespace Go.Proofs.Ytlckphdmflofgaa
open Go.RowKit

set_option maxHeartbeats 1600000 in
set_option maxRecDepth 100000 in
theorem paired_no {w : World} {v : Value} {l : List Ent} (hv : Ents w v l) (hr : Rise l) (eo ec : List UInt8) (x1 x2 x3 x4 x5 : Bool) (hno : (l.any fun e => entIs e ⟨ec, eo, ⟨false, false, false, false, false⟩⟩) = false) :
    Calls Try.prog 54 #[v, .agg #[.string ⟨eo.toArray⟩, .string ⟨ec.toArray⟩, .bool x1, .bool x2, .bool x3, .bool x4, .bool x5]] w fun e w' => e = .returned (.bool false) ∧ Below w.heap.size w w' := by
  have B0 : Hid (Below w.heap.size w (w.alloc (.cells #[.string ⟨eo.toArray⟩, .string ⟨ec.toArray⟩, .bool x1, .bool x2, .bool x3, .bool x4, .bool x5] 70))) := Lib.hid ((Below.refl _ _).alloc (Nat.le_refl _) _)
  have HV := Lib.hid (hv.later B0.out)
  have HX := Lib.hid (cells7_made w ⟨eo, ec, ⟨x1, x2, x3, x4, x5⟩⟩ 70)
  have HE := Lib.hid (entry_any ec eo)
  obtain ⟨a, cap, rfl, hm⟩ := hv.open'
  go_enter Try.func54, Try.ntmps54
  go_wp2_with fail
  refine (HE.out _).mono ?_
  rintro e w1 ⟨rfl, b1⟩
  go_wp2_with fail
  refine (find_no (HV.out.later b1) hr ec eo false false false false false hno).mono ?_
  rintro e w2 ⟨rfl, b2⟩
  have B2 := Lib.hid (below2S B0.out (below2S b1 b2))
  clear b1 b2
  go_wp2_with fail
  go_ret
  refine ⟨rfl, ?_⟩
  repeat (first | exact B2.out | refine Below.setCell ?_ (by first | (simp; done) | (simp; omega)) _ | (refine Below.alloc ?_ (by first | exact B2.out.size | (simp; done) | (simp; omega)) _))

set_option maxHeartbeats 1600000 in
set_option maxRecDepth 100000 in
theorem paired_yes {w : World} {v : Value} {l : List Ent} (hv : Ents w v l) (hr : Rise l) (eo ec : List UInt8) (x1 x2 x3 x4 x5 : Bool) {fo fc : List UInt8} {i1 i2 i3 i4 i5 : Bool} (hlt : entPlace l ⟨ec, eo, ⟨false, false, false, false, false⟩⟩ < l.length) (he : l.getD (entPlace l ⟨ec, eo, ⟨false, false, false, false, false⟩⟩) Ent.zero = ⟨fo, fc, ⟨i1, i2, i3, i4, i5⟩⟩) (hs : entIs ⟨fo, fc, ⟨i1, i2, i3, i4, i5⟩⟩ ⟨ec, eo, ⟨false, false, false, false, false⟩⟩ = true) :
    Calls Try.prog 54 #[v, .agg #[.string ⟨eo.toArray⟩, .string ⟨ec.toArray⟩, .bool x1, .bool x2, .bool x3, .bool x4, .bool x5]] w fun e w' => e = .returned (.bool (suMay ⟨x1, x2, x3, x4, x5⟩ ⟨i1, i2, i3, i4, i5⟩ && !(suEmpty ⟨x1, x2, x3, x4, x5⟩ && suEmpty ⟨i1, i2, i3, i4, i5⟩))) ∧ Below w.heap.size w w' := by
  have B0 : Hid (Below w.heap.size w (w.alloc (.cells #[.string ⟨eo.toArray⟩, .string ⟨ec.toArray⟩, .bool x1, .bool x2, .bool x3, .bool x4, .bool x5] 70))) := Lib.hid ((Below.refl _ _).alloc (Nat.le_refl _) _)
  obtain ⟨m, hm0⟩ : ∃ m, suMay ⟨x1, x2, x3, x4, x5⟩ ⟨i1, i2, i3, i4, i5⟩ = m := ⟨_, rfl⟩
  obtain ⟨z, hz0⟩ : ∃ z, suEmpty ⟨x1, x2, x3, x4, x5⟩ = z := ⟨_, rfl⟩
  obtain ⟨y, hy0⟩ : ∃ y, suEmpty ⟨i1, i2, i3, i4, i5⟩ = y := ⟨_, rfl⟩
  rw [hm0, hz0, hy0]
  have HM := Lib.hid (smay_bl _ _ _ _ _ _ _ _ _ _ hm0)
  have HZ := Lib.hid (sempty_eq _ _ _ _ _ hz0)
  have HY := Lib.hid (sempty_eq _ _ _ _ _ hy0)
  clear hm0 hz0 hy0
  have HV := Lib.hid (hv.later B0.out)
  have HX := Lib.hid (cells7_made w ⟨eo, ec, ⟨x1, x2, x3, x4, x5⟩⟩ 70)
  have HE := Lib.hid (entry_any ec eo)
  obtain ⟨a, cap, rfl, hm⟩ := hv.open'
  cases m <;> cases z
  all_goals
    go_enter Try.func54, Try.ntmps54
    go_wp2_with fail
    refine (HE.out _).mono ?_
    rintro e w1 ⟨rfl, b1⟩
    go_wp2_with fail
    refine (find_yes (HV.out.later b1) hr ec eo false false false false false hlt he hs).mono ?_
    rintro e w2 ⟨rfl, b2⟩
    have b3 := below2S (below2S b1 b2) ((Below.refl _ _).alloc (Nat.le_refl _) (.cells #[.string ⟨fo.toArray⟩, .string ⟨fc.toArray⟩, .bool i1, .bool i2, .bool i3, .bool i4, .bool i5] 70))
    have B3 := Lib.hid (below2S B0.out b3)
    have X3 := Lib.hid (HX.out.later b3)
    have Y3 := Lib.hid (cells7_made w2 ⟨fo, fc, ⟨i1, i2, i3, i4, i5⟩⟩ 70)
    obtain ⟨c0, c1, c2, c3, c4, c5, c6⟩ := X3.out
    obtain ⟨d0, d1, d2, d3, d4, d5, d6⟩ := Y3.out
    simp only [Nat.zero_add] at c0 c1 c2 c3 c4 c5 c6 d0 d1 d2 d3 d4 d5 d6
    clear b1 b2 b3
    go_wp2_with fail
    refine (HM.out _).mono ?_
    rintro e w4 ⟨rfl, b4⟩
    have B4 := Lib.hid (below2S B3.out b4)
    have X4 := Lib.hid (X3.out.later b4)
    have Y4 := Lib.hid (Y3.out.later b4)
    obtain ⟨c0, c1, c2, c3, c4, c5, c6⟩ := X4.out
    obtain ⟨d0, d1, d2, d3, d4, d5, d6⟩ := Y4.out
    simp only [Nat.zero_add] at c0 c1 c2 c3 c4 c5 c6 d0 d1 d2 d3 d4 d5 d6
    clear b4
    go_wp2_with fail
  · go_ret
    exact ⟨rfl, B4.out⟩
  · go_ret
    exact ⟨rfl, B4.out⟩
  · refine (HZ.out _).mono ?_
    rintro e w5 ⟨rfl, b5⟩
    have B5 := Lib.hid (below2S B4.out b5)
    clear b5
    go_wp2_with fail
    go_ret
    exact ⟨rfl, B5.out⟩
  · refine (HZ.out _).mono ?_
    rintro e w5 ⟨rfl, b5⟩
    have B5 := Lib.hid (below2S B4.out b5)
    obtain ⟨d0, d1, d2, d3, d4, d5, d6⟩ := Y4.out.later b5
    simp only [Nat.zero_add] at d0 d1 d2 d3 d4 d5 d6
    clear b5
    go_wp2_with fail
    refine (HY.out _).mono ?_
    rintro e w6 ⟨rfl, b6⟩
    have B6 := Lib.hid (below2S B5.out b6)
    clear b6
    go_wp2_with fail
    go_ret
    exact ⟨rfl, B6.out⟩

end Go.Proofs.Ytlckphdmflofgaa
end

section
/-
  LAYER 8, THE CODE: whether entries are of names, and rise.
-/
namespace Go.Proofs.Ytlckphdmflofgaa
open Go.RowKit

/-- One entry is of two names, and stands behind the one ahead. -/
def riseAt (l : List Ent) (i : Nat) : Bool :=
  idIs (l.getD i Ent.zero).o && (idIs (l.getD i Ent.zero).c && (!decide ((l.getD i Ent.zero).o = (l.getD i Ent.zero).c) && (decide (i = 0) || entLt (l.getD (i - 1) Ent.zero) (l.getD i Ent.zero))))

def riseB (l : List Ent) : Bool := (List.range l.length).all (riseAt l)

theorem riseB_off {l : List Ent} {k : Nat} (hk : k < l.length) (h : riseAt l k = false) : riseB l = false := by
  rw [Bool.eq_false_iff]
  intro h'
  unfold riseB at h'
  rw [List.all_eq_true] at h'
  rw [h' k (by simpa using hk)] at h
  cases h

theorem rise_next {l : List Ent} {k : Nat} (h : (List.range k).all (riseAt l) = true) (hk : riseAt l k = true) : (List.range (k + 1)).all (riseAt l) = true := by
  rw [List.range_succ, List.all_append, h]
  simp [hk]

theorem riseB_at {l : List Ent} (h : riseB l = true) {k : Nat} (hk : k < l.length) : riseAt l k = true := by
  unfold riseB at h
  rw [List.all_eq_true] at h
  exact h k (by simpa using hk)

/-- What rises one by one rises. -/
theorem riseB_rise {l : List Ent} (h : riseB l = true) : Rise l := by
  have step : ∀ k, k + 1 < l.length → entLt (l.getD k Ent.zero) (l.getD (k + 1) Ent.zero) = true := by
    intro k hk
    have := riseB_at h hk
    unfold riseAt at this
    simp only [Bool.and_eq_true, Bool.or_eq_true, decide_eq_true_eq] at this
    rcases this.2.2.2 with h0 | h0
    · omega
    · rwa [show k + 1 - 1 = k by omega] at h0
  have far : ∀ d i, i + (d + 1) < l.length → entLt (l.getD i Ent.zero) (l.getD (i + (d + 1)) Ent.zero) = true := by
    intro d
    induction d with
    | zero => intro i hi; exact step i hi
    | succ d ih =>
      intro i hi
      exact entLt_trans (ih i (by omega)) (step (i + (d + 1)) (by omega))
  refine List.pairwise_iff_getElem.2 fun i j hi hj hij => ?_
  obtain ⟨d, rfl⟩ : ∃ d, j = i + (d + 1) := ⟨j - i - 1, by omega⟩
  have := far d i hj
  rwa [getD_at hi, getD_at hj] at this

theorem entI_ge {a b : Ent} {n : Int} (h : entI a b = n) : decide (0 ≤ n) = !entLt a b := by
  have hl := entI_lt a b
  rw [h] at hl
  cases hc : entLt a b with
  | true => rw [hc] at hl; have : n < 0 := by rw [hl]
            simp; omega
  | false => rw [hc] at hl; have : ¬ n < 0 := by rw [hl]; decide
             simp; omega

set_option maxHeartbeats 3200000 in
set_option maxRecDepth 100000 in
theorem rises_any {w : World} {v : Value} {l : List Ent} (hv : Ents w v l) (hs : ShortE l) :
    Calls Try.prog 52 #[v] w fun e w' => e = .returned (.bool (riseB l)) ∧ Below w.heap.size w w' := by
  have HV := Lib.hid hv
  have HS := Lib.hid hs
  obtain ⟨a, cap, rfl, hm⟩ := hv.open'
  clear hv hs
  go_enter Try.func52, Try.ntmps52
  go_wp2_with fail
  go_loopw [7] (fun i wr => ∃ k : Nat, k ≤ l.length ∧ i = .int .i64 k ∧ Hid (Below w.heap.size w wr) ∧ Hid ((List.range k).all (riseAt l) = true)) (fun i _ => l.length - (intOf i).toNat)
  case atStart => exact ⟨0, by omega, rfl, Below.refl _ _, by show _ = _; simp⟩
  case round =>
    obtain ⟨k, hk, rfl, HB, HA⟩ := hrel
    by_cases hlt : k < l.length
    · obtain ⟨b, off, rfl, h0, h1, h2, h3, h4, h5, h6⟩ := HV.out.row HB.out k hlt
      obtain ⟨hl1, hl2⟩ := HS.out.get hlt
      obtain ⟨⟨eo, ec, ⟨i1, i2, i3, i4, i5⟩⟩, hr⟩ : ∃ r, l.getD k Ent.zero = r := ⟨_, rfl⟩
      rw [hr] at h0 h1 h2 h3 h4 h5 h6 hl1 hl2
      simp only at h0 h1 h2 h3 h4 h5 h6 hl1 hl2
      have B1 := Lib.hid (bl_allocS HB.out (.cells #[.string ⟨eo.toArray⟩, .string ⟨ec.toArray⟩, .bool i1, .bool i2, .bool i3, .bool i4, .bool i5] 70))
      have C1 := Lib.hid (cells7_made wr ⟨eo, ec, ⟨i1, i2, i3, i4, i5⟩⟩ 70)
      cases hi : idIs eo with
      | false =>
        have HR : Hid (riseB l = false) := by show _ = _; exact riseB_off hlt (by unfold riseAt; rw [hr]; simp only; simp [hi])
        have HI := Lib.hid (is_eq eo hl1 (r := false) (Lib.hid hi))
        clear hi hr
        go_wp2_with fail
        refine (HI.out _).mono ?_
        rintro e w2 ⟨rfl, b2⟩
        have B2 := Lib.hid (below2S B1.out b2)
        clear b2
        go_wp2_with fail
        go_ret
        exact ⟨by rw [HR.out]; rfl, B2.out⟩
      | true =>
        have HI := Lib.hid (is_eq eo hl1 (r := true) (Lib.hid hi))
        cases hj : idIs ec with
        | false =>
          have HR : Hid (riseB l = false) := by show _ = _; exact riseB_off hlt (by unfold riseAt; rw [hr]; simp only; simp [hi, hj])
          have HJ := Lib.hid (is_eq ec hl2 (r := false) (Lib.hid hj))
          clear hi hj hr
          go_wp2_with fail
          refine (HI.out _).mono ?_
          rintro e w2 ⟨rfl, b2⟩
          have B2 := Lib.hid (below2S B1.out b2)
          obtain ⟨c0, c1, c2, c3, c4, c5, c6⟩ := C1.out.later b2
          simp only [Nat.zero_add] at c0 c1 c2 c3 c4 c5 c6
          clear b2
          go_wp2_with fail
          refine (HJ.out _).mono ?_
          rintro e w3 ⟨rfl, b3⟩
          have B3 := Lib.hid (below2S B2.out b3)
          clear b3 c0 c1 c2 c3 c4 c5 c6
          go_wp2_with fail
          go_ret
          exact ⟨by rw [HR.out]; rfl, B3.out⟩
        | true =>
          have HJ := Lib.hid (is_eq ec hl2 (r := true) (Lib.hid hj))
          by_cases hoc : eo = ec
          · subst hoc
            have HR : Hid (riseB l = false) := by show _ = _; exact riseB_off hlt (by unfold riseAt; rw [hr]; simp)
            clear hi hj hr
            go_wp2_with fail
            refine (HI.out _).mono ?_
            rintro e w2 ⟨rfl, b2⟩
            have B2 := Lib.hid (below2S B1.out b2)
            have C2 := Lib.hid (C1.out.later b2)
            obtain ⟨c0, c1, c2, c3, c4, c5, c6⟩ := C2.out
            simp only [Nat.zero_add] at c0 c1 c2 c3 c4 c5 c6
            have HB2 := Lib.hid b2
            clear b2
            go_wp2_with fail
            refine (HJ.out _).mono ?_
            rintro e w3 ⟨rfl, b3⟩
            have B3 := Lib.hid (below2S B2.out b3)
            have C3 := Lib.hid (C2.out.later b3)
            have HB3 := Lib.hid b3
            clear b3 c0 c1 c2 c3 c4 c5 c6
            obtain ⟨c0, c1, c2, c3, c4, c5, c6⟩ := C3.out
            simp only [Nat.zero_add] at c0 c1 c2 c3 c4 c5 c6
            go_wp2_with fail
            go_ret
            exact ⟨by rw [HR.out]; rfl, B3.out⟩
          · have toc : (eo == ec) = false := by rw [beq_eq_false_iff_ne]; exact hoc
            rcases Nat.eq_zero_or_pos k with rfl | hpos
            · have HA2 : Hid ((List.range (0 + 1)).all (riseAt l) = true) := by show _ = _; exact rise_next HA.out (by unfold riseAt; rw [hr]; simp [hi, hj, hoc])
              clear hi hj hr hoc
              simp only [Nat.zero_mul, Nat.add_zero] at h0 h1 h2 h3 h4 h5 h6
              go_wp2_with fail
              refine (HI.out _).mono ?_
              rintro e w2 ⟨rfl, b2⟩
              have B2 := Lib.hid (below2S B1.out b2)
              have C2 := Lib.hid (C1.out.later b2)
              obtain ⟨c0, c1, c2, c3, c4, c5, c6⟩ := C2.out
              simp only [Nat.zero_add] at c0 c1 c2 c3 c4 c5 c6
              have HB2 := Lib.hid b2
              clear b2
              go_wp2_with fail
              refine (HJ.out _).mono ?_
              rintro e w3 ⟨rfl, b3⟩
              have B3 := Lib.hid (below2S B2.out b3)
              have C3 := Lib.hid (C2.out.later b3)
              have HB3 := Lib.hid b3
              clear b3 c0 c1 c2 c3 c4 c5 c6
              obtain ⟨c0, c1, c2, c3, c4, c5, c6⟩ := C3.out
              simp only [Nat.zero_add] at c0 c1 c2 c3 c4 c5 c6
              go_wp2_with fail
              have q0 := cell_regrown c0
              have q1 := cell_regrown c1
              have q2 := cell_regrown c2
              have q3 := cell_regrown c3
              have q4 := cell_regrown c4
              have q5 := cell_regrown c5
              have q6 := cell_regrown c6
              clear c0 c1 c2 c3 c4 c5 c6
              refine wp_region_quiet_below (by kernel_rfl) (by kernel_rfl) ?_
              repeat (go_big_quiet_step (fail))
              refine wpQuiet_nil ?_
              intro w5 hw5
              have B5 := Lib.hid (below2S B3.out (regrown_belowP hw5))
              clear hw5 q0 q1 q2 q3 q4 q5 q6
              go_wp2_with fail
              go_roundw
              case rel => exact ⟨1, by omega, by go_num, B5, HA2⟩
              case measure => simp [intOf]; omega
            · obtain ⟨j, rfl⟩ : ∃ j, k = j + 1 := ⟨k - 1, by omega⟩
              obtain ⟨b2, off2, e2, hP⟩ := HV.out.row HB.out j (by omega)
              injection e2 with e2
              injection e2 with e3 e4 _
              subst e3 e4
              obtain ⟨⟨po, pc, ⟨j1, j2, j3, j4, j5⟩⟩, hr2⟩ : ∃ r, l.getD j Ent.zero = r := ⟨_, rfl⟩
              rw [hr2] at hP
              have HP := Lib.hid hP
              have HCmp := Lib.hid (rcompare_any po pc eo ec j1 j2 j3 j4 j5 i1 i2 i3 i4 i5)
              obtain ⟨n, hn⟩ : ∃ n, entI ⟨po, pc, ⟨j1, j2, j3, j4, j5⟩⟩ ⟨eo, ec, ⟨i1, i2, i3, i4, i5⟩⟩ = n := ⟨_, rfl⟩
              have hge := entI_ge hn
              rw [hn] at HCmp
              clear hn hP
              cases hc : entLt ⟨po, pc, ⟨j1, j2, j3, j4, j5⟩⟩ ⟨eo, ec, ⟨i1, i2, i3, i4, i5⟩⟩ with
              | true =>
                rw [hc] at hge
                simp only [Bool.not_true] at hge
                have HA2 : Hid ((List.range (j + 1 + 1)).all (riseAt l) = true) := by show _ = _; exact rise_next HA.out (by unfold riseAt; rw [hr, show j + 1 - 1 = j by omega, hr2]; simp [hi, hj, hoc, hc])
                clear hi hj hr hoc hr2 hc
                go_wp2_with fail
                refine (HI.out _).mono ?_
                rintro e w2 ⟨rfl, b2⟩
                have B2 := Lib.hid (below2S B1.out b2)
                have C2 := Lib.hid (C1.out.later b2)
                obtain ⟨c0, c1, c2, c3, c4, c5, c6⟩ := C2.out
                simp only [Nat.zero_add] at c0 c1 c2 c3 c4 c5 c6
                have HB2 := Lib.hid b2
                clear b2
                go_wp2_with fail
                refine (HJ.out _).mono ?_
                rintro e w3 ⟨rfl, b3⟩
                have B3 := Lib.hid (below2S B2.out b3)
                have C3 := Lib.hid (C2.out.later b3)
                have HB3 := Lib.hid b3
                clear b3 c0 c1 c2 c3 c4 c5 c6
                obtain ⟨c0, c1, c2, c3, c4, c5, c6⟩ := C3.out
                simp only [Nat.zero_add] at c0 c1 c2 c3 c4 c5 c6
                go_wp2_with fail
                obtain ⟨p0, p1, p2, p3, p4, p5, p6⟩ := cells7_regrown (HP.out.later (below2S (below2S ((Below.refl _ _).alloc (Nat.le_refl _) _) HB2.out) HB3.out))
                have q0 := cell_regrown c0
                have q1 := cell_regrown c1
                have q2 := cell_regrown c2
                have q3 := cell_regrown c3
                have q4 := cell_regrown c4
                have q5 := cell_regrown c5
                have q6 := cell_regrown c6
                clear c0 c1 c2 c3 c4 c5 c6
                refine wp_region_quiet_below (by kernel_rfl) (by kernel_rfl) ?_
                repeat (go_big_quiet_step (with_reducible exact rgB HCmp.out _ _ _))
                refine wpQuiet_nil ?_
                intro w5 hw5
                have B5 := Lib.hid (below2S B3.out (regrown_belowP hw5))
                clear hw5 p0 p1 p2 p3 p4 p5 p6 q0 q1 q2 q3 q4 q5 q6
                go_wp2_with fail
                go_roundw
                case rel => exact ⟨j + 1 + 1, by omega, by go_num, B5, HA2⟩
                case measure => simp [intOf]; omega
              | false =>
                rw [hc] at hge
                simp only [Bool.not_false] at hge
                have HR : Hid (riseB l = false) := by show _ = _; exact riseB_off hlt (by unfold riseAt; rw [hr, show j + 1 - 1 = j by omega, hr2]; simp [hc])
                clear hi hj hr hoc hr2 hc
                go_wp2_with fail
                refine (HI.out _).mono ?_
                rintro e w2 ⟨rfl, b2⟩
                have B2 := Lib.hid (below2S B1.out b2)
                have C2 := Lib.hid (C1.out.later b2)
                obtain ⟨c0, c1, c2, c3, c4, c5, c6⟩ := C2.out
                simp only [Nat.zero_add] at c0 c1 c2 c3 c4 c5 c6
                have HB2 := Lib.hid b2
                clear b2
                go_wp2_with fail
                refine (HJ.out _).mono ?_
                rintro e w3 ⟨rfl, b3⟩
                have B3 := Lib.hid (below2S B2.out b3)
                have C3 := Lib.hid (C2.out.later b3)
                have HB3 := Lib.hid b3
                clear b3 c0 c1 c2 c3 c4 c5 c6
                obtain ⟨c0, c1, c2, c3, c4, c5, c6⟩ := C3.out
                simp only [Nat.zero_add] at c0 c1 c2 c3 c4 c5 c6
                go_wp2_with fail
                obtain ⟨p0, p1, p2, p3, p4, p5, p6⟩ := cells7_regrown (HP.out.later (below2S (below2S ((Below.refl _ _).alloc (Nat.le_refl _) _) HB2.out) HB3.out))
                have q0 := cell_regrown c0
                have q1 := cell_regrown c1
                have q2 := cell_regrown c2
                have q3 := cell_regrown c3
                have q4 := cell_regrown c4
                have q5 := cell_regrown c5
                have q6 := cell_regrown c6
                clear c0 c1 c2 c3 c4 c5 c6
                refine wp_region_quiet_below (by kernel_rfl) (by kernel_rfl) ?_
                repeat (go_big_quiet_step (with_reducible exact rgB HCmp.out _ _ _))
                refine wpQuiet_nil ?_
                intro w5 hw5
                have B5 := Lib.hid (below2S B3.out (regrown_belowP hw5))
                clear hw5 p0 p1 p2 p3 p4 p5 p6 q0 q1 q2 q3 q4 q5 q6
                go_wp2_with fail
                go_ret
                exact ⟨by rw [HR.out]; rfl, B5.out⟩
    · obtain rfl : k = l.length := by omega
      have HR : Hid (riseB l = true) := HA
      go_wp2_with fail
      go_ret
      exact ⟨by rw [HR.out]; rfl, HB.out⟩

end Go.Proofs.Ytlckphdmflofgaa
end

section
/-
  LAYER 8, THE CODE: whether an entry is one more than its Owner may have.
-/
namespace Go.Proofs.Ytlckphdmflofgaa
open Go.RowKit

set_option maxHeartbeats 1600000 in
set_option maxRecDepth 100000 in
theorem over_any {w : World} {v : Value} {l : List Ent} (hv : Ents w v l) {k : Nat} (hk : k < l.length) :
    Calls Try.prog 53 #[v, .int .i64 k] w fun e w' => e = .returned (.bool (roOver l k)) ∧ Below w.heap.size w w' := by
  have HV := Lib.hid hv
  obtain ⟨a, cap, rfl, hm⟩ := hv.open'
  clear hv
  by_cases h16 : 16 ≤ k
  · obtain ⟨b, off, rfl, hA⟩ := HV.out.row (Below.refl _ _) (k - 16) (by omega)
    obtain ⟨b2, off2, e2, hB⟩ := HV.out.row (Below.refl _ _) k hk
    injection e2 with e2
    injection e2 with e3 e4 _
    subst e3 e4
    obtain ⟨x, hx⟩ : ∃ x, (l.getD (k - 16) Ent.zero).o = x := ⟨_, rfl⟩
    obtain ⟨y, hy⟩ : ∃ y, (l.getD k Ent.zero).o = y := ⟨_, rfl⟩
    have g0 := cell_regrown hA.1
    have g1 := cell_regrown hB.1
    rw [hx] at g0
    rw [hy] at g1
    have HR : Hid (roOver l k = (x == y)) := by
      show _ = _
      unfold roOver
      rw [hx, hy, show decide (16 ≤ k) = true by simpa using h16, Bool.true_and]
      by_cases h : x = y <;> simp [h]
    obtain ⟨r, hr⟩ : ∃ r, (x == y) = r := ⟨_, rfl⟩
    rw [HR.out, hr]
    have t1 : decide (16 ≤ (k : Int)) = true := by simp; omega
    have e16 : (16 : Int) ≤ (k : Int) := by omega
    have hj1 : (k : Int) - 16 < (l.length : Int) := by omega
    have hj0 : (0 : Int) ≤ (k : Int) - 16 := by omega
    have hj2 : (k : Int) < (l.length : Int) := by omega
    have hw : IntKind.i64.wrap ((k : Int) - 16) = (k : Int) - 16 := IntWalk.i64_in _ (by omega)
    have hn : ((k : Int) - 16).toNat = k - 16 := by omega
    clear hx hy HR hA hB
    go_enter Try.func53, Try.ntmps53
    go_wp2_with fail
    refine wp_region_quiet_below (by kernel_rfl) (by kernel_rfl) ?_
    repeat (go_big_quiet_step (fail))
    refine wpQuiet_nil ?_
    intro w5 hw5
    have B5 := Lib.hid (regrown_belowP hw5)
    clear hw5 g0 g1
    go_wp2_with fail
    go_ret
    exact ⟨rfl, B5.out⟩
  · have HR : Hid (roOver l k = false) := by show _ = _; unfold roOver; simp [h16]
    have t1 : decide (16 ≤ (k : Int)) = false := by simp; omega
    clear h16
    rw [HR.out]
    go_enter Try.func53, Try.ntmps53
    go_wp2_with fail
    refine wp_region_quiet_below (by kernel_rfl) (by kernel_rfl) ?_
    repeat (go_big_quiet_step (fail))
    refine wpQuiet_nil ?_
    intro w5 hw5
    have B5 := Lib.hid (regrown_belowP hw5)
    clear hw5
    go_wp2_with fail
    go_ret
    exact ⟨rfl, B5.out⟩

end Go.Proofs.Ytlckphdmflofgaa
end
