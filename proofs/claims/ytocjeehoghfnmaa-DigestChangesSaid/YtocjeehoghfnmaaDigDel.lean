/-
  THE CONTRACTS OF slices.Clone, slices.IndexFunc, slices.DeleteFunc (of rows, at the one predicate that asks for a Contact) AND OF digest.without.
-/
import Derived.Test.YtocjeehoghfnmaaDigLay
import Derived.Test.YtocjeehoghfnmaaDigGet
import Derived.WalkSpells
namespace Go.Proofs.Ytocjeehoghfnmaa
open Go.RowKit

set_option maxHeartbeats 800000 in
set_option maxRecDepth 100000 in
theorem del_any {w : World} {B : Nat} {key : List UInt8} (hk : w.cell? ⟨B, 0, none⟩ = some (.string ⟨key.toArray⟩)) (c st : List UInt8) (x y z : Int) :
    Calls Try.prog 95 #[.agg #[.string ⟨c.toArray⟩, .int .i64 x, .int .i64 y, .int .i64 z, .string ⟨st.toArray⟩], .pointer (some ⟨B, 0, none⟩)] w fun e w' => e = .returned (.bool (c == key)) ∧ Below w.heap.size w w' := by
  have hB := World.block_lt_of_cell? w _ hk
  simp only at hB
  go_enter Try.func95, Try.ntmps95
  go_wp2_with fail
  go_ret
  exact ⟨rfl, (Below.refl _ _).alloc (Nat.le_refl _) _⟩

theorem del_eq {w : World} {B : Nat} {key : List UInt8} (hk : w.cell? ⟨B, 0, none⟩ = some (.string ⟨key.toArray⟩)) {c st : List UInt8} {x y z : Int} {r : Bool} (h : Hid ((c == key) = r)) :
    Calls Try.prog 95 #[.agg #[.string ⟨c.toArray⟩, .int .i64 x, .int .i64 y, .int .i64 z, .string ⟨st.toArray⟩], .pointer (some ⟨B, 0, none⟩)] w fun e w' => e = .returned (.bool r) ∧ Below w.heap.size w w' := by
  have := del_any hk c st x y z
  rwa [h.out] at this

/-- Where the first row of a Contact stands. -/
def Found (t : List Row) (key : List UInt8) (n : Int) : Prop :=
  (∃ k : Nat, k < t.length ∧ n = k ∧ (t.getD k Row.zero).c = key ∧ ∀ j, j < k → ¬ (t.getD j Row.zero).c = key) ∨ (n = -1 ∧ ∀ j, j < t.length → ¬ (t.getD j Row.zero).c = key)

set_option maxHeartbeats 1600000 in
set_option maxRecDepth 100000 in
theorem indexf_any {w : World} {v : Value} {t : List Row} (hv : Tab w v t) {B : Nat} {key : List UInt8} (hk : w.cell? ⟨B, 0, none⟩ = some (.string ⟨key.toArray⟩)) :
    Calls Try.prog 122 #[v, .func (.func 95) #[] #[.pointer (some ⟨B, 0, none⟩)]] w fun e w' => ∃ n, e = .returned (.int .i64 n) ∧ Found t key n ∧ Below w.heap.size w w' := by
  have HV := Lib.hid hv
  have HK := Lib.hid hk
  obtain ⟨a, cap, rfl, hm⟩ := hv.open'
  clear hv hk
  go_enter Try.func122, Try.ntmps122
  go_wp2_with fail
  go_loopw [8] (fun i wr => ∃ k : Nat, k ≤ t.length ∧ i = .int .i64 k ∧ Hid (Below w.heap.size w wr) ∧ Hid (∀ j, j < k → ¬ (t.getD j Row.zero).c = key)) (fun i _ => t.length - (intOf i).toNat)
  case atStart => exact ⟨0, by omega, rfl, Below.refl _ _, fun j hj => absurd hj (by omega)⟩
  case round =>
    obtain ⟨k, hk, rfl, HN, HA⟩ := hrel
    by_cases hlt : k < t.length
    · obtain ⟨b, off, rfl, h0, h1, h2, h3, h4⟩ := HV.out.row HN.out k hlt
      obtain ⟨⟨c, ⟨x, y, z, st⟩⟩, hr⟩ : ∃ r, t.getD k Row.zero = r := ⟨_, rfl⟩
      rw [hr] at h0 h1 h2 h3 h4
      have HR := Lib.hid hr
      simp only at h0 h1 h2 h3 h4
      have HKr := Lib.hid (cell_later HK.out HN.out)
      clear hr
      cases hc : (c == key) with
      | true =>
        have HD := Lib.hid (del_eq (c := c) (st := st) (x := x) (y := y) (z := z) HKr.out (Lib.hid hc))
        have HF : Hid (Found t key k) := .inl ⟨k, hlt, rfl, by rw [HR.out]; simpa using hc, HA.out⟩
        clear hc
        go_wp2_with fail
        refine HD.out.mono ?_
        rintro e w1 ⟨rfl, hb1⟩
        have N1 := Lib.hid (below2' HN.out hb1)
        clear hb1 h0 h1 h2 h3 h4
        go_wp2_with fail
        go_ret
        exact ⟨_, rfl, HF.out, N1.out⟩
      | false =>
        have HD := Lib.hid (del_eq (c := c) (st := st) (x := x) (y := y) (z := z) HKr.out (Lib.hid hc))
        have HA2 : Hid (∀ j, j < k + 1 → ¬ (t.getD j Row.zero).c = key) := by
          show ∀ j, j < k + 1 → _
          intro j hj
          by_cases hjk : j = k
          · rw [hjk, HR.out]; simpa using hc
          · exact HA.out j (by omega)
        clear hc
        go_wp2_with fail
        refine HD.out.mono ?_
        rintro e w1 ⟨rfl, hb1⟩
        have N1 := Lib.hid (below2' HN.out hb1)
        clear hb1 h0 h1 h2 h3 h4
        go_wp2_with fail
        go_roundw
        case rel => exact ⟨k + 1, by omega, by go_num, N1, HA2⟩
        case measure => simp [intOf]; omega
    · obtain rfl : k = t.length := by omega
      have HF : Hid (Found t key (-1)) := .inr ⟨rfl, HA.out⟩
      go_wp2_with fail
      go_ret
      exact ⟨_, rfl, HF.out, HN.out⟩

theorem rest_none {t : List Row} {key : List UInt8} (h : ∀ j, j < t.length → ¬ (t.getD j Row.zero).c = key) : diRest t key = t := by
  unfold diRest
  rw [List.filter_eq_self]
  intro r hr
  obtain ⟨k, hk, rfl⟩ := List.getElem_of_mem hr
  have := h k hk
  rw [row_get hk]
  simpa using this

theorem rest_next {t : List Row} {key : List UInt8} {j : Nat} (hj : j < t.length) {r : Row} (hr : t.getD j Row.zero = r) :
    (r.c = key → diRest (t.take (j + 1)) key = diRest (t.take j) key) ∧ (¬ r.c = key → diRest (t.take (j + 1)) key = diRest (t.take j) key ++ [r]) := by
  unfold diRest
  rw [List.take_succ_eq_append_getElem hj, row_get hj, hr, List.filter_append]
  constructor
  · intro h
    simp [h]
  · intro h
    simp [h]

theorem set_take_next {u : List Row} {i : Nat} (hi : i < u.length) (r : Row) : (u.set i r).take (i + 1) = u.take i ++ [r] := by
  rw [List.take_set, List.set_eq_take_append_cons_drop]
  rw [if_pos (by rw [List.length_take]; omega)]
  rw [List.take_take, List.drop_of_length_le (by rw [List.length_take]; omega), show min i (i + 1) = i by omega]

theorem ownR_cut {w : World} {base g n cap : Nat} {u : List Row} (h : OwnR w base (.slice (some ⟨g, 0, none⟩) n cap) u) {i : Nat} (hi : i ≤ u.length) : OwnR w base (.slice (some ⟨g, 0, none⟩) i cap) (u.take i) := by
  rcases h with ⟨h1, ⟨h', _⟩ | ⟨g', cap', cur, h', hb, hg, hnc, hcm, hcs, htk⟩⟩
  · simp at h'
  · simp only [Value.slice.injEq, Option.some.injEq, Addr.mk.injEq, and_true] at h'
    obtain ⟨rfl, h2, rfl⟩ := h'
    have hl : (u.take i).length = i := by rw [List.length_take]; omega
    refine ⟨by rw [cellsOf_len], .inr ⟨g, cap, cur, by rw [hl], hb, hg, by omega, hcm, hcs, ?_⟩⟩
    rw [hl, ← cellsOf_take, ← htk, List.take_take, show min (i * 5) (u.length * 5) = i * 5 by omega]

/-- What a row of the table holds, at its cells. -/
theorem OwnR.row {w : World} {base g n cap : Nat} {u : List Row} (h : OwnR w base (.slice (some ⟨g, 0, none⟩) n cap) u) {k : Nat} (hk : k < u.length) : Cells5 w g (k * 5) (u.getD k Row.zero) := by
  refine cells5_of fun j x hx => ?_
  have hj : j < 5 := by have := (List.getElem?_eq_some_iff.1 hx).1; rwa [rowVals_len] at this
  rw [h.cellAt _ (by omega), cellsOf_at u k j hk hj, hx]

theorem below_store5 {B g : Nat} {w0 w : World} (h : Below B w0 w) (hB : B ≤ g) (o0 o1 o2 o3 o4 : Nat) (a b c d e : Value) :
    Below B w0 (((((w.setCell ⟨g, o0, none⟩ a).setCell ⟨g, o1, none⟩ b).setCell ⟨g, o2, none⟩ c).setCell ⟨g, o3, none⟩ d).setCell ⟨g, o4, none⟩ e) :=
  ((((h.setCell hB a).setCell hB b).setCell hB c).setCell hB d).setCell hB e

/-- Where DeleteFunc stands: rows kept up to i, rows looked at up to j. -/
def DelAt (t u : List Row) (key : List UInt8) (i j : Nat) : Prop := u.length = t.length ∧ i < j ∧ j ≤ t.length ∧ u.take i = diRest (t.take j) key ∧ u.drop j = t.drop j

theorem delAt_start {t : List Row} {key : List UInt8} {k : Nat} (hk : k < t.length) (hc : (t.getD k Row.zero).c = key) (hn : ∀ j, j < k → ¬ (t.getD j Row.zero).c = key) : DelAt t t key k (k + 1) := by
  refine ⟨rfl, by omega, hk, ?_, rfl⟩
  rw [(rest_next hk rfl).1 hc]
  refine (rest_none fun j hj => ?_).symm
  rw [List.length_take] at hj
  have : (t.take k).getD j Row.zero = t.getD j Row.zero := by simp [List.getD, show j < k by omega]
  rw [this]
  exact hn j (by omega)

theorem delAt_row {t u : List Row} {key : List UInt8} {i j : Nat} (h : DelAt t u key i j) (hj : j < t.length) : u.getD j Row.zero = t.getD j Row.zero := by
  obtain ⟨h1, _, _, _, h5⟩ := h
  have a := List.drop_eq_getElem_cons (show j < u.length by omega)
  have b := List.drop_eq_getElem_cons hj
  rw [h5, b] at a
  rw [← row_get hj, ← row_get (show j < u.length by omega)]
  exact (List.cons.inj a).1.symm

theorem delAt_skip {t u : List Row} {key : List UInt8} {i j : Nat} (h : DelAt t u key i j) (hj : j < t.length) {r : Row} (hr : t.getD j Row.zero = r) (hc : r.c = key) : DelAt t u key i (j + 1) := by
  obtain ⟨h1, h2, h3, h4, h5⟩ := h
  refine ⟨h1, by omega, hj, by rw [(rest_next hj hr).1 hc, h4], ?_⟩
  have e : ∀ l : List Row, l.drop (j + 1) = (l.drop j).drop 1 := fun l => by rw [List.drop_drop]
  rw [e u, e t, h5]

theorem delAt_keep {t u : List Row} {key : List UInt8} {i j : Nat} (h : DelAt t u key i j) (hj : j < t.length) {r : Row} (hr : t.getD j Row.zero = r) (hc : ¬ r.c = key) : DelAt t (u.set i r) key (i + 1) (j + 1) := by
  obtain ⟨h1, h2, h3, h4, h5⟩ := h
  refine ⟨by simpa using h1, by omega, hj, by rw [set_take_next (by omega), h4, (rest_next hj hr).2 hc], ?_⟩
  have e : ∀ l : List Row, l.drop (j + 1) = (l.drop j).drop 1 := fun l => by rw [List.drop_drop]
  rw [List.drop_set, if_pos (by omega), e u, e t, h5]

set_option maxHeartbeats 3200000 in
set_option maxRecDepth 100000 in
theorem deletef_some {w : World} {base g n cap : Nat} {t : List Row} (ho : OwnR w base (.slice (some ⟨g, 0, none⟩) n cap) t) {B : Nat} {key : List UInt8} (hk : w.cell? ⟨B, 0, none⟩ = some (.string ⟨key.toArray⟩)) (hB : B < base) (hbase : base ≤ w.heap.size) :
    Calls Try.prog 93 #[.slice (some ⟨g, 0, none⟩) n cap, .func (.func 95) #[] #[.pointer (some ⟨B, 0, none⟩)]] w fun e w' => ∃ v, e = .returned v ∧ OwnR w' base v (diRest t key) ∧ Below base w w' := by
  have HO := Lib.hid ho
  have HK := Lib.hid hk
  obtain ⟨hn, hbg, hgw, hnc, hcm, _⟩ := ho.head
  subst hn
  unfold maxLen at hcm
  have HI := Lib.hid (indexf_any ho.tab hk)
  clear ho hk
  go_enter Try.func93, Try.ntmps93
  go_wp2_with fail
  refine HI.out.mono ?_
  rintro e w1 ⟨m, rfl, hf, hb1⟩
  have B1 := Lib.hid hb1
  have O1 := Lib.hid (HO.out.later hb1)
  clear hb1 HI HO
  rcases hf with ⟨k, hklt, rfl, hkc, hkn⟩ | ⟨rfl, hno⟩
  · have HD := Lib.hid (delAt_start hklt hkc hkn)
    have t0 : ((k : Int) == -1) = false := by simp
    clear hkc hkn
    go_wp2_with fail
    go_loopw [5, 6] (fun a b wr => ∃ (i j : Nat) (u : List Row), a = .int .i64 i ∧ b = .int .i64 j ∧ Hid (DelAt t u key i j) ∧ Hid (OwnR wr base (.slice (some ⟨g, 0, none⟩) t.length cap) u) ∧ Hid (Below base w wr)) (fun _ b _ => t.length - (intOf b).toNat)
    case atStart => exact ⟨k, k + 1, t, rfl, by go_num, HD, O1, B1.out.mono hbase⟩
    case round =>
      clear HD O1 B1 hklt
      obtain ⟨i, j, u, rfl, rfl, HD, HO, HN⟩ := hrel
      have hij := HD.out.2.1
      have hjn := HD.out.2.2.1
      have hul := HD.out.1
      by_cases hlt : j < t.length
      · obtain ⟨h0, h1, h2, h3, h4⟩ := HO.out.row (show j < u.length by omega)
        have hgr := HO.out.head.2.2.1
        have hrow := delAt_row HD.out hlt
        obtain ⟨⟨c, ⟨x, y, z, st⟩⟩, hr⟩ : ∃ r, t.getD j Row.zero = r := ⟨_, rfl⟩
        rw [hrow, hr] at h0 h1 h2 h3 h4
        simp only at h0 h1 h2 h3 h4
        have HR := Lib.hid hr
        have HKr := Lib.hid ((HN.out.cell (p := ⟨B, 0, none⟩) hB).trans HK.out)
        have hbr : base ≤ wr.heap.size := by omega
        clear hr hrow
        cases hc : (c == key) with
        | true =>
          have HD2 := Lib.hid (delAt_skip HD.out hlt HR.out (by simpa using hc))
          have hcell : (wr.alloc (.cells #[.string ⟨c.toArray⟩, .int .i64 x, .int .i64 y, .int .i64 z, .string ⟨st.toArray⟩] 48)).cell? ⟨B, 0, none⟩ = some (.string ⟨key.toArray⟩) := cell_later HKr.out ((Below.refl _ _).alloc (Nat.le_refl _) _)
          have HDel := Lib.hid (del_eq (c := c) (st := st) (x := x) (y := y) (z := z) hcell (Lib.hid hc))
          clear hc hcell
          go_wp2_with fail
          refine HDel.out.mono ?_
          rintro e w2 ⟨rfl, hb2⟩
          have bx := (box5 hb2).2
          have N2 := Lib.hid (HN.out.trans (bx.mono hbr))
          have O2 := Lib.hid (HO.out.later bx)
          clear hb2 bx h0 h1 h2 h3 h4
          go_wp2_with fail
          go_roundw
          case rel => exact ⟨i, j + 1, u, rfl, by go_num, HD2, O2, N2⟩
          case measure => simp [intOf]; omega
        | false =>
          have HD2 := Lib.hid (delAt_keep HD.out hlt HR.out (by simpa using hc))
          have hcell : (wr.alloc (.cells #[.string ⟨c.toArray⟩, .int .i64 x, .int .i64 y, .int .i64 z, .string ⟨st.toArray⟩] 48)).cell? ⟨B, 0, none⟩ = some (.string ⟨key.toArray⟩) := cell_later HKr.out ((Below.refl _ _).alloc (Nat.le_refl _) _)
          have HDel := Lib.hid (del_eq (c := c) (st := st) (x := x) (y := y) (z := z) hcell (Lib.hid hc))
          clear hc hcell
          go_wp2_with fail
          refine HDel.out.mono ?_
          rintro e w2 ⟨rfl, hb2⟩
          obtain ⟨⟨k0, k1, k2, k3, k4⟩, bx⟩ := box5 hb2
          have N2 := Lib.hid (HN.out.trans (bx.mono hbr))
          have O2 := Lib.hid (HO.out.later bx)
          have hsz := bx.size
          obtain ⟨s0, s1, s2, s3, s4⟩ := O2.out.row (show i < u.length by omega)
          have f0 := O2.out.frozenAt (i * 5)
          have f1 := O2.out.frozenAt (i * 5 + 1)
          have f2 := O2.out.frozenAt (i * 5 + 2)
          have f3 := O2.out.frozenAt (i * 5 + 3)
          have f4 := O2.out.frozenAt (i * 5 + 4)
          have O3 := Lib.hid (ownR_store O2.out i (by omega) ⟨c, x, y, z, st⟩)
          have N3 := Lib.hid (below_store5 N2.out hbg (i * 5) (i * 5 + 1) (i * 5 + 2) (i * 5 + 3) (i * 5 + 4) (.string ⟨c.toArray⟩) (.int .i64 x) (.int .i64 y) (.int .i64 z) (.string ⟨st.toArray⟩))
          clear hb2 bx h0 h1 h2 h3 h4 O2 N2
          go_wp2_with fail
          go_roundw
          case rel => exact ⟨i + 1, j + 1, u.set i ⟨c, x, y, z, st⟩, by go_num, by go_num, HD2, O3, N3⟩
          case measure => simp [intOf]; omega
      · obtain rfl : j = t.length := by omega
        have hR : u.take i = diRest t key := by have := HD.out.2.2.2.1; rwa [List.take_length] at this
        have HR := Lib.hid hR
        have hne : ¬ cap = i := by omega
        clear hR
        go_wp2_with (with_reducible refine wpList_clear_rows rfl (.tmp 38) rfl base g t.length cap u HO.out i (some ⟨g, i * 5, none⟩) (t.length - i) (cap - i) rfl (fun _ => rfl) (by omega) ?_)
        intro w3 h3 hb3
        have O3 := Lib.hid (ownR_cut h3 (i := i) (by rw [List.length_append, List.length_take, List.length_replicate]; omega))
        have N3 := Lib.hid (HN.out.trans (hb3.mono hbg))
        clear h3 hb3
        go_wp2_with fail
        go_ret
        refine ⟨_, rfl, ?_, N3.out⟩
        have := O3.out
        rw [List.take_append_of_le_length (by rw [List.length_take]; omega), List.take_take, Nat.min_self, HR.out] at this
        exact this
  · have HR := Lib.hid (rest_none hno)
    clear hno
    go_wp2_with fail
    go_ret
    exact ⟨_, rfl, by rw [HR.out]; exact O1.out, B1.out.mono hbase⟩

end Go.Proofs.Ytocjeehoghfnmaa
