/-
  LAYER 9, THE CODE: find, and place.
-/
import Derived.Test.YtkmbnpjnjlcjmaaSesKey
namespace Go.Proofs.Ytkmbnpjnjlcjmaa
open Go.RowKit

/-- What find tells. -/
def seFind (l : List Ses) (x : Ses) : Nat × Bool := match findO seIs l x with | some i => (i, true) | none => (0, false)

theorem seFind_yes {l : List Ses} {x : Ses} {k : Nat} (hk : k < l.length) (hn : ∀ j, j < k → seIs (l.getD j Ses.zero) x = false) (hs : seIs (l.getD k Ses.zero) x = true) : seFind l x = (k, true) := by
  unfold seFind
  rw [findO_of hk (by rw [← sgetD hk]; exact hs) (fun j hj => by rw [← sgetD (by omega : j < l.length)]; exact hn j hj)]

theorem seFind_no {l : List Ses} {x : Ses} (hn : ∀ j, j < l.length → seIs (l.getD j Ses.zero) x = false) : seFind l x = (0, false) := by
  unfold seFind
  rw [findO_of_none (fun y hy => by obtain ⟨i, hi, rfl⟩ := List.getElem_of_mem hy; rw [← sgetD hi]; exact hn i hi)]

theorem seFind_some {l : List Ses} {x : Ses} {k : Nat} (h : findO seIs l x = some k) : seFind l x = (k, true) := by unfold seFind; rw [h]
theorem seFind_none {l : List Ses} {x : Ses} (h : findO seIs l x = none) : seFind l x = (0, false) := by unfold seFind; rw [h]

/-- Two cells of a block. -/
theorem cells2k {w : World} {b o : Nat} {x y : Value} (h : CellsAt w b o [x, y]) : w.cell? ⟨b, o, none⟩ = some x ∧ w.cell? ⟨b, o + 1, none⟩ = some y := ⟨h 0 _ rfl, h 1 _ rfl⟩

set_option maxHeartbeats 1600000 in
set_option maxRecDepth 100000 in
theorem find_any {w : World} {v : Value} {l : List Ses} (hv : Sess w v l) (u : List UInt8) (id : Int) {i : Nat} {b : Bool} (h : Hid (seFind l (keyS u id) = (i, b))) :
    Calls Try.prog 56 #[v, .agg #[.string ⟨u.toArray⟩, .int .i64 id]] w fun e w' => e = .returned (.tuple #[.int .i64 i, .bool b]) ∧ Below w.heap.size w w' := by
  have HV := Lib.hid hv
  obtain ⟨a, cap, rfl, hm⟩ := hv.open'
  have HX := Lib.hid (cellsAt_made (w := w) (cs := #[.string ⟨u.toArray⟩, .int .i64 id]) (vs := [.string ⟨u.toArray⟩, .int .i64 id]) rfl 74 rfl)
  have B0 := Lib.hid (bl_newZ w (.cells #[.string ⟨u.toArray⟩, .int .i64 id] 74))
  clear hv
  go_enter Try.func56, Try.ntmps56
  go_wp2_with fail
  go_loopw [10] (fun i wr => ∃ k : Nat, k ≤ l.length ∧ i = .int .i64 k ∧ Hid (Below w.heap.size w wr) ∧ Hid (CellsAt wr w.heap.size 0 [.string ⟨u.toArray⟩, .int .i64 id]) ∧ Hid (∀ j, j < k → seIs (l.getD j Ses.zero) (keyS u id) = false)) (fun i _ => l.length - (intOf i).toNat)
  case atStart => exact ⟨0, by omega, rfl, B0, HX, by show ∀ _, _; intro j hj; omega⟩
  case round =>
    obtain ⟨k, hk, rfl, HB, HC, HN⟩ := hrel
    by_cases hlt : k < l.length
    · obtain ⟨bk, off, rfl, hc⟩ := HV.out.row HB.out k hlt
      obtain ⟨⟨eu, ei, ⟨ea, eb, ec, es⟩⟩, hr⟩ : ∃ r, l.getD k Ses.zero = r := ⟨_, rfl⟩
      rw [hr] at hc
      obtain ⟨h0, h1, h2, h3, h4, h5⟩ := cells6 hc
      try simp only at h0 h1 h2 h3 h4 h5
      have bn := bl_newZ wr (.cells #[.string ⟨eu.toArray⟩, .int .i64 ei, .int .i64 ea, .int .i64 eb, .int .i64 ec, .string ⟨es.toArray⟩] 34)
      have C1 := Lib.hid (cellsAt_made (w := wr) (cs := #[.string ⟨eu.toArray⟩, .int .i64 ei, .int .i64 ea, .int .i64 eb, .int .i64 ec, .string ⟨es.toArray⟩]) (vs := sesVals ⟨eu, ei, ⟨ea, eb, ec, es⟩⟩) rfl 34 rfl)
      have B1 := Lib.hid (below2Z HB.out bn)
      have HC1 := Lib.hid (HC.out.later bn)
      have HK := Lib.hid (keyOf_any eu es ei ea eb ec)
      obtain ⟨q, hq⟩ : ∃ q, seIs ⟨eu, ei, ⟨ea, eb, ec, es⟩⟩ (keyS u id) = q := ⟨_, rfl⟩
      have he : ∀ w, (binOp .eql 74 (.agg #[.string ⟨eu.toArray⟩, .int .i64 ei]) (.agg #[.string ⟨u.toArray⟩, .int .i64 id])).run Try.prog w = .ok (.bool q) w := fun w => by rw [key_eql, ← hq]; rfl
      have HQ : Hid (seIs (l.getD k Ses.zero) (keyS u id) = q) := by show _ = _; rw [hr]; exact hq
      clear hr hq hc bn
      go_wp2_with fail
      obtain ⟨q0, q1, q2, q3, q4, q5⟩ := cells6_regrown C1.out
      obtain ⟨y0, y1⟩ := cells2k HC1.out
      simp only [Nat.zero_add] at q0 q1 q2 q3 q4 q5 y0 y1
      replace y0 := cell_regrown y0
      replace y1 := cell_regrown y1
      clear h0 h1 h2 h3 h4 h5
      refine wp_region_quiet_below (by kernel_rfl) (by kernel_rfl) ?_
      repeat (go_big_quiet_step (with_reducible exact rgB HK.out _ _ _))
      refine wpQuiet_nil ?_
      intro w5 hw5
      have b5 := regrownZ hw5
      have B5 := Lib.hid (below2Z B1.out b5)
      have HC5 := Lib.hid (HC1.out.later b5)
      clear hw5 b5 q0 q1 q2 q3 q4 q5 y0 y1
      cases q with
      | true =>
        have HR := seFind_yes hlt HN.out HQ.out
        rw [h.out] at HR
        simp only [Prod.mk.injEq] at HR
        obtain ⟨rfl, rfl⟩ := HR
        go_wp2_with fail
        go_ret2
        exact ⟨rfl, B5.out⟩
      | false =>
        have HN2 : Hid (∀ j, j < k + 1 → seIs (l.getD j Ses.zero) (keyS u id) = false) := by
          show ∀ _, _
          intro j hj
          by_cases e : j = k
          · rw [e]; exact HQ.out
          · exact HN.out j (by omega)
        clear HQ
        go_wp2_with fail
        go_roundw
        case rel => exact ⟨k + 1, by omega, by go_num, B5, HC5, HN2⟩
        case measure => simp [intOf]; omega
    · obtain rfl : k = l.length := by omega
      have HR := seFind_no HN.out
      rw [h.out] at HR
      simp only [Prod.mk.injEq] at HR
      obtain ⟨rfl, rfl⟩ := HR
      go_wp2_with fail
      go_ret2
      exact ⟨rfl, HB.out⟩

theorem place_on {l : List Ses} {x : Ses} {k : Nat} (hr : RiseO seLt l) (hn : ∀ j, j < k → seLt (l.getD j Ses.zero) x = true) (hk : k < l.length) (hs : seLt (l.getD k Ses.zero) x = false) : placeO seLt l x = k := by
  rcases Nat.lt_trichotomy (placeO seLt l x) k with h | h | h
  · have h1 := hn _ h
    rw [sgetD (by omega)] at h1
    have h2 := placeO_behind seOrd hr (x := x) (k := placeO seLt l x) (by omega) (Nat.le_refl _)
    rw [h1] at h2; cases h2
  · exact h
  · have h1 := placeO_ahead h
    rw [← sgetD hk, hs] at h1; cases h1

theorem place_end {l : List Ses} {x : Ses} (hr : RiseO seLt l) (hn : ∀ j, j < l.length → seLt (l.getD j Ses.zero) x = true) : placeO seLt l x = l.length := by
  have hle := placeO_le (lt := seLt) l x
  rcases Nat.lt_or_ge (placeO seLt l x) l.length with h | h
  · have h1 := hn _ h
    rw [sgetD h] at h1
    have h2 := placeO_behind seOrd hr (x := x) h (Nat.le_refl _)
    rw [h1] at h2; cases h2
  · omega

set_option maxHeartbeats 1600000 in
set_option maxRecDepth 100000 in
theorem place_any {w : World} {v : Value} {l : List Ses} (hv : Sess w v l) (hr : RiseO seLt l) (u : List UInt8) (id : Int) {i : Nat} (h : Hid (placeO seLt l (keyS u id) = i)) :
    Calls Try.prog 59 #[v, .agg #[.string ⟨u.toArray⟩, .int .i64 id]] w fun e w' => e = .returned (.int .i64 i) ∧ Below w.heap.size w w' := by
  have HV := Lib.hid hv
  have HO := Lib.hid hr
  obtain ⟨a, cap, rfl, hm⟩ := hv.open'
  have HX := Lib.hid (cellsAt_made (w := w) (cs := #[.string ⟨u.toArray⟩, .int .i64 id]) (vs := [.string ⟨u.toArray⟩, .int .i64 id]) rfl 74 rfl)
  have B0 := Lib.hid (bl_newZ w (.cells #[.string ⟨u.toArray⟩, .int .i64 id] 74))
  clear hv hr
  go_enter Try.func59, Try.ntmps59
  go_wp2_with fail
  go_loopw [5] (fun i wr => ∃ k : Nat, k ≤ l.length ∧ i = .int .i64 k ∧ Hid (Below w.heap.size w wr) ∧ Hid (CellsAt wr w.heap.size 0 [.string ⟨u.toArray⟩, .int .i64 id]) ∧ Hid (∀ j, j < k → seLt (l.getD j Ses.zero) (keyS u id) = true)) (fun i _ => l.length - (intOf i).toNat)
  case atStart => exact ⟨0, by omega, rfl, B0, HX, by show ∀ _, _; intro j hj; omega⟩
  case round =>
    obtain ⟨k, hk, rfl, HB, HC, HN⟩ := hrel
    by_cases hlt : k < l.length
    · obtain ⟨bk, off, rfl, hc⟩ := HV.out.row HB.out k hlt
      obtain ⟨⟨eu, ei, ⟨ea, eb, ec, es⟩⟩, hr⟩ : ∃ r, l.getD k Ses.zero = r := ⟨_, rfl⟩
      rw [hr] at hc
      obtain ⟨q0, q1, q2, q3, q4, q5⟩ := cells6_regrown hc
      try simp only at q0 q1 q2 q3 q4 q5
      obtain ⟨y0, y1⟩ := cells2k HC.out
      simp only [Nat.zero_add] at y0 y1
      replace y0 := cell_regrown y0
      replace y1 := cell_regrown y1
      have HK := Lib.hid (keyOf_any eu es ei ea eb ec)
      obtain ⟨q, hq⟩ : ∃ q, seLt ⟨eu, ei, ⟨ea, eb, ec, es⟩⟩ (keyS u id) = q := ⟨_, rfl⟩
      have HA := Lib.hid (isAhead_any eu u ei id (r := q) (Lib.hid (by rw [← hq]; rfl)))
      have HQ : Hid (seLt (l.getD k Ses.zero) (keyS u id) = q) := by show _ = _; rw [hr]; exact hq
      have t0 : decide ((k : Int) < (l.length : Int)) = true := by simp; omega
      have t1 : (0 : Int) ≤ (k : Int) := by omega
      have t2 : (k : Int) < (l.length : Int) := by omega
      clear hr hq hc
      go_wp2_with fail
      refine wp_region_quiet_below (by kernel_rfl) (by kernel_rfl) ?_
      repeat (go_big_quiet_step (first | with_reducible exact rgB HK.out _ _ _ | with_reducible exact rgB HA.out _ _ _))
      refine wpQuiet_nil ?_
      intro w5 hw5
      have b5 := regrownZ hw5
      have B5 := Lib.hid (below2Z HB.out b5)
      have HC5 := Lib.hid (HC.out.later b5)
      clear hw5 b5 q0 q1 q2 q3 q4 q5 y0 y1
      cases q with
      | true =>
        have HN2 : Hid (∀ j, j < k + 1 → seLt (l.getD j Ses.zero) (keyS u id) = true) := by
          show ∀ _, _
          intro j hj
          by_cases e : j = k
          · rw [e]; exact HQ.out
          · exact HN.out j (by omega)
        clear HQ
        go_wp2_with fail
        go_roundw
        case rel => exact ⟨k + 1, by omega, by go_num, B5, HC5, HN2⟩
        case measure => simp [intOf]; omega
      | false =>
        have HR := place_on HO.out HN.out hlt HQ.out
        rw [h.out] at HR
        subst HR
        go_wp2_with fail
        go_ret
        exact ⟨rfl, B5.out⟩
    · obtain rfl : k = l.length := by omega
      have HR := place_end HO.out HN.out
      rw [h.out] at HR
      subst HR
      have t0 : decide ((l.length : Int) < (l.length : Int)) = false := by simp
      go_wp2_with fail
      refine wp_region_quiet_below (by kernel_rfl) (by kernel_rfl) ?_
      repeat (go_big_quiet_step (fail))
      refine wpQuiet_nil ?_
      intro w5 hw5
      have B5 := Lib.hid (below2Z HB.out (regrownZ hw5))
      clear hw5
      go_wp2_with fail
      go_ret
      exact ⟨rfl, B5.out⟩

end Go.Proofs.Ytkmbnpjnjlcjmaa
