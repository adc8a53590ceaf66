/-
  THE WALK OF IdentCases, out of the contracts.
-/
import Derived.Test.YtmbgdkelghoghaaIdLive
namespace Go.Proofs.Ytmbgdkelghoghaa
open Go.RowKit

theorem RowB.later {w w' : World} {B : Nat} {u : List UInt8} (h : RowB w B u) (hb : Below w.heap.size w w') : RowB w' B u := fun j hj =>
  ⟨cell_after (h j hj).1 hb, (hb.frozen (p := ⟨B, j, none⟩) (World.block_lt_of_cell? w ⟨B, j, none⟩ (h j hj).1)).trans (h j hj).2⟩

theorem RowB.set' {w : World} {B : Nat} {u : List UInt8} (h : RowB w B u) (j : Nat) (b : UInt8) (hj : j < u.length) (z : Int) (hz : z = (b.toNat : Int)) : RowB (w.setCell ⟨B, j, none⟩ (.int .u8 z)) B (u.set j b) := by
  subst hz
  exact h.set j b hj

set_option maxHeartbeats 1600000 in
set_option maxRecDepth 1000000 in
theorem identCases_in {w : World} (l : List UInt8) (hl : l.length ≤ 40) (a : Option Addr) (len cap : Nat) (zs : List Int) (hn : len ≤ 40)
    (hrow : Hid (len = 0 ∨ ∃ b off, a = some ⟨b, off, none⟩ ∧ b < w.heap.size ∧ ∀ i, i < len → w.cell? ⟨b, off + i, none⟩ = some (.int .i64 (zs.getD i 0)))) :
    Calls Try.prog 9 #[.string ⟨l.toArray⟩, .slice a len cap] w fun e w' => e = .returned (.bool true) ∧ Below w.heap.size w w' := by
  have hcv := fun w => Lib.run_convert_string_bytes (P := Try.prog) w 9 39 5 ⟨l.toArray⟩ Try.underlying9 Try.underlying39 Try.underlying5
  have hR0 : Hid (RowB (Lib.bytesWorld w 5 ⟨l.toArray⟩) w.heap.size l) :=
    fun j hj => ⟨bytesWorld_list w 5 l j hj, bytesWorld_frozen w 5 _ j (by rw [size_bytes]; exact hj)⟩
  have hB0 := Lib.hid (bytesWorld_below w 5 ⟨l.toArray⟩)
  go_enter Try.func9, Try.ntmps9
  go_wp2_with fail
  clear hcv
  go_loopw [6] (fun i wr => ∃ (k : Nat) (u : List UInt8), k ≤ len ∧ i = .int .i64 k ∧ u.length = l.length ∧ Hid (idLow u = idLow l) ∧ Hid (RowB wr w.heap.size u) ∧ Hid (Below w.heap.size w wr)) (fun i _ => len - (intOf i).toNat)
  case atStart => exact ⟨0, l, by omega, rfl, rfl, rfl, hR0, hB0⟩
  case round =>
    obtain ⟨k, u, hk, rfl, hul, HU, HR, HB⟩ := hrel
    by_cases hlt : k < len
    · rcases hrow.out with h0 | ⟨b, off, e1, hbw, hc⟩
      · omega
      · subst e1
        have hcell := (HB.out.cell (p := ⟨b, off + k, none⟩) hbw).trans (hc k hlt)
        obtain ⟨z, hz⟩ : ∃ z, zs.getD k 0 = z := ⟨_, rfl⟩
        rw [hz] at hcell
        clear hz hc hrow hR0 hB0
        by_cases hneg : z < 0
        · go_wp2_with fail
          go_roundw
          case rel => exact ⟨k + 1, u, by omega, by go_num, hul, HU, HR, HB⟩
          case measure => simp [intOf]; omega
        · obtain ⟨q, rfl⟩ := Int.eq_ofNat_of_zero_le (show 0 ≤ z by omega)
          clear hneg
          by_cases hbig : l.length ≤ q
          · go_wp2_with fail
            go_roundw
            case rel => exact ⟨k + 1, u, by omega, by go_num, hul, HU, HR, HB⟩
            case measure => simp [intOf]; omega
          · have hq : q < l.length := by omega
            have hqu : q < u.length := by omega
            have hcb := (HR.out q hqu).1
            have hfr := (HR.out q hqu).2
            obtain ⟨x, hx⟩ : ∃ x, u.getD q 0 = x := ⟨_, rfl⟩
            rw [hx] at hcb
            have hx256 := x.toNat_lt
            obtain ⟨tg1, tg2⟩ := low1_toggle x
            have hcase : (97 ≤ x.toNat ∧ x.toNat ≤ 122) ∨ (65 ≤ x.toNat ∧ x.toNat ≤ 90) ∨ x.toNat < 65 ∨ (90 < x.toNat ∧ x.toNat < 97) ∨ 122 < x.toNat := by omega
            clear hbig
            rcases hcase with ⟨h1, h2⟩ | ⟨h1, h2⟩ | h1 | ⟨h1, h2⟩ | h1
            · obtain ⟨y, hy⟩ : ∃ y, u8of (x.toNat - 32) = y := ⟨_, rfl⟩
              have hyn : y.toNat = x.toNat - 32 := by rw [← hy, u8of_toNat (by omega)]
              have HU2 : Hid (idLow (u.set q y) = idLow l) := by show _ = _; rw [idLow_set hqu (by rw [hx, ← hy]; exact tg1 ⟨h1, h2⟩)]; exact HU.out
              have HR2 := fun z hz => Lib.hid (HR.out.set' q y hqu z hz)
              have HB2 : ∀ v, Hid (Below w.heap.size w (wr.setCell ⟨w.heap.size, q, none⟩ v)) := fun v => HB.out.setCell (show w.heap.size ≤ w.heap.size from Nat.le_refl _) v
              clear tg1 tg2 hx hy
              go_wp2_with fail
              go_roundw
              case rel => exact ⟨k + 1, u.set q y, by omega, by go_num, by rw [List.length_set]; exact hul, HU2, HR2 _ (by omega), HB2 _⟩
              case measure => simp [intOf]; omega
            · obtain ⟨y, hy⟩ : ∃ y, u8of (x.toNat + 32) = y := ⟨_, rfl⟩
              have hyn : y.toNat = x.toNat + 32 := by rw [← hy, u8of_toNat (by omega)]
              have HU2 : Hid (idLow (u.set q y) = idLow l) := by show _ = _; rw [idLow_set hqu (by rw [hx, ← hy]; exact tg2 ⟨h1, h2⟩)]; exact HU.out
              have HR2 := fun z hz => Lib.hid (HR.out.set' q y hqu z hz)
              have HB2 : ∀ v, Hid (Below w.heap.size w (wr.setCell ⟨w.heap.size, q, none⟩ v)) := fun v => HB.out.setCell (show w.heap.size ≤ w.heap.size from Nat.le_refl _) v
              clear tg1 tg2 hx hy
              go_wp2_with fail
              go_roundw
              case rel => exact ⟨k + 1, u.set q y, by omega, by go_num, by rw [List.length_set]; exact hul, HU2, HR2 _ (by omega), HB2 _⟩
              case measure => simp [intOf]; omega
            all_goals
              clear tg1 tg2 hx
              go_wp2_with fail
              go_roundw
              case rel => exact ⟨k + 1, u, by omega, by go_num, hul, HU, HR, HB⟩
              case measure => simp [intOf]; omega
    · obtain rfl : k = len := by omega
      clear hrow hR0 hB0 hlt hk
      obtain ⟨t, r, ht⟩ : ∃ t r, Hid (idFold l = (t, r)) := ⟨_, _, rfl⟩
      have htu : Hid (idFold u = (t, r)) := by show _ = _; rw [idFold_low HU.out]; exact ht.out
      have htl : t.length ≤ 40 ∧ (r = true → idIs t = true) := by
        rcases idFold_cases l with ⟨h3, h4⟩ | ⟨h3, _, _⟩
        · rw [h3] at ht
          have := ht.out
          simp only [Prod.mk.injEq] at this
          rw [← this.1, idLow_len]
          exact ⟨hl, fun _ => h4⟩
        · rw [h3] at ht
          have := ht.out
          simp only [Prod.mk.injEq] at this
          rw [← this.1, ← this.2]
          exact ⟨by simp, fun h => by cases h⟩
      obtain ⟨htl, hti⟩ := htl
      have HTI := Lib.hid hti
      clear hti
      go_wp2_with fail
      refine (fold_eq l (by omega) ht _).mono ?_
      rintro e w1 ⟨rfl, b⟩
      have HB1 := Lib.hid (below2' HB.out b)
      have hcb := fun cap => row_text (HR.out.later b) cap
      rw [hul] at hcb
      clear b
      go_wp2_with fail
      refine (fold_eq u (by omega) htu _).mono ?_
      rintro e w2 ⟨rfl, b⟩
      have HB2 := Lib.hid (below2' HB1.out b)
      clear b hcb
      cases r with
      | false =>
        go_wp2_with fail
        refine (live3 _).mono ?_
        rintro e w4 ⟨rfl, b⟩
        have HB4 := Lib.hid (below2' HB2.out b)
        clear b
        go_wp2_with fail
        go_ret
        exact ⟨rfl, HB4.out⟩
      | true =>
        have HI := Lib.hid (HTI.out rfl)
        clear HTI
        go_wp2_with fail
        refine (is_eq t (by omega) HI _).mono ?_
        rintro e w3 ⟨rfl, b⟩
        have HB3 := Lib.hid (below2' HB2.out b)
        clear b
        go_wp2_with fail
        refine (live3 _).mono ?_
        rintro e w4 ⟨rfl, b⟩
        have HB4 := Lib.hid (below2' HB3.out b)
        clear b
        go_wp2_with fail
        go_ret
        exact ⟨rfl, HB4.out⟩

set_option maxHeartbeats 1600000 in
set_option maxRecDepth 1000000 in
theorem walkIdentCases {w : World} (l : List UInt8) (hl : l.length ≤ maxLen) (a : Option Addr) (len cap : Nat) (zs : List Int) (h : IsRow .i64 w a len cap zs) :
    Calls Try.prog 9 #[.string ⟨l.toArray⟩, .slice a len cap] w fun e w' => e = .returned (.bool true) ∧ Below w.heap.size w w' := by
  obtain ⟨h1, h2, h3, _⟩ := h.form
  clear h
  unfold maxLen at hl h2
  have hcase : 40 < l.length ∨ (l.length ≤ 40 ∧ 40 < len) ∨ (l.length ≤ 40 ∧ len ≤ 40) := by omega
  rcases hcase with h4 | ⟨h4, h5⟩ | ⟨h4, h5⟩
  case inr.inr => exact identCases_in l h4 a len cap zs h5 h3
  all_goals
    clear h3
    go_enter Try.func9, Try.ntmps9
    go_wp2_with fail
    refine (live3 _).mono ?_
    rintro e w1 ⟨rfl, b⟩
    go_wp2_with fail
    go_ret
    exact ⟨rfl, b⟩

end Go.Proofs.Ytmbgdkelghoghaa
