/-
  THE CONTRACTS OF THE DOCUMENT'S ANSWERS Is, Fold, Put, Take OF LAYER 3.
-/
import Derived.Test.YthfkfonfiejbmaaIdTake
import Derived.Test.YthfkfonfiejbmaaVarRget
import Derived.Test.YthfkfonfiejbmaaBytes
import Derived.Laws.IdiomStrings
namespace Go.Proofs.Ythfkfonfiejbmaa
open Go.RowKit

set_option maxHeartbeats 800000 in
set_option maxRecDepth 100000 in
theorem ris_any (l : List UInt8) (hl : l.length ≤ 4294967296) (w : World) :
    Calls Try.prog 43 #[.string ⟨l.toArray⟩] w fun e w' => e = .returned (.bool (idIs l)) ∧ w = w' := by
  by_cases h0 : l.length < 1
  · obtain rfl : l = [] := List.length_eq_zero_iff.1 (by omega)
    clear h0
    go_enter Try.func43, Try.ntmps43
    go_wp2_with fail
    go_ret
    exact ⟨rfl, rfl⟩
  · have hpos : 1 ≤ l.length := by omega
    clear h0
    by_cases h16 : 16 < l.length
    · have HR := Lib.hid (idIs_long h16)
      go_enter Try.func43, Try.ntmps43
      go_wp2_with fail
      go_ret
      exact ⟨by rw [HR.out]; rfl, rfl⟩
    · have hq : 0 < (⟨l.toArray⟩ : ByteArray).size := by rw [size_bytes]; omega
      obtain ⟨x, hx⟩ : ∃ x : UInt8, (⟨l.toArray⟩ : ByteArray)[0]'hq = x := ⟨_, rfl⟩
      have hx256 := x.toNat_lt
      have HX : Hid (l[0]? = some x) := by show _ = _; rw [← hx]; exact bytes_at l 0 hq
      by_cases hlow : x.toNat < 97
      · have HR : Hid (idIs l = false) := idIs_first HX.out (by unfold lcOk; simp; omega)
        go_enter Try.func43, Try.ntmps43
        go_wp2_with fail
        go_ret
        exact ⟨by rw [HR.out]; rfl, rfl⟩
      · by_cases hhi : 122 < x.toNat
        · have HR : Hid (idIs l = false) := idIs_first HX.out (by unfold lcOk; simp; omega)
          go_enter Try.func43, Try.ntmps43
          go_wp2_with fail
          go_ret
          exact ⟨by rw [HR.out]; rfl, rfl⟩
        · have HF : Hid (lcOk (l.getD 0 0) = true) := by show _ = _; rw [List.getD, HX.out]; unfold lcOk; simp; omega
          go_enter Try.func43, Try.ntmps43
          go_wp2_with fail
          clear hx
          go_loop [3] (fun i => ∃ k : Nat, k ≤ l.length ∧ i = .int .i64 k ∧ Hid ((l.take k).all inOk = true)) (fun i => l.length - (intOf i).toNat)
          case atStart => exact ⟨0, by omega, rfl, by show _ = _; simp⟩
          case round =>
            obtain ⟨k, hk, rfl, HA⟩ := hrel
            by_cases hlt : k < l.length
            · have hlt' : k < (⟨l.toArray⟩ : ByteArray).size := by rw [size_bytes]; exact hlt
              obtain ⟨b, hb⟩ : ∃ b : UInt8, (⟨l.toArray⟩ : ByteArray)[k]'hlt' = b := ⟨_, rfl⟩
              have HB : Hid (l[k]? = some b) := by show _ = _; rw [← hb]; exact bytes_at l k hlt'
              have hb256 := b.toNat_lt
              have hcase : (97 ≤ b.toNat ∧ b.toNat ≤ 122) ∨ (48 ≤ b.toNat ∧ b.toNat ≤ 57) ∨ b.toNat = 45 ∨ (b.toNat < 48 ∧ ¬ b.toNat = 45) ∨ (57 < b.toNat ∧ b.toNat < 97) ∨ 122 < b.toNat := by omega
              have HC := Lib.hid hcase
              clear hcase hpos h16 hlow hhi
              rcases HC.out with ⟨h1, h2⟩ | ⟨h1, h2⟩ | h1 | ⟨h1, h2⟩ | ⟨h1, h2⟩ | h1
              · have HN : Hid ((l.take (k + 1)).all inOk = true) := by show _ = _; rw [all_succ HB.out, HA.out]; simp [inOk, lcOk, dgOk]; omega
                go_wp2_with fail
                go_round
                case rel => exact ⟨k + 1, by omega, by go_num, HN⟩
                case measure => simp [intOf]; omega
              · have HN : Hid ((l.take (k + 1)).all inOk = true) := by show _ = _; rw [all_succ HB.out, HA.out]; simp [inOk, lcOk, dgOk]; omega
                go_wp2_with fail
                go_round
                case rel => exact ⟨k + 1, by omega, by go_num, HN⟩
                case measure => simp [intOf]; omega
              · have HN : Hid ((l.take (k + 1)).all inOk = true) := by show _ = _; rw [all_succ HB.out, HA.out]; simp [inOk, lcOk, dgOk]; omega
                have t5 : ((b.toNat : Int) != 45) = false := by rw [h1]; rfl
                go_wp2_with fail
                go_round
                case rel => exact ⟨k + 1, by omega, by go_num, HN⟩
                case measure => simp [intOf]; omega
              all_goals
                have HR : Hid (idIs l = false) := idIs_bad HB.out (by simp [inOk, lcOk, dgOk]; omega)
                have t5 : ((b.toNat : Int) != 45) = true := by simp; omega
                go_wp2_with fail
                go_ret
                exact ⟨by rw [HR.out]; rfl, rfl⟩
            · obtain rfl : k = l.length := by omega
              have HR : Hid (idIs l = true) := idIs_mk hpos (by omega) HF.out (by have := HA.out; rwa [List.take_length] at this)
              go_wp2_with fail
              go_ret
              exact ⟨by rw [HR.out]; rfl, rfl⟩

theorem ris_eq (l : List UInt8) (hl : l.length ≤ 4294967296) {r : Bool} (h : Hid (idIs l = r)) (w : World) :
    Calls Try.prog 43 #[.string ⟨l.toArray⟩] w fun e w' => e = .returned (.bool r) ∧ w = w' := by
  have := ris_any l hl w
  rwa [h.out] at this

/-- l, folded up to k. -/
def lowAt (l : List UInt8) (k : Nat) : List UInt8 := idLow (l.take k) ++ l.drop k

theorem lowAt_len (l : List UInt8) (k : Nat) : (lowAt l k).length = l.length := by
  unfold lowAt
  rw [List.length_append, idLow_len, ← List.length_append, List.take_append_drop]

theorem lowAt_get {l : List UInt8} {k : Nat} {b : UInt8} (hb : l[k]? = some b) : (lowAt l k).getD k 0 = b := by
  obtain ⟨p1, p2⟩ := List.getElem?_eq_some_iff.1 hb
  unfold lowAt
  rw [List.getD, List.getElem?_append_right (by rw [idLow_len, List.length_take]; omega), idLow_len, List.length_take, List.getElem?_drop, show k + (k - min k l.length) = k by omega, hb]
  rfl

theorem lowAt_set {l : List UInt8} {k : Nat} {b : UInt8} (hb : l[k]? = some b) : (lowAt l k).set k (low1 b) = lowAt l (k + 1) := by
  obtain ⟨p1, p2⟩ := List.getElem?_eq_some_iff.1 hb
  unfold lowAt
  rw [List.set_append_right _ _ (by rw [idLow_len, List.length_take]; omega), idLow_len, List.length_take, show k - min k l.length = 0 by omega, List.drop_eq_getElem_cons p1, p2, List.take_succ_eq_append_getElem p1, p2]
  simp [idLow]

theorem lowAt_same {l : List UInt8} {k : Nat} {b : UInt8} (hb : l[k]? = some b) (h : low1 b = b) : lowAt l k = lowAt l (k + 1) := by
  obtain ⟨p1, p2⟩ := List.getElem?_eq_some_iff.1 hb
  unfold lowAt
  rw [List.drop_eq_getElem_cons p1, p2, List.take_succ_eq_append_getElem p1, p2]
  simp [idLow, h]

theorem lowAt_end (l : List UInt8) : lowAt l l.length = idLow l := by simp [lowAt]
theorem lowAt_start (l : List UInt8) : lowAt l 0 = l := by simp [lowAt, idLow]

/-- A row of bytes in memory that may be written. -/
def RowB (w : World) (B : Nat) (u : List UInt8) : Prop := ∀ j, j < u.length → w.cell? ⟨B, j, none⟩ = some (.int .u8 (u.getD j 0).toNat) ∧ w.frozen? ⟨B, j, none⟩ = false

theorem RowB.drew {w : World} {B : Nat} {u : List UInt8} (h : RowB w B u) : RowB w.drew B u := h

theorem RowB.set {w : World} {B : Nat} {u : List UInt8} (h : RowB w B u) (j : Nat) (b : UInt8) (hj : j < u.length) : RowB (w.setCell ⟨B, j, none⟩ (.int .u8 b.toNat)) B (u.set j b) := by
  intro i hi
  have hi' : i < u.length := by simpa using hi
  refine ⟨?_, (World.frozen?_setCell w _ _ _).trans (h i hi').2⟩
  by_cases hij : i = j
  · subst hij
    rw [World.cell?_setCell_same _ _ _ (h i hj).1]
    simp [List.getD, hj]
  · rw [World.cell?_setCell_other _ _ _ _ (by simp), (h i hi').1]
    simp [List.getD, show ¬ j = i by omega]

theorem row_text {w : World} {B : Nat} {u : List UInt8} (h : RowB w B u) (cap : Nat) :
    (convert 45 9 (.slice (some ⟨B, 0, none⟩) u.length cap)).run Try.prog w = .ok (.string ⟨u.toArray⟩) w :=
  run_convert_bytes_back (P := Try.prog) w 45 9 5 ⟨B, 0, none⟩ cap u Try.underlying45 Try.underlying5 Try.underlying9 (fun j hj => by
    have := (h j hj).1
    rw [Addr.add_lit, Nat.zero_add, this]
    simp [List.getD, List.getElem?_eq_getElem hj])

theorem rtake_eq16 (l : List UInt8) (hl : l.length ≤ 4294967296) (p : Int) (w : World) {t : List UInt8} {f er : Nat} (h : Hid (vtake l p 16 = (t, f, er))) :
    Calls Try.prog 30 #[.string ⟨l.toArray⟩, .int .i64 p, .int .i64 16] w fun e w' => e = .returned (.tuple #[.string ⟨t.toArray⟩, .int .i64 f, .int .i64 er]) ∧ w = w' := rtake_eq l hl p 16 (by decide) w h

set_option maxHeartbeats 400000 in
set_option maxRecDepth 100000 in
theorem ridtake_eq (l : List UInt8) (hl : l.length ≤ 4294967296) (p : Int) {t : List UInt8} {f er : Nat} (h : Hid (idTake l p = (t, f, er))) (w : World) :
    Calls Try.prog 49 #[.string ⟨l.toArray⟩, .int .i64 p] w fun e w' => e = .returned (.tuple #[.string ⟨t.toArray⟩, .int .i64 f, .int .i64 er]) ∧ w = w' := by
  obtain ⟨u, g, ue, hu⟩ : ∃ u g ue, vtake l p 16 = (u, g, ue) := ⟨_, _, _, rfl⟩
  have e := h.out
  unfold idTake at e
  rw [hu] at e
  dsimp only at e
  have hs := vtake_short hu
  have HU := Lib.hid hu
  clear h hu
  by_cases he : ue = 0
  · subst he
    rw [if_neg (by simp)] at e
    cases hi : idIs u with
    | false =>
      rw [hi] at e
      simp only [Bool.false_eq_true, if_false, Prod.mk.injEq] at e
      obtain ⟨rfl, rfl, rfl⟩ := e
      have HI := Lib.hid hi
      clear hi
      go_enter Try.func49, Try.ntmps49
      go_wp2_with fail
      refine (rtake_eq16 l hl p _ HU).mono ?_
      rintro e w1 ⟨rfl, rfl⟩
      go_wp2_with fail
      refine (ris_eq u (by omega) HI _).mono ?_
      rintro e w1 ⟨rfl, rfl⟩
      go_wp2_with fail
      go_ret3
      exact ⟨rfl, rfl⟩
    | true =>
      rw [hi] at e
      simp only [if_true, Prod.mk.injEq] at e
      obtain ⟨rfl, rfl, rfl⟩ := e
      have HI := Lib.hid hi
      clear hi
      go_enter Try.func49, Try.ntmps49
      go_wp2_with fail
      refine (rtake_eq16 l hl p _ HU).mono ?_
      rintro e w1 ⟨rfl, rfl⟩
      go_wp2_with fail
      refine (ris_eq u (by omega) HI _).mono ?_
      rintro e w1 ⟨rfl, rfl⟩
      go_wp2_with fail
      go_ret3
      exact ⟨rfl, rfl⟩
  · rw [if_pos he] at e
    simp only [Prod.mk.injEq] at e
    obtain ⟨rfl, rfl, rfl⟩ := e
    have t1 : ((ue : Int) != 0) = true := by simp; omega
    clear he
    go_enter Try.func49, Try.ntmps49
    go_wp2_with fail
    refine (rtake_eq16 l hl p _ HU).mono ?_
    rintro e w1 ⟨rfl, rfl⟩
    go_wp2_with fail
    go_ret3
    exact ⟨rfl, rfl⟩

end Go.Proofs.Ythfkfonfiejbmaa
