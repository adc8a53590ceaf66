/-
  TEXTS OF THE PROOF, one behind the other: IdRef, ValMay.
-/
import Derived.Test.YtohfhphiofobcaaR01
import Derived.Laws.IdiomStrings

section

/-
  THE CONTRACTS OF THE DOCUMENT'S ANSWERS Is, Fold, Put, Take OF LAYER 3.
-/
namespace Go.Proofs.Ytohfhphiofobcaa
open Go.RowKit

set_option maxHeartbeats 800000 in
set_option maxRecDepth 100000 in
theorem ris_any (l : List UInt8) (hl : l.length ≤ 4294967296) (w : World) :
    Calls Try.prog 38 #[.string ⟨l.toArray⟩] w fun e w' => e = .returned (.bool (idIs l)) ∧ w = w' := by
  by_cases h0 : l.length < 1
  · obtain rfl : l = [] := List.length_eq_zero_iff.1 (by omega)
    clear h0
    go_enter Try.func38, Try.ntmps38
    go_wp2_with fail
    go_ret
    exact ⟨rfl, rfl⟩
  · have hpos : 1 ≤ l.length := by omega
    clear h0
    by_cases h16 : 16 < l.length
    · have HR := Lib.hid (idIs_long h16)
      go_enter Try.func38, Try.ntmps38
      go_wp2_with fail
      go_ret
      exact ⟨by rw [HR.out]; rfl, rfl⟩
    · have hq : 0 < (⟨l.toArray⟩ : ByteArray).size := by rw [size_bytes]; omega
      obtain ⟨x, hx⟩ : ∃ x : UInt8, (⟨l.toArray⟩ : ByteArray)[0]'hq = x := ⟨_, rfl⟩
      have hx256 := x.toNat_lt
      have HX : Hid (l[0]? = some x) := by show _ = _; rw [← hx]; exact bytes_at l 0 hq
      by_cases hlow : x.toNat < 97
      · have HR : Hid (idIs l = false) := idIs_first HX.out (by unfold lcOk; simp; omega)
        go_enter Try.func38, Try.ntmps38
        go_wp2_with fail
        go_ret
        exact ⟨by rw [HR.out]; rfl, rfl⟩
      · by_cases hhi : 122 < x.toNat
        · have HR : Hid (idIs l = false) := idIs_first HX.out (by unfold lcOk; simp; omega)
          go_enter Try.func38, Try.ntmps38
          go_wp2_with fail
          go_ret
          exact ⟨by rw [HR.out]; rfl, rfl⟩
        · have HF : Hid (lcOk (l.getD 0 0) = true) := by show _ = _; rw [List.getD, HX.out]; unfold lcOk; simp; omega
          go_enter Try.func38, Try.ntmps38
          go_wp2_with fail
          clear hx
          go_loop [3] (fun i => ∃ k : Nat, k ≤ l.length ∧ i = .int .i64 k ∧ Hid ((l.take k).all inOk = true)) (fun i => l.length - (intOf i).toNat)
          case atStart => exact ⟨0, by omega, rfl, by show _ = _; simp⟩
          case round =>
            obtain ⟨k, hk, rfl, HA⟩ := hrel
            by_cases hlt : k < l.length
            · have hlt' : k < (⟨l.toArray⟩ : ByteArray).size := by rw [size_bytes]; exact hlt
              obtain ⟨b, hb⟩ : ∃ b : UInt8, (⟨l.toArray⟩ : ByteArray)[k]'hlt' = b := ⟨_, rfl⟩
              have HB : Hid (l[k]? = some b) := by show _ = _; rw [← hb]; exact bytes_at l k hlt'
              have hb256 := b.toNat_lt
              have hcase : (97 ≤ b.toNat ∧ b.toNat ≤ 122) ∨ (48 ≤ b.toNat ∧ b.toNat ≤ 57) ∨ b.toNat = 45 ∨ (b.toNat < 48 ∧ ¬ b.toNat = 45) ∨ (57 < b.toNat ∧ b.toNat < 97) ∨ 122 < b.toNat := by omega
              have HC := Lib.hid hcase
              clear hcase hpos h16 hlow hhi
              rcases HC.out with ⟨h1, h2⟩ | ⟨h1, h2⟩ | h1 | ⟨h1, h2⟩ | ⟨h1, h2⟩ | h1
              · have HN : Hid ((l.take (k + 1)).all inOk = true) := by show _ = _; rw [all_succ HB.out, HA.out]; simp [inOk, lcOk, dgOk]; omega
                go_wp2_with fail
                go_round
                case rel => exact ⟨k + 1, by omega, by go_num, HN⟩
                case measure => simp [intOf]; omega
              · have HN : Hid ((l.take (k + 1)).all inOk = true) := by show _ = _; rw [all_succ HB.out, HA.out]; simp [inOk, lcOk, dgOk]; omega
                go_wp2_with fail
                go_round
                case rel => exact ⟨k + 1, by omega, by go_num, HN⟩
                case measure => simp [intOf]; omega
              · have HN : Hid ((l.take (k + 1)).all inOk = true) := by show _ = _; rw [all_succ HB.out, HA.out]; simp [inOk, lcOk, dgOk]; omega
                have t5 : ((b.toNat : Int) != 45) = false := by rw [h1]; rfl
                go_wp2_with fail
                go_round
                case rel => exact ⟨k + 1, by omega, by go_num, HN⟩
                case measure => simp [intOf]; omega
              all_goals
                have HR : Hid (idIs l = false) := idIs_bad HB.out (by simp [inOk, lcOk, dgOk]; omega)
                have t5 : ((b.toNat : Int) != 45) = true := by simp; omega
                go_wp2_with fail
                go_ret
                exact ⟨by rw [HR.out]; rfl, rfl⟩
            · obtain rfl : k = l.length := by omega
              have HR : Hid (idIs l = true) := idIs_mk hpos (by omega) HF.out (by have := HA.out; rwa [List.take_length] at this)
              go_wp2_with fail
              go_ret
              exact ⟨by rw [HR.out]; rfl, rfl⟩

theorem ris_eq (l : List UInt8) (hl : l.length ≤ 4294967296) {r : Bool} (h : Hid (idIs l = r)) (w : World) :
    Calls Try.prog 38 #[.string ⟨l.toArray⟩] w fun e w' => e = .returned (.bool r) ∧ w = w' := by
  have := ris_any l hl w
  rwa [h.out] at this

/-- l, folded up to k. -/
def lowAt (l : List UInt8) (k : Nat) : List UInt8 := idLow (l.take k) ++ l.drop k

/-- A row of bytes in memory that may be written. -/
def RowB (w : World) (B : Nat) (u : List UInt8) : Prop := ∀ j, j < u.length → w.cell? ⟨B, j, none⟩ = some (.int .u8 (u.getD j 0).toNat) ∧ w.frozen? ⟨B, j, none⟩ = false

theorem RowB.drew {w : World} {B : Nat} {u : List UInt8} (h : RowB w B u) : RowB w.drew B u := h

theorem RowB.set {w : World} {B : Nat} {u : List UInt8} (h : RowB w B u) (j : Nat) (b : UInt8) (hj : j < u.length) : RowB (w.setCell ⟨B, j, none⟩ (.int .u8 b.toNat)) B (u.set j b) := by
  intro i hi
  have hi' : i < u.length := by simpa using hi
  refine ⟨?_, (World.frozen?_setCell w _ _ _).trans (h i hi').2⟩
  by_cases hij : i = j
  · subst hij
    rw [World.cell?_setCell_same _ _ _ (h i hj).1]
    simp [List.getD, hj]
  · rw [World.cell?_setCell_other _ _ _ _ (by simp), (h i hi').1]
    simp [List.getD, show ¬ j = i by omega]

theorem row_text {w : World} {B : Nat} {u : List UInt8} (h : RowB w B u) (cap : Nat) :
    (convert 40 9 (.slice (some ⟨B, 0, none⟩) u.length cap)).run Try.prog w = .ok (.string ⟨u.toArray⟩) w :=
  run_convert_bytes_back (P := Try.prog) w 40 9 5 ⟨B, 0, none⟩ cap u Try.underlying40 Try.underlying5 Try.underlying9 (fun j hj => by
    have := (h j hj).1
    rw [Addr.add_lit, Nat.zero_add, this]
    simp [List.getD, List.getElem?_eq_getElem hj])

set_option maxHeartbeats 400000 in
set_option maxRecDepth 100000 in
theorem ridput_eq (l : List UInt8) (hl : l.length ≤ 4294967296) {t : List UInt8} {r : Bool} (h : Hid (idPut l = (t, r))) (w : World) :
    Calls Try.prog 48 #[.string ⟨l.toArray⟩] w fun e w' => e = .returned (.tuple #[.string ⟨t.toArray⟩, .bool r]) ∧ Below w.heap.size w w' := by
  have e := h.out
  unfold idPut at e
  clear h
  cases hi : idIs l with
  | false =>
    rw [hi] at e
    simp only [Bool.false_eq_true, if_false, Prod.mk.injEq] at e
    obtain ⟨rfl, rfl⟩ := e
    have HI := Lib.hid hi
    clear hi
    go_enter Try.func48, Try.ntmps48
    go_wp2_with fail
    refine (ris_eq l hl HI _).mono ?_
    rintro e w1 ⟨rfl, rfl⟩
    go_wp2_with fail
    go_ret2
    exact ⟨rfl, Below.refl _ _⟩
  | true =>
    rw [hi] at e
    simp only [if_true, Prod.mk.injEq] at e
    obtain ⟨rfl, rfl⟩ := e
    have HI := Lib.hid hi
    clear hi
    go_enter Try.func48, Try.ntmps48
    go_wp2_with fail
    refine (ris_eq l hl HI _).mono ?_
    rintro e w1 ⟨rfl, rfl⟩
    go_wp2_with fail
    refine (rtext_any l hl _).mono ?_
    rintro e w2 ⟨rfl, hb2⟩
    go_wp2_with fail
    go_ret2
    exact ⟨rfl, hb2⟩

theorem rtake_eq16 (l : List UInt8) (hl : l.length ≤ 4294967296) (p : Int) (w : World) {t : List UInt8} {f er : Nat} (h : Hid (vtake l p 16 = (t, f, er))) :
    Calls Try.prog 111 #[.string ⟨l.toArray⟩, .int .i64 p, .int .i64 16] w fun e w' => e = .returned (.tuple #[.string ⟨t.toArray⟩, .int .i64 f, .int .i64 er]) ∧ w = w' := rtake_eq l hl p 16 (by decide) w h

set_option maxHeartbeats 400000 in
set_option maxRecDepth 100000 in
theorem ridtake_eq (l : List UInt8) (hl : l.length ≤ 4294967296) (p : Int) {t : List UInt8} {f er : Nat} (h : Hid (idTake l p = (t, f, er))) (w : World) :
    Calls Try.prog 80 #[.string ⟨l.toArray⟩, .int .i64 p] w fun e w' => e = .returned (.tuple #[.string ⟨t.toArray⟩, .int .i64 f, .int .i64 er]) ∧ w = w' := by
  obtain ⟨u, g, ue, hu⟩ : ∃ u g ue, vtake l p 16 = (u, g, ue) := ⟨_, _, _, rfl⟩
  have e := h.out
  unfold idTake at e
  rw [hu] at e
  dsimp only at e
  have hs := vtake_short hu
  have HU := Lib.hid hu
  clear h hu
  by_cases he : ue = 0
  · subst he
    rw [if_neg (by simp)] at e
    cases hi : idIs u with
    | false =>
      rw [hi] at e
      simp only [Bool.false_eq_true, if_false, Prod.mk.injEq] at e
      obtain ⟨rfl, rfl, rfl⟩ := e
      have HI := Lib.hid hi
      clear hi
      go_enter Try.func80, Try.ntmps80
      go_wp2_with fail
      refine (rtake_eq16 l hl p _ HU).mono ?_
      rintro e w1 ⟨rfl, rfl⟩
      go_wp2_with fail
      refine (ris_eq u (by omega) HI _).mono ?_
      rintro e w1 ⟨rfl, rfl⟩
      go_wp2_with fail
      go_ret3
      exact ⟨rfl, rfl⟩
    | true =>
      rw [hi] at e
      simp only [if_true, Prod.mk.injEq] at e
      obtain ⟨rfl, rfl, rfl⟩ := e
      have HI := Lib.hid hi
      clear hi
      go_enter Try.func80, Try.ntmps80
      go_wp2_with fail
      refine (rtake_eq16 l hl p _ HU).mono ?_
      rintro e w1 ⟨rfl, rfl⟩
      go_wp2_with fail
      refine (ris_eq u (by omega) HI _).mono ?_
      rintro e w1 ⟨rfl, rfl⟩
      go_wp2_with fail
      go_ret3
      exact ⟨rfl, rfl⟩
  · rw [if_pos he] at e
    simp only [Prod.mk.injEq] at e
    obtain ⟨rfl, rfl, rfl⟩ := e
    have t1 : ((ue : Int) != 0) = true := by simp; omega
    clear he
    go_enter Try.func80, Try.ntmps80
    go_wp2_with fail
    refine (rtake_eq16 l hl p _ HU).mono ?_
    rintro e w1 ⟨rfl, rfl⟩
    go_wp2_with fail
    go_ret3
    exact ⟨rfl, rfl⟩

end Go.Proofs.Ytohfhphiofobcaa

end

section

/-
  THE CONTRACTS OF value.May (with mayBeStatus) AND OF THE DOCUMENT'S ANSWER TO IT.
-/
namespace Go.Proofs.Ytohfhphiofobcaa
open Go.RowKit

theorem chOk_lo {b : UInt8} (h : b.toNat < 32) : chOk b = false := by unfold chOk; simp; omega
theorem chOk_hi {b : UInt8} (h : 126 < b.toNat) : chOk b = false := by unfold chOk; simp; omega
theorem chOk_yes {b : UInt8} (h : ¬ b.toNat < 32) (h' : ¬ 126 < b.toNat) : chOk b = true := by unfold chOk; simp; omega

theorem all_take_succ {l : List UInt8} {k : Nat} {b : UInt8} (hb : l[k]? = some b) (p : UInt8 → Bool) : (l.take (k + 1)).all p = ((l.take k).all p && p b) := by
  obtain ⟨h1, h2⟩ := List.getElem?_eq_some_iff.1 hb
  rw [List.take_succ_eq_append_getElem h1, h2, List.all_append]
  simp

theorem all_no {l : List UInt8} {k : Nat} {b : UInt8} (hb : l[k]? = some b) {p : UInt8 → Bool} (h : p b = false) : l.all p = false := by
  obtain ⟨h1, h2⟩ := List.getElem?_eq_some_iff.1 hb
  rw [Bool.eq_false_iff]
  intro h'
  have := List.all_eq_true.1 h' l[k] (List.getElem_mem h1)
  rw [h2, h] at this
  cases this

set_option maxHeartbeats 400000 in
set_option maxRecDepth 100000 in
theorem stat_any (l : List UInt8) (hl : l.length ≤ 4294967296) (w : World) :
    Calls Try.prog 115 #[.string ⟨l.toArray⟩] w fun e w' => e = .returned (.bool (stOk l)) ∧ w = w' := by
  by_cases h : 32 < l.length
  · have HR : Hid (stOk l = false) := by show _ = _; unfold stOk; simp; omega
    go_enter Try.func115, Try.ntmps115
    go_wp2_with fail
    go_ret
    exact ⟨by rw [HR.out]; rfl, rfl⟩
  · have h32 : decide (l.length ≤ 32) = true := by simp; omega
    have H32 := Lib.hid h32
    clear h32
    go_enter Try.func115, Try.ntmps115
    go_wp2_with fail
    go_loop [9] (fun i => ∃ k : Nat, k ≤ l.length ∧ i = .int .i64 k ∧ Hid ((l.take k).all chOk = true)) (fun i => l.length - (intOf i).toNat)
    case atStart => exact ⟨0, by omega, rfl, by show _ = _; simp⟩
    case round =>
      obtain ⟨k, hk, rfl, HA⟩ := hrel
      by_cases hlt : k < l.length
      · have hlt' : k < (⟨l.toArray⟩ : ByteArray).size := by rw [size_bytes]; exact hlt
        obtain ⟨b, hb⟩ : ∃ b : UInt8, (⟨l.toArray⟩ : ByteArray)[k]'hlt' = b := ⟨_, rfl⟩
        have HB : Hid (l[k]? = some b) := by rw [← hb]; exact bytes_at l k hlt'
        have h256 := b.toNat_lt
        by_cases h1 : b.toNat < 32
        · have HN : Hid (stOk l = false) := by show _ = _; unfold stOk; rw [all_no HB.out (chOk_lo h1)]; simp
          go_wp2_with fail
          go_ret
          exact ⟨by rw [HN.out]; rfl, rfl⟩
        · by_cases h2 : 126 < b.toNat
          · have HN : Hid (stOk l = false) := by show _ = _; unfold stOk; rw [all_no HB.out (chOk_hi h2)]; simp
            go_wp2_with fail
            go_ret
            exact ⟨by rw [HN.out]; rfl, rfl⟩
          · have HN : Hid ((l.take (k + 1)).all chOk = true) := by show _ = _; rw [all_take_succ HB.out, HA.out, chOk_yes h1 h2]; rfl
            go_wp2_with fail
            go_round
            case rel => exact ⟨k + 1, by omega, by go_num, HN⟩
            case measure => simp [intOf]; omega
      · obtain rfl : k = l.length := by omega
        have HR : Hid (stOk l = true) := by
          show _ = _
          have := HA.out
          rw [List.take_length] at this
          unfold stOk
          rw [this, H32.out]
          rfl
        go_wp2_with fail
        go_ret
        exact ⟨by rw [HR.out]; rfl, rfl⟩

/-- A value as the model lays it. -/
def numsV (a b c : Int) (l : List UInt8) : Value := .agg #[.int .i64 a, .int .i64 b, .int .i64 c, .string ⟨l.toArray⟩]

theorem numsOk_cases (a b c : Int) : (numsOk a b c = true ∧ 1 ≤ a ∧ a ≤ 4 ∧ -128 ≤ b ∧ b ≤ 127 ∧ 0 ≤ c ∧ c ≤ 1099511627776) ∨
    (numsOk a b c = false ∧ (a < 1 ∨ (1 ≤ a ∧ 4 < a) ∨ (1 ≤ a ∧ a ≤ 4 ∧ b < -128) ∨ (1 ≤ a ∧ a ≤ 4 ∧ -128 ≤ b ∧ 127 < b) ∨ (1 ≤ a ∧ a ≤ 4 ∧ -128 ≤ b ∧ b ≤ 127 ∧ c < 0) ∨ (1 ≤ a ∧ a ≤ 4 ∧ -128 ≤ b ∧ b ≤ 127 ∧ 0 ≤ c ∧ 1099511627776 < c))) := by
  unfold numsOk
  by_cases h : 1 ≤ a ∧ a ≤ 4 ∧ -128 ≤ b ∧ b ≤ 127 ∧ 0 ≤ c ∧ c ≤ 1099511627776
  · exact .inl ⟨by simpa using h, h⟩
  · exact .inr ⟨by simpa using h, by omega⟩

set_option maxHeartbeats 800000 in
set_option maxRecDepth 100000 in
theorem may_any (a b c : Int) (l : List UInt8) (hl : l.length ≤ 4294967296) (w : World) :
    Calls Try.prog 89 #[.agg #[.int .i64 a, .int .i64 b, .int .i64 c, .string ⟨l.toArray⟩]] w fun e w' => e = .returned (.bool (vaMay ⟨a, b, c, l⟩)) ∧ Below w.heap.size w w' := by
  rcases numsOk_cases a b c with ⟨h, h1, h2, h3, h4, h5, h6⟩ | ⟨h, hor⟩
  · have HR : Hid (vaMay ⟨a, b, c, l⟩ = stOk l) := by show _ = _; unfold vaMay; simp only; rw [h]; rfl
    clear h
    go_enter Try.func89, Try.ntmps89
    go_wp2_with fail
    refine (stat_any l hl _).mono ?_
    rintro e w' ⟨rfl, rfl⟩
    go_wp2_with fail
    go_ret
    exact ⟨by rw [HR.out]; rfl, (Below.refl _ _).alloc (Nat.le_refl _) _⟩
  · have HR : Hid (vaMay ⟨a, b, c, l⟩ = false) := by show _ = _; unfold vaMay; simp only; rw [h]; rfl
    clear h
    rcases hor with h1 | ⟨h1, h2⟩ | ⟨h1, h2, h3⟩ | ⟨h1, h2, h3, h4⟩ | ⟨h1, h2, h3, h4, h5⟩ | ⟨h1, h2, h3, h4, h5, h6⟩
    all_goals
      go_enter Try.func89, Try.ntmps89
      go_wp2_with fail
      go_ret
      exact ⟨by rw [HR.out]; rfl, (Below.refl _ _).alloc (Nat.le_refl _) _⟩

set_option maxHeartbeats 1600000 in
set_option maxRecDepth 100000 in
theorem rmay_any (a b c : Int) (l : List UInt8) (hl : l.length ≤ 4294967296) (w : World) :
    Calls Try.prog 39 #[.agg #[.int .i64 a, .int .i64 b, .int .i64 c, .string ⟨l.toArray⟩]] w fun e w' => e = .returned (.bool (vaMay ⟨a, b, c, l⟩)) ∧ Below w.heap.size w w' := by
  rcases numsOk_cases a b c with ⟨h, h1, h2, h3, h4, h5, h6⟩ | ⟨h, hor⟩
  · have HM : Hid (vaMay ⟨a, b, c, l⟩ = stOk l) := by show _ = _; unfold vaMay; simp only; rw [h]; rfl
    clear h
    by_cases h : 32 < l.length
    · have HR : Hid (vaMay ⟨a, b, c, l⟩ = false) := by show _ = _; rw [HM.out]; unfold stOk; simp; omega
      clear HM
      go_enter Try.func39, Try.ntmps39
      go_wp2_with fail
      go_ret
      exact ⟨by rw [HR.out]; rfl, (Below.refl _ _).alloc (Nat.le_refl _) _⟩
    · have h32 : decide (l.length ≤ 32) = true := by simp; omega
      have H32 := Lib.hid h32
      clear h32
      go_enter Try.func39, Try.ntmps39
      go_wp2_with fail
      go_loop [3] (fun i => ∃ k : Nat, k ≤ l.length ∧ i = .int .i64 k ∧ Hid ((l.take k).all chOk = true)) (fun i => l.length - (intOf i).toNat)
      case atStart => exact ⟨0, by omega, rfl, by show _ = _; simp⟩
      case round =>
        obtain ⟨k, hk, rfl, HA⟩ := hrel
        by_cases hlt : k < l.length
        · have hlt' : k < (⟨l.toArray⟩ : ByteArray).size := by rw [size_bytes]; exact hlt
          obtain ⟨b, hb⟩ : ∃ b : UInt8, (⟨l.toArray⟩ : ByteArray)[k]'hlt' = b := ⟨_, rfl⟩
          have HB : Hid (l[k]? = some b) := by rw [← hb]; exact bytes_at l k hlt'
          have h256 := b.toNat_lt
          by_cases h1 : b.toNat < 32
          · have HN : Hid (stOk l = false) := by show _ = _; unfold stOk; rw [all_no HB.out (chOk_lo h1)]; simp
            go_wp2_with fail
            go_ret
            exact ⟨by rw [HM.out, HN.out]; rfl, (Below.refl _ _).alloc (Nat.le_refl _) _⟩
          · by_cases h2 : 126 < b.toNat
            · have HN : Hid (stOk l = false) := by show _ = _; unfold stOk; rw [all_no HB.out (chOk_hi h2)]; simp
              go_wp2_with fail
              go_ret
              exact ⟨by rw [HM.out, HN.out]; rfl, (Below.refl _ _).alloc (Nat.le_refl _) _⟩
            · have HN : Hid ((l.take (k + 1)).all chOk = true) := by show _ = _; rw [all_take_succ HB.out, HA.out, chOk_yes h1 h2]; rfl
              go_wp2_with fail
              go_round
              case rel => exact ⟨k + 1, by omega, by go_num, HN⟩
              case measure => simp [intOf]; omega
        · obtain rfl : k = l.length := by omega
          have HR : Hid (stOk l = true) := by
            show _ = _
            have := HA.out
            rw [List.take_length] at this
            unfold stOk
            rw [this, H32.out]
            rfl
          go_wp2_with fail
          go_ret
          exact ⟨by rw [HM.out, HR.out]; rfl, (Below.refl _ _).alloc (Nat.le_refl _) _⟩
  · have HR : Hid (vaMay ⟨a, b, c, l⟩ = false) := by show _ = _; unfold vaMay; simp only; rw [h]; rfl
    clear h
    rcases hor with h1 | ⟨h1, h2⟩ | ⟨h1, h2, h3⟩ | ⟨h1, h2, h3, h4⟩ | ⟨h1, h2, h3, h4, h5⟩ | ⟨h1, h2, h3, h4, h5, h6⟩
    all_goals
      go_enter Try.func39, Try.ntmps39
      go_wp2_with fail
      go_ret
      exact ⟨by rw [HR.out]; rfl, (Below.refl _ _).alloc (Nat.le_refl _) _⟩

end Go.Proofs.Ytohfhphiofobcaa

end
