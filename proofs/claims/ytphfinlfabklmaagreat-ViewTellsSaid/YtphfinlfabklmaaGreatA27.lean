/-
  TEXTS OF THE PROOF, one behind the other: ValTake, ValRtake, DigMay, DigRmay, ShelfW, DigPut, DigRput, DigSum, DigTakeR, DigOwn, DigTake, DigRtake, DigGet.
-/
import Derived.Test.YtphfinlfabklmaaGreatA26
import Derived.Test.YtphfinlfabklmaaGreatA25
import Derived.Test.YtphfinlfabklmaaGreatA02
import Derived.Lib.QuietBelow
import Derived.Test.YtphfinlfabklmaaGreatA01

section

/-
  THE CONTRACT OF value.Take.
-/
namespace Go.Proofs.YtphfinlfabklmaaGreat
open Go.RowKit

/-- Three results: value, place, error. -/
def tripleV (a b c : Int) (t : List UInt8) (f er : Nat) : Value := .tuple #[.agg #[.int .i64 a, .int .i64 b, .int .i64 c, .string ⟨t.toArray⟩], .int .i64 f, .int .i64 er]

def valV (v : Val) : Value := .agg #[.int .i64 v.sh, .int .i64 v.pr, .int .i64 v.si, .string ⟨v.st.toArray⟩]

def tripleW (r : Val × Nat × Nat) : Value := .tuple #[valV r.1, .int .i64 r.2.1, .int .i64 r.2.2]

/-- Four cells, stored anew. -/
def set4 (w : World) (B : Nat) (a b c d : Value) : World := (((w.setCell ⟨B, 0, none⟩ a).setCell ⟨B, 1, none⟩ b).setCell ⟨B, 2, none⟩ c).setCell ⟨B, 3, none⟩ d

theorem four_set (w : World) (B : Nat) (a b c d a' b' c' d' : Value) (h0 : w.cell? ⟨B, 0, none⟩ = some a') (h1 : w.cell? ⟨B, 1, none⟩ = some b') (h2 : w.cell? ⟨B, 2, none⟩ = some c') (h3 : w.cell? ⟨B, 3, none⟩ = some d') :
    (set4 w B a b c d).cell? ⟨B, 0, none⟩ = some a ∧ (set4 w B a b c d).cell? ⟨B, 1, none⟩ = some b ∧ (set4 w B a b c d).cell? ⟨B, 2, none⟩ = some c ∧ (set4 w B a b c d).cell? ⟨B, 3, none⟩ = some d := by
  unfold set4
  have o1 : (w.setCell ⟨B, 0, none⟩ a).cell? ⟨B, 1, none⟩ = some b' := by rw [World.cell?_setCell_other _ _ _ _ (by simp)]; exact h1
  have o2 : ((w.setCell ⟨B, 0, none⟩ a).setCell ⟨B, 1, none⟩ b).cell? ⟨B, 2, none⟩ = some c' := by rw [World.cell?_setCell_other _ _ _ _ (by simp), World.cell?_setCell_other _ _ _ _ (by simp)]; exact h2
  have o3 : (((w.setCell ⟨B, 0, none⟩ a).setCell ⟨B, 1, none⟩ b).setCell ⟨B, 2, none⟩ c).cell? ⟨B, 3, none⟩ = some d' := by rw [World.cell?_setCell_other _ _ _ _ (by simp), World.cell?_setCell_other _ _ _ _ (by simp), World.cell?_setCell_other _ _ _ _ (by simp)]; exact h3
  refine ⟨?_, ?_, ?_, ?_⟩
  · rw [World.cell?_setCell_other _ _ _ _ (by simp), World.cell?_setCell_other _ _ _ _ (by simp), World.cell?_setCell_other _ _ _ _ (by simp)]
    exact World.cell?_setCell_same _ _ _ h0
  · rw [World.cell?_setCell_other _ _ _ _ (by simp), World.cell?_setCell_other _ _ _ _ (by simp)]
    exact World.cell?_setCell_same _ _ _ o1
  · rw [World.cell?_setCell_other _ _ _ _ (by simp)]
    exact World.cell?_setCell_same _ _ _ o2
  · exact World.cell?_setCell_same _ _ _ o3

theorem set4_below {w w1 : World} (h : Below w.heap.size w w1) (B : Nat) (hB : w.heap.size ≤ B) (a b c d : Value) : Below w.heap.size w (set4 w1 B a b c d) :=
  (((h.setCell hB _).setCell hB _).setCell hB _).setCell hB _

end Go.Proofs.YtphfinlfabklmaaGreat

end

section

/-
  THE CONTRACT OF THE DOCUMENT'S ANSWER TO Take (of a value).
-/
namespace Go.Proofs.YtphfinlfabklmaaGreat
open Go.RowKit

end Go.Proofs.YtphfinlfabklmaaGreat

end

section

/-
  THE CONTRACTS OF digest.May AND OF THE DOCUMENT'S ANSWER TO IT.
-/
namespace Go.Proofs.YtphfinlfabklmaaGreat
open Go.RowKit

/-- A row in a block of its own. -/
def Box5 (w : World) (b : Nat) (r : Row) : Prop :=
  w.cell? ⟨b, 0, none⟩ = some (.string ⟨r.c.toArray⟩) ∧ w.cell? ⟨b, 1, none⟩ = some (.int .i64 r.v.sh) ∧ w.cell? ⟨b, 2, none⟩ = some (.int .i64 r.v.pr) ∧
    w.cell? ⟨b, 3, none⟩ = some (.int .i64 r.v.si) ∧ w.cell? ⟨b, 4, none⟩ = some (.string ⟨r.v.st.toArray⟩)

theorem Box5.later {w w' : World} {b : Nat} {r : Row} (h : Box5 w b r) (hb : Below w.heap.size w w') : Box5 w' b r := by
  obtain ⟨h0, h1, h2, h3, h4⟩ := h
  exact ⟨cell_later h0 hb, cell_later h1 hb, cell_later h2 hb, cell_later h3 hb, cell_later h4 hb⟩

theorem Box5.lt {w : World} {b : Nat} {r : Row} (h : Box5 w b r) : b < w.heap.size := World.block_lt_of_cell? w _ h.1

theorem box5 {wr w1 : World} {c st : List UInt8} {x y z : Int} {ty : TypeId} (hb : Below (wr.alloc (.cells #[.string ⟨c.toArray⟩, .int .i64 x, .int .i64 y, .int .i64 z, .string ⟨st.toArray⟩] ty)).heap.size (wr.alloc (.cells #[.string ⟨c.toArray⟩, .int .i64 x, .int .i64 y, .int .i64 z, .string ⟨st.toArray⟩] ty)) w1) :
    Box5 w1 wr.heap.size ⟨c, x, y, z, st⟩ ∧ Below wr.heap.size wr w1 :=
  ⟨⟨cell_later (a := ⟨wr.heap.size, 0, none⟩) (by simp) hb, cell_later (a := ⟨wr.heap.size, 1, none⟩) (by simp) hb, cell_later (a := ⟨wr.heap.size, 2, none⟩) (by simp) hb,
    cell_later (a := ⟨wr.heap.size, 3, none⟩) (by simp) hb, cell_later (a := ⟨wr.heap.size, 4, none⟩) (by simp) hb⟩, below2' ((Below.refl _ _).alloc (Nat.le_refl _) _) hb⟩

theorem regrown_belowD {w w' : World} (h : ∃ p : Regrown, w' = Sort.grow (redrawn w p.d) p.os) : Below w.heap.size w w' := by
  obtain ⟨p, rfl⟩ := h
  exact below_regrown _ _ _

theorem diMay_on {t : List Row} (h1 : ¬ 32 < t.length) (h2 : (List.range t.length).all (rowAt t) = true) : diMay t = true := by
  unfold diMay
  rw [h2]
  simp
  omega

theorem diMay_off {t : List Row} {k : Nat} (hk : k < t.length) (h : rowAt t k = false) : diMay t = false := by
  unfold diMay
  rw [range_all_no hk h]
  simp

theorem rowAt_is {t : List Row} {k : Nat} {c st : List UInt8} {x y z : Int} (h : t.getD k Row.zero = ⟨c, x, y, z, st⟩) (hi : idIs c = false) : rowAt t k = false := by
  unfold rowAt rowOk
  rw [h]
  simp [hi]

theorem rowAt_may {t : List Row} {k : Nat} {c st : List UInt8} {x y z : Int} (h : t.getD k Row.zero = ⟨c, x, y, z, st⟩) (hm : vaMay ⟨x, y, z, st⟩ = false) : rowAt t k = false := by
  unfold rowAt rowOk
  rw [h]
  simp [hm]

theorem rowAt_first {t : List Row} {c st : List UInt8} {x y z : Int} (h : t.getD 0 Row.zero = ⟨c, x, y, z, st⟩) (hi : idIs c = true) (hm : vaMay ⟨x, y, z, st⟩ = true) : rowAt t 0 = true := by
  unfold rowAt rowOk
  rw [h]
  simp [hi, hm]

theorem rowAt_next {t : List Row} {j : Nat} {c st : List UInt8} {x y z : Int} (h : t.getD (j + 1) Row.zero = ⟨c, x, y, z, st⟩) (hi : idIs c = true) (hm : vaMay ⟨x, y, z, st⟩ = true) : rowAt t (j + 1) = idLess (t.getD j Row.zero).c c := by
  unfold rowAt rowOk
  rw [h]
  simp [hi, hm]

set_option maxHeartbeats 1600000 in
set_option maxRecDepth 100000 in
theorem dimay_any {w : World} {v : Value} {t : List Row} (hv : Tab w v t) (hs : Short t) :
    Calls Tryz.prog 27 #[v] w fun e w' => e = .returned (.bool (diMay t)) ∧ Below w.heap.size w w' := by
  have HV := Lib.hid hv
  have HS := Lib.hid hs
  obtain ⟨a, cap, rfl, hm⟩ := hv.open'
  clear hv hs
  by_cases h : 32 < t.length
  · have HR := Lib.hid (diMay_long h)
    go_enter Tryz.func27, Tryz.ntmps27
    go_wp2_with fail
    go_ret
    exact ⟨by rw [HR.out]; rfl, Below.refl _ _⟩
  · go_enter Tryz.func27, Tryz.ntmps27
    go_wp2_with fail
    go_loopw [10] (fun i wr => ∃ k : Nat, k ≤ t.length ∧ i = .int .i64 k ∧ Hid (Below w.heap.size w wr) ∧ Hid ((List.range k).all (rowAt t) = true)) (fun i _ => t.length - (intOf i).toNat)
    case atStart => exact ⟨0, by omega, rfl, Below.refl _ _, by show _ = _; simp⟩
    case round =>
      obtain ⟨k, hk, rfl, HN, HA⟩ := hrel
      by_cases hlt : k < t.length
      · obtain ⟨b, off, rfl, h0, h1, h2, h3, h4⟩ := HV.out.row HN.out k hlt
        obtain ⟨hl1, hl2⟩ := HS.out.get hlt
        obtain ⟨⟨c, ⟨x, y, z, st⟩⟩, hr⟩ : ∃ r, t.getD k Row.zero = r := ⟨_, rfl⟩
        rw [hr] at h0 h1 h2 h3 h4 hl1 hl2
        have HRr := Lib.hid hr
        simp only at h0 h1 h2 h3 h4 hl1 hl2
        clear hr
        cases hi : idIs c with
        | false =>
          have HR : Hid (diMay t = false) := diMay_off hlt (rowAt_is HRr.out hi)
          have HI := Lib.hid hi
          clear hi
          go_wp2_with fail
          refine (is_eq c hl1 HI _).mono ?_
          rintro e w1 ⟨rfl, hb1⟩
          have B1 := Lib.hid (below2' HN.out (box5 hb1).2)
          clear hb1
          go_wp2_with fail
          go_ret
          exact ⟨by rw [HR.out]; rfl, B1.out⟩
        | true =>
          have HI := Lib.hid hi
          clear hi
          go_wp2_with fail
          refine (is_eq c hl1 HI _).mono ?_
          rintro e w1 ⟨rfl, hb1⟩
          have B1 := Lib.hid (below2' HN.out (box5 hb1).2)
          have K1 := Lib.hid (box5 hb1).1
          obtain ⟨k0, k1, k2, k3, k4⟩ := K1.out
          clear hb1 h0 h1 h2 h3 h4
          cases hm2 : vaMay ⟨x, y, z, st⟩ with
          | false =>
            have HR : Hid (diMay t = false) := diMay_off hlt (rowAt_may HRr.out hm2)
            have HM := Lib.hid hm2
            clear hm2
            go_wp2_with fail
            refine (may_eq x y z st hl2 HM _).mono ?_
            rintro e w2 ⟨rfl, hb2⟩
            have B2 := Lib.hid (below2' B1.out hb2)
            clear hb2 k0 k1 k2 k3 k4
            go_wp2_with fail
            go_ret
            exact ⟨by rw [HR.out]; rfl, B2.out⟩
          | true =>
            have HM := Lib.hid hm2
            clear hm2
            go_wp2_with fail
            refine (may_eq x y z st hl2 HM _).mono ?_
            rintro e w2 ⟨rfl, hb2⟩
            have B2 := Lib.hid (below2' B1.out hb2)
            have K2 := Lib.hid (K1.out.later hb2)
            clear hb2 k0 k1 k2 k3 k4 B1 K1
            rcases Nat.eq_zero_or_pos k with rfl | hpos
            · have HA2 : Hid ((List.range 1).all (rowAt t) = true) := by show _ = _; exact range_all_succ HA.out (rowAt_first HRr.out HI.out HM.out)
              go_wp2_with fail
              refine wp_region_quiet_below (by kernel_rfl) (by kernel_rfl) ?_
              repeat (go_big_quiet_step (fail))
              refine wpQuiet_nil ?_
              intro w5 hw5
              have hb5 := regrown_belowD hw5
              have HN5 := Lib.hid (below2' B2.out hb5)
              clear hw5 hb5
              go_wp2_with fail
              go_roundw
              case rel => exact ⟨1, by omega, by go_num, HN5, HA2⟩
              case measure => simp [intOf]; omega
            · obtain ⟨j, rfl⟩ : ∃ j, k = j + 1 := ⟨k - 1, by omega⟩
              obtain ⟨b2, o2, e2, i0, _, _, _, _⟩ := HV.out.row B2.out j (by omega)
              injection e2 with e2
              injection e2 with e3 e4 _
              subst e3 e4
              have HX := rowAt_next HRr.out HI.out HM.out
              obtain ⟨yy, hy⟩ : ∃ yy, (t.getD j Row.zero).c = yy := ⟨_, rfl⟩
              rw [hy] at i0 HX
              clear hy
              have g1 := cell_regrown i0
              have g2 := cell_regrown K2.out.1
              cases hle : idLess yy c with
              | false =>
                have HR : Hid (diMay t = false) := diMay_off hlt (HX.trans hle)
                have HLe := Lib.hid (less_eq yy c (r := false) (Lib.hid hle))
                clear hle HX i0 hpos
                go_wp2_with fail
                refine wp_region_quiet_below (by kernel_rfl) (by kernel_rfl) ?_
                repeat (go_big_quiet_step (with_reducible exact rgB HLe.out _ _ _))
                refine wpQuiet_nil ?_
                intro w5 hw5
                have hb5 := regrown_belowD hw5
                have HN5 := Lib.hid (below2' B2.out hb5)
                clear hw5 hb5 g1 g2
                go_wp2_with fail
                go_ret
                exact ⟨by rw [HR.out]; rfl, HN5.out⟩
              | true =>
                have HA2 : Hid ((List.range (j + 1 + 1)).all (rowAt t) = true) := by show _ = _; exact range_all_succ HA.out (HX.trans hle)
                have HLe := Lib.hid (less_eq yy c (r := true) (Lib.hid hle))
                clear hle HX i0 hpos
                go_wp2_with fail
                refine wp_region_quiet_below (by kernel_rfl) (by kernel_rfl) ?_
                repeat (go_big_quiet_step (with_reducible exact rgB HLe.out _ _ _))
                refine wpQuiet_nil ?_
                intro w5 hw5
                have hb5 := regrown_belowD hw5
                have HN5 := Lib.hid (below2' B2.out hb5)
                clear hw5 hb5 g1 g2
                go_wp2_with fail
                go_roundw
                case rel => exact ⟨j + 1 + 1, by omega, by go_num, HN5, HA2⟩
                case measure => simp [intOf]; omega
      · obtain rfl : k = t.length := by omega
        have HR : Hid (diMay t = true) := by show _ = _; exact diMay_on h HA.out
        go_wp2_with fail
        go_ret
        exact ⟨by rw [HR.out]; rfl, HN.out⟩

theorem dimay_eq {w : World} {v : Value} {t : List Row} (hv : Tab w v t) (hs : Short t) {r : Bool} (h : Hid (diMay t = r)) :
    Calls Tryz.prog 27 #[v] w fun e w' => e = .returned (.bool r) ∧ Below w.heap.size w w' := by
  have := dimay_any hv hs
  rwa [h.out] at this

end Go.Proofs.YtphfinlfabklmaaGreat

end

section

/-
  THE CONTRACT OF THE DOCUMENT'S May (of a table).
-/
namespace Go.Proofs.YtphfinlfabklmaaGreat
open Go.RowKit

end Go.Proofs.YtphfinlfabklmaaGreat

end

section

/-
  THE CONTRACT OF (*strings.Builder).WriteString AT THIS PROGRAM, LAID WITHOUT A WALK.
-/
namespace Go.Proofs.YtphfinlfabklmaaGreat
open Go.Shelf Go.RowKit

def Tryz.lays166_ren : Go.Shelf.Ren := ⟨fun | 166 => 253 | 240 => 262 | 276 => 265 | n => n, fun | 0 => 0 | 3 => 3 | 4 => 4 | 5 => 5 | 9 => 9 | 20 => 20 | 37 => 229 | 70 => 268 | 72 => 270 | 75 => 272 | 80 => 275 | 164 => 283 | n => n, fun | n => n⟩

end Go.Proofs.YtphfinlfabklmaaGreat

end

section

/-
  THE CONTRACTS OF digest.Put AND OF THE DOCUMENT'S ANSWER TO IT.
-/
namespace Go.Proofs.YtphfinlfabklmaaGreat
open Go.RowKit Go.Lib
attribute [local go_sem] ByteArray.mk_append_mk

end Go.Proofs.YtphfinlfabklmaaGreat

end

section

/-
  THE CONTRACT OF THE DOCUMENT'S Put (of a table).
-/
namespace Go.Proofs.YtphfinlfabklmaaGreat
open Go.RowKit
attribute [local go_sem] ByteArray.mk_append_mk

end Go.Proofs.YtphfinlfabklmaaGreat

end

section

/-
  THE CONTRACTS OF digest.Sum AND OF THE DOCUMENT'S ANSWER TO IT.
-/
namespace Go.Proofs.YtphfinlfabklmaaGreat
open Go.RowKit

end Go.Proofs.YtphfinlfabklmaaGreat

end

section

/-
  THE CONTRACT OF digest.takeRow.
-/
namespace Go.Proofs.YtphfinlfabklmaaGreat
open Go.RowKit

def rowAgg (r : Row) : Value := .agg #[.string ⟨r.c.toArray⟩, .int .i64 r.v.sh, .int .i64 r.v.pr, .int .i64 r.v.si, .string ⟨r.v.st.toArray⟩]

/-- Three results: row, place, error. -/
def tripleR (r : Row × Nat × Nat) : Value := .tuple #[rowAgg r.1, .int .i64 r.2.1, .int .i64 r.2.2]

def set5D (w : World) (B : Nat) (a b c d e : Value) : World :=
  ((((w.setCell ⟨B, 0, none⟩ a).setCell ⟨B, 1, none⟩ b).setCell ⟨B, 2, none⟩ c).setCell ⟨B, 3, none⟩ d).setCell ⟨B, 4, none⟩ e

/-- None of a block's five cells is frozen. -/
def Free5 (w : World) (b : Nat) : Prop :=
  w.frozen? ⟨b, 0, none⟩ = false ∧ w.frozen? ⟨b, 1, none⟩ = false ∧ w.frozen? ⟨b, 2, none⟩ = false ∧ w.frozen? ⟨b, 3, none⟩ = false ∧ w.frozen? ⟨b, 4, none⟩ = false

theorem Free5.later {w w' : World} {b : Nat} (h : Free5 w b) (hb : Below w.heap.size w w') (hlt : b < w.heap.size) : Free5 w' b := by
  obtain ⟨h0, h1, h2, h3, h4⟩ := h
  have k : ∀ o, w'.frozen? ⟨b, o, none⟩ = w.frozen? ⟨b, o, none⟩ := fun o => hb.frozen (p := ⟨b, o, none⟩) hlt
  exact ⟨(k _).trans h0, (k _).trans h1, (k _).trans h2, (k _).trans h3, (k _).trans h4⟩

end Go.Proofs.YtphfinlfabklmaaGreat

end

section

/-
  TABLES OF THE CALL'S OWN: what they hold, and what append makes of them.
-/
namespace Go.Proofs.YtphfinlfabklmaaGreat
open Go.RowKit

/-- The cells of rows, one row behind the other. -/
def cellsOf (t : List Row) : List Value := (t.map rowVals).flatten

theorem cellsOf_nil : cellsOf [] = [] := rfl
theorem cellsOf_cons (r : Row) (t : List Row) : cellsOf (r :: t) = rowVals r ++ cellsOf t := rfl
theorem cellsOf_append (a b : List Row) : cellsOf (a ++ b) = cellsOf a ++ cellsOf b := by simp [cellsOf]
theorem cellsOf_one (r : Row) : cellsOf [r] = rowVals r := by simp [cellsOf]

theorem rowVals_len (r : Row) : (rowVals r).length = 5 := rfl

theorem cellsOf_len : ∀ t : List Row, (cellsOf t).length = t.length * 5
  | [] => rfl
  | r :: t => by rw [cellsOf_cons, List.length_append, rowVals_len, cellsOf_len t, List.length_cons]; omega

theorem cellsOf_at : ∀ (t : List Row) (i j : Nat), i < t.length → j < 5 → (cellsOf t)[i * 5 + j]? = (rowVals (t.getD i Row.zero))[j]?
  | [], i, j, h, _ => by simp at h
  | r :: t, 0, j, _, hj => by
    rw [cellsOf_cons, Nat.zero_mul, Nat.zero_add, List.getElem?_append_left (by rw [rowVals_len]; exact hj)]
    rfl
  | r :: t, i + 1, j, h, hj => by
    rw [cellsOf_cons, List.getElem?_append_right (by rw [rowVals_len]; omega), rowVals_len, show (i + 1) * 5 + j - 5 = i * 5 + j by omega, cellsOf_at t i j (by simpa using h) hj]
    rfl

theorem cellsOf_single (t : List Row) : ∀ u ∈ cellsOf t, u.oneCell' = true := by
  intro u hu
  obtain ⟨l, hl, hu⟩ := List.mem_flatten.1 hu
  obtain ⟨r, _, rfl⟩ := List.mem_map.1 hl
  simp only [rowVals, List.mem_cons, List.not_mem_nil, or_false] at hu
  rcases hu with rfl | rfl | rfl | rfl | rfl <;> rfl

theorem cells5_of {w : World} {b o : Nat} {r : Row} (h : ∀ j u, (rowVals r)[j]? = some u → w.cell? ⟨b, o + j, none⟩ = some u) : Cells5 w b o r :=
  ⟨h 0 _ rfl, h 1 _ rfl, h 2 _ rfl, h 3 _ rfl, h 4 _ rfl⟩

theorem cells5_get {w : World} {b o : Nat} {r : Row} (h : Cells5 w b o r) : ∀ j u, (rowVals r)[j]? = some u → w.cell? ⟨b, o + j, none⟩ = some u := by
  obtain ⟨h0, h1, h2, h3, h4⟩ := h
  intro j u hu
  match j, hu with
  | 0, hu => rw [← hu]; exact h0
  | 1, hu => rw [← hu]; exact h1
  | 2, hu => rw [← hu]; exact h2
  | 3, hu => rw [← hu]; exact h3
  | 4, hu => rw [← hu]; exact h4
  | n + 5, hu => simp [rowVals] at hu

/-- A table of the call's own. -/
def OwnR (w : World) (base : Nat) (v : Value) (t : List Row) : Prop := w.ownsRow base 45 5 v t.length (cellsOf t)

theorem OwnR.alloc {w : World} {base : Nat} {v : Value} {t : List Row} (h : OwnR w base v t) (o : Obj) : OwnR (w.alloc o) base v t := World.ownsRow.alloc h o

theorem ownR_nil (w : World) (base : Nat) : OwnR w base (.slice none 0 0) [] := World.ownsRow_nil w base _ _

theorem OwnR.later {w w' : World} {base : Nat} {v : Value} {t : List Row} (h : OwnR w base v t) (hb : Below w.heap.size w w') : OwnR w' base v t := by
  refine ⟨h.1, ?_⟩
  rcases h.2 with h' | ⟨g, cap, cur, h1, h2, h3, h4⟩
  · exact .inl h'
  · exact .inr ⟨g, cap, cur, h1, h2, by rw [hb.block g (Array.getElem?_eq_some_iff.1 h3).1]; exact h3, h4⟩

theorem OwnR.tab {w : World} {base : Nat} {v : Value} {t : List Row} (h : OwnR w base v t) : Tab w v t := by
  rcases h with ⟨_, ⟨rfl, h0⟩ | ⟨g, cap, cur, rfl, hb, hg, hn, hc, hsz, htk⟩⟩
  · obtain rfl : t = [] := List.length_eq_zero_iff.1 h0
    exact tab_nil w
  · refine ⟨some ⟨g, 0, none⟩, cap, rfl, hn, hc, (fun e => by cases e), .inr ⟨g, 0, rfl, (Array.getElem?_eq_some_iff.1 hg).1, fun i hi => ?_⟩⟩
    refine cells5_of fun j u hu => ?_
    have hj : j < 5 := by have := (List.getElem?_eq_some_iff.1 hu).1; rwa [rowVals_len] at this
    rw [Nat.zero_add, cell_of_row w g (i * 5 + j) cur _ (0, 0) hg]
    have h1 : cur.toList[i * 5 + j]? = (cellsOf t)[i * 5 + j]? := by
      rw [← htk, List.getElem?_take, if_pos (by omega)]
    rw [← hu, ← cellsOf_at t i j hi hj, ← h1]
    simp

theorem Tryz.infoSeen : (Tryz.prog.info? 45).map (fun i => (i.zero, i.size, i.bytes)) = some (some (.agg #[.string ⟨#[]⟩, .int .i64 0, .int .i64 0, .int .i64 0, .string ⟨#[]⟩]), 5, 56) := by kernel_rfl

/-- A new block of one row. -/
theorem new_row {w : World} {r : Row} {e : TypeId} {B : Nat} (hB : B = w.heap.size) : ∀ ad, some (⟨B, 0, none⟩ : Addr) = some ad → ∀ j u, (cellsOf [r])[j]? = some u → (w.alloc (.cells #[.string ⟨r.c.toArray⟩, .int .i64 r.v.sh, .int .i64 r.v.pr, .int .i64 r.v.si, .string ⟨r.v.st.toArray⟩] e)).cell? (ad.add j) = some u := by
  intro ad had j u hu
  subst hB
  obtain rfl := Option.some.inj had
  rw [cellsOf_one] at hu
  rw [Addr.add_lit, Nat.zero_add, World.cell?_alloc_at _ _ _ _ rfl, ← hu]
  simp [rowVals]

end Go.Proofs.YtphfinlfabklmaaGreat

end

section

/-
  THE CONTRACT OF digest.Take.
-/
namespace Go.Proofs.YtphfinlfabklmaaGreat
open Go.RowKit

/-- What Take leaves. -/
def Took (r : List Row × Nat × Nat) (w : World) (e : Ending) (w' : World) : Prop :=
  ∃ v, e = .returned (.tuple #[v, .int .i64 r.2.1, .int .i64 r.2.2]) ∧ Tab w' v r.1 ∧ Below w.heap.size w w'

end Go.Proofs.YtphfinlfabklmaaGreat

end

section

/-
  THE CONTRACT OF THE DOCUMENT'S Take (of a table).
-/
namespace Go.Proofs.YtphfinlfabklmaaGreat
open Go.RowKit

end Go.Proofs.YtphfinlfabklmaaGreat

end

section

/-
  THE CONTRACTS OF digest.Get AND OF THE DOCUMENT'S ANSWER TO IT.
-/
namespace Go.Proofs.YtphfinlfabklmaaGreat
open Go.RowKit

theorem diGet_at {t : List Row} {k : Nat} (hk : k < t.length) {c st : List UInt8} {x y z : Int} (hr : t.getD k Row.zero = ⟨c, x, y, z, st⟩) (key : List UInt8) :
    (c = key → diGet (t.drop k) key = (⟨x, y, z, st⟩, true)) ∧ (¬ c = key → diGet (t.drop k) key = diGet (t.drop (k + 1)) key) := by
  have e : t.drop k = ⟨c, x, y, z, st⟩ :: t.drop (k + 1) := by rw [List.drop_eq_getElem_cons hk, row_get hk, hr]
  rw [e]
  exact ⟨fun h => diGet_hit h _, fun h => diGet_miss h _⟩

theorem four_set_alloc (w : World) (B : Nat) (o : Obj) (a b c d : Value) {a' b' c' d' : Value} (h0 : w.cell? ⟨B, 0, none⟩ = some a') (h1 : w.cell? ⟨B, 1, none⟩ = some b') (h2 : w.cell? ⟨B, 2, none⟩ = some c') (h3 : w.cell? ⟨B, 3, none⟩ = some d') :
    ((set4 w B a b c d).alloc o).cell? ⟨B, 0, none⟩ = some a ∧ ((set4 w B a b c d).alloc o).cell? ⟨B, 1, none⟩ = some b ∧ ((set4 w B a b c d).alloc o).cell? ⟨B, 2, none⟩ = some c ∧ ((set4 w B a b c d).alloc o).cell? ⟨B, 3, none⟩ = some d := by
  obtain ⟨r0, r1, r2, r3⟩ := four_set w B a b c d _ _ _ _ h0 h1 h2 h3
  have hb : Below (set4 w B a b c d).heap.size (set4 w B a b c d) ((set4 w B a b c d).alloc o) := (Below.refl _ _).alloc (Nat.le_refl _) _
  exact ⟨cell_later r0 hb, cell_later r1 hb, cell_later r2 hb, cell_later r3 hb⟩

/-- A new block of four cells, and whatever came behind it. -/
theorem block4 {w w1 : World} {a b c d : Value} {t1 : TypeId} (hb : Below (w.alloc (.cells #[a, b, c, d] t1)).heap.size (w.alloc (.cells #[a, b, c, d] t1)) w1) :
    (w1.cell? ⟨w.heap.size, 0, none⟩ = some a ∧ w1.cell? ⟨w.heap.size, 1, none⟩ = some b ∧ w1.cell? ⟨w.heap.size, 2, none⟩ = some c ∧ w1.cell? ⟨w.heap.size, 3, none⟩ = some d) ∧
    (w1.frozen? ⟨w.heap.size, 0, none⟩ = false ∧ w1.frozen? ⟨w.heap.size, 1, none⟩ = false ∧ w1.frozen? ⟨w.heap.size, 2, none⟩ = false ∧ w1.frozen? ⟨w.heap.size, 3, none⟩ = false) ∧ Below w.heap.size w w1 ∧ w.heap.size < w1.heap.size := by
  have hA : ∀ o, w1.cell? ⟨w.heap.size, o, none⟩ = #[a, b, c, d][o]? := fun o => by
    rw [hb.cell (p := ⟨w.heap.size, o, none⟩) (by show w.heap.size < _; simp), World.cell?_alloc_at _ _ _ _ rfl]
  have hF : ∀ o, w1.frozen? ⟨w.heap.size, o, none⟩ = false := fun o => by
    rw [hb.frozen (p := ⟨w.heap.size, o, none⟩) (by show w.heap.size < _; simp)]
    simp
  have hs := hb.size
  exact ⟨⟨hA 0, hA 1, hA 2, hA 3⟩, ⟨hF 0, hF 1, hF 2, hF 3⟩, below2' ((Below.refl _ _).alloc (Nat.le_refl _) _) hb, by simp at hs; omega⟩

/-- Two results: value, whether it is there. -/
def pairG (r : Val × Bool) : Value := .tuple #[valV r.1, .bool r.2]

set_option maxHeartbeats 1600000 in
set_option maxRecDepth 100000 in
theorem diget_any {w : World} {v : Value} {t : List Row} (hv : Tab w v t) (key : List UInt8) :
    Calls Tryz.prog 28 #[v, .string ⟨key.toArray⟩] w fun e w' => e = .returned (pairG (diGet t key)) ∧ Below w.heap.size w w' := by
  have HV := Lib.hid hv
  obtain ⟨a, cap, rfl, hm⟩ := hv.open'
  clear hv
  go_enter Tryz.func28, Tryz.ntmps28
  go_wp2_with fail
  go_loopw [10] (fun i wr => ∃ k : Nat, k ≤ t.length ∧ i = .int .i64 k ∧ Hid (Below (w.alloc (.cells #[.int .i64 0, .int .i64 0, .int .i64 0, .string ⟨#[]⟩] 30)).heap.size (w.alloc (.cells #[.int .i64 0, .int .i64 0, .int .i64 0, .string ⟨#[]⟩] 30)) wr) ∧ Hid (diGet t key = diGet (t.drop k) key)) (fun i _ => t.length - (intOf i).toNat)
  case atStart => exact ⟨0, by omega, rfl, Below.refl _ _, rfl⟩
  case round =>
    obtain ⟨k, hk, rfl, HN, HA⟩ := hrel
    obtain ⟨⟨q0, q1, q2, q3⟩, ⟨f0, f1, f2, f3⟩, hB, hz⟩ := block4 HN.out
    have HB := Lib.hid hB
    clear hB
    by_cases hlt : k < t.length
    · obtain ⟨b, off, rfl, h0, h1, h2, h3, h4⟩ := HV.out.row HB.out k hlt
      obtain ⟨⟨c, ⟨x, y, z, st⟩⟩, hr⟩ : ∃ r, t.getD k Row.zero = r := ⟨_, rfl⟩
      rw [hr] at h0 h1 h2 h3 h4
      obtain ⟨e1, e2⟩ := diGet_at hlt hr key
      simp only at h0 h1 h2 h3 h4
      by_cases hc : c = key
      · have HR : Hid (diGet t key = (⟨x, y, z, st⟩, true)) := by show _ = _; rw [HA.out]; exact e1 hc
        subst hc
        clear e1 e2 hr
        have Q0 := Lib.hid q0
        have Q1 := Lib.hid q1
        have Q2 := Lib.hid q2
        have Q3 := Lib.hid q3
        go_wp2_with fail
        obtain ⟨r0, r1, r2, r3⟩ := four_set_alloc wr w.heap.size (.cells #[.string ⟨c.toArray⟩, .int .i64 x, .int .i64 y, .int .i64 z, .string ⟨st.toArray⟩] 45) (.int .i64 x) (.int .i64 y) (.int .i64 z) (.string ⟨st.toArray⟩) Q0.out Q1.out Q2.out Q3.out
        unfold set4 at r0 r1 r2 r3
        exact bodyPost_ret (v := pairG (⟨x, y, z, st⟩, true)) (by simp [results, Tryz.results28, go_sem, pairG, valV, r0, r1, r2, r3]) rfl ⟨by rw [HR.out], bl_alloc (set4_below HB.out _ (Nat.le_refl _) _ _ _ _) _⟩
      · have HA2 : Hid (diGet t key = diGet (t.drop (k + 1)) key) := by show _ = _; rw [HA.out]; exact e2 hc
        have t1 : (c == key) = false := by simpa using hc
        have HN2 := Lib.hid (HN.out.alloc HN.out.size (.cells #[.string ⟨c.toArray⟩, .int .i64 x, .int .i64 y, .int .i64 z, .string ⟨st.toArray⟩] 45))
        clear e1 e2 hr hc
        go_wp2_with fail
        go_roundw
        case rel => exact ⟨k + 1, by omega, by go_num, HN2, HA2⟩
        case measure => simp [intOf]; omega
    · obtain rfl : k = t.length := by omega
      have HR : Hid (diGet t key = (Val.zero, false)) := by show _ = _; rw [HA.out, List.drop_length]; rfl
      have Q0 := Lib.hid q0
      have Q1 := Lib.hid q1
      have Q2 := Lib.hid q2
      have Q3 := Lib.hid q3
      go_wp2_with fail
      obtain ⟨r0, r1, r2, r3⟩ := four_set wr w.heap.size (.int .i64 0) (.int .i64 0) (.int .i64 0) (.string ⟨#[]⟩) _ _ _ _ Q0.out Q1.out Q2.out Q3.out
      unfold set4 at r0 r1 r2 r3
      exact bodyPost_ret (v := pairG (Val.zero, false)) (by simp [results, Tryz.results28, go_sem, pairG, valV, Val.zero, r0, r1, r2, r3]) rfl ⟨by rw [HR.out], set4_below HB.out _ (Nat.le_refl _) _ _ _ _⟩

set_option maxHeartbeats 1600000 in
set_option maxRecDepth 100000 in
theorem rdiget_any {w : World} {v : Value} {t : List Row} (hv : Tab w v t) (key : List UInt8) :
    Calls Tryz.prog 132 #[v, .string ⟨key.toArray⟩] w fun e w' => e = .returned (pairG (diGet t key)) ∧ Below w.heap.size w w' := by
  have HV := Lib.hid hv
  obtain ⟨a, cap, rfl, hm⟩ := hv.open'
  clear hv
  go_enter Tryz.func132, Tryz.ntmps132
  go_wp2_with fail
  go_loopw [6] (fun i wr => ∃ k : Nat, k ≤ t.length ∧ i = .int .i64 k ∧ Hid (Below (w.alloc (.cells #[.int .i64 0, .int .i64 0, .int .i64 0, .string ⟨#[]⟩] 30)).heap.size (w.alloc (.cells #[.int .i64 0, .int .i64 0, .int .i64 0, .string ⟨#[]⟩] 30)) wr) ∧ Hid (diGet t key = diGet (t.drop k) key)) (fun i _ => t.length - (intOf i).toNat)
  case atStart => exact ⟨0, by omega, rfl, Below.refl _ _, rfl⟩
  case round =>
    obtain ⟨k, hk, rfl, HN, HA⟩ := hrel
    obtain ⟨⟨q0, q1, q2, q3⟩, ⟨f0, f1, f2, f3⟩, hB, hz⟩ := block4 HN.out
    have HB := Lib.hid hB
    clear hB
    by_cases hlt : k < t.length
    · obtain ⟨b, off, rfl, h0, h1, h2, h3, h4⟩ := HV.out.row HB.out k hlt
      obtain ⟨⟨c, ⟨x, y, z, st⟩⟩, hr⟩ : ∃ r, t.getD k Row.zero = r := ⟨_, rfl⟩
      rw [hr] at h0 h1 h2 h3 h4
      obtain ⟨e1, e2⟩ := diGet_at hlt hr key
      simp only at h0 h1 h2 h3 h4
      by_cases hc : c = key
      · have HR : Hid (diGet t key = (⟨x, y, z, st⟩, true)) := by show _ = _; rw [HA.out]; exact e1 hc
        subst hc
        clear e1 e2 hr
        have Q0 := Lib.hid q0
        have Q1 := Lib.hid q1
        have Q2 := Lib.hid q2
        have Q3 := Lib.hid q3
        go_wp2_with fail
        obtain ⟨r0, r1, r2, r3⟩ := four_set wr w.heap.size (.int .i64 x) (.int .i64 y) (.int .i64 z) (.string ⟨st.toArray⟩) _ _ _ _ Q0.out Q1.out Q2.out Q3.out
        unfold set4 at r0 r1 r2 r3
        exact bodyPost_ret (v := pairG (⟨x, y, z, st⟩, true)) (by simp [results, Tryz.results132, go_sem, pairG, valV, r0, r1, r2, r3]) rfl ⟨by rw [HR.out], set4_below HB.out _ (Nat.le_refl _) _ _ _ _⟩
      · have HA2 : Hid (diGet t key = diGet (t.drop (k + 1)) key) := by show _ = _; rw [HA.out]; exact e2 hc
        have t1 : (c == key) = false := by simpa using hc
        clear e1 e2 hr hc
        go_wp2_with fail
        go_roundw
        case rel => exact ⟨k + 1, by omega, by go_num, HN, HA2⟩
        case measure => simp [intOf]; omega
    · obtain rfl : k = t.length := by omega
      have HR : Hid (diGet t key = (Val.zero, false)) := by show _ = _; rw [HA.out, List.drop_length]; rfl
      have Q0 := Lib.hid q0
      have Q1 := Lib.hid q1
      have Q2 := Lib.hid q2
      have Q3 := Lib.hid q3
      go_wp2_with fail
      obtain ⟨r0, r1, r2, r3⟩ := four_set wr w.heap.size (.int .i64 0) (.int .i64 0) (.int .i64 0) (.string ⟨#[]⟩) _ _ _ _ Q0.out Q1.out Q2.out Q3.out
      unfold set4 at r0 r1 r2 r3
      exact bodyPost_ret (v := pairG (Val.zero, false)) (by simp [results, Tryz.results132, go_sem, pairG, valV, Val.zero, r0, r1, r2, r3]) rfl ⟨by rw [HR.out], set4_below HB.out _ (Nat.le_refl _) _ _ _ _⟩

theorem rdiget_eq {w : World} {v : Value} {t : List Row} (hv : Tab w v t) (key : List UInt8) {x y z : Int} {st : List UInt8} {b : Bool} (h : Hid (diGet t key = (⟨x, y, z, st⟩, b))) :
    Calls Tryz.prog 132 #[v, .string ⟨key.toArray⟩] w fun e w' => e = .returned (.tuple #[.agg #[.int .i64 x, .int .i64 y, .int .i64 z, .string ⟨st.toArray⟩], .bool b]) ∧ Below w.heap.size w w' := by
  have := rdiget_any hv key
  rwa [h.out] at this

end Go.Proofs.YtphfinlfabklmaaGreat

end
