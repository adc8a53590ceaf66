/-
  TEXTS OF THE PROOF, one behind the other: DigMay, DigRmay, ShelfW, DigPut, DigRput, DigSum, DigTakeR, DigOwn, DigTake, DigRtake, DigGet, IdRow, IdDoc, IdRput, IdRmerge.
-/
import Derived.Test.YthlkfbiclhgdoaaQ01
import Derived.Test.YthlkfbiclhgdoaaQ02
import Derived.Lib.QuietBelow
import Derived.Laws.AppendOwnNone
import Derived.Laws.OwnMore

section

/-
  THE CONTRACTS OF digest.May AND OF THE DOCUMENT'S ANSWER TO IT.
-/
namespace Go.Proofs.Ythlkfbiclhgdoaa
open Go.RowKit

/-- A row in a block of its own. -/
def Box5 (w : World) (b : Nat) (r : Row) : Prop :=
  w.cell? ⟨b, 0, none⟩ = some (.string ⟨r.c.toArray⟩) ∧ w.cell? ⟨b, 1, none⟩ = some (.int .i64 r.v.sh) ∧ w.cell? ⟨b, 2, none⟩ = some (.int .i64 r.v.pr) ∧
    w.cell? ⟨b, 3, none⟩ = some (.int .i64 r.v.si) ∧ w.cell? ⟨b, 4, none⟩ = some (.string ⟨r.v.st.toArray⟩)

theorem Box5.later {w w' : World} {b : Nat} {r : Row} (h : Box5 w b r) (hb : Below w.heap.size w w') : Box5 w' b r := by
  obtain ⟨h0, h1, h2, h3, h4⟩ := h
  exact ⟨cell_later h0 hb, cell_later h1 hb, cell_later h2 hb, cell_later h3 hb, cell_later h4 hb⟩

theorem Box5.lt {w : World} {b : Nat} {r : Row} (h : Box5 w b r) : b < w.heap.size := World.block_lt_of_cell? w _ h.1

theorem box5 {wr w1 : World} {c st : List UInt8} {x y z : Int} {ty : TypeId} (hb : Below (wr.alloc (.cells #[.string ⟨c.toArray⟩, .int .i64 x, .int .i64 y, .int .i64 z, .string ⟨st.toArray⟩] ty)).heap.size (wr.alloc (.cells #[.string ⟨c.toArray⟩, .int .i64 x, .int .i64 y, .int .i64 z, .string ⟨st.toArray⟩] ty)) w1) :
    Box5 w1 wr.heap.size ⟨c, x, y, z, st⟩ ∧ Below wr.heap.size wr w1 :=
  ⟨⟨cell_later (a := ⟨wr.heap.size, 0, none⟩) (by simp) hb, cell_later (a := ⟨wr.heap.size, 1, none⟩) (by simp) hb, cell_later (a := ⟨wr.heap.size, 2, none⟩) (by simp) hb,
    cell_later (a := ⟨wr.heap.size, 3, none⟩) (by simp) hb, cell_later (a := ⟨wr.heap.size, 4, none⟩) (by simp) hb⟩, below2' ((Below.refl _ _).alloc (Nat.le_refl _) _) hb⟩

theorem regrown_belowD {w w' : World} (h : ∃ p : Regrown, w' = Sort.grow (redrawn w p.d) p.os) : Below w.heap.size w w' := by
  obtain ⟨p, rfl⟩ := h
  exact below_regrown _ _ _

theorem diMay_on {t : List Row} (h1 : ¬ 32 < t.length) (h2 : (List.range t.length).all (rowAt t) = true) : diMay t = true := by
  unfold diMay
  rw [h2]
  simp
  omega

theorem diMay_off {t : List Row} {k : Nat} (hk : k < t.length) (h : rowAt t k = false) : diMay t = false := by
  unfold diMay
  rw [range_all_no hk h]
  simp

theorem rowAt_is {t : List Row} {k : Nat} {c st : List UInt8} {x y z : Int} (h : t.getD k Row.zero = ⟨c, x, y, z, st⟩) (hi : idIs c = false) : rowAt t k = false := by
  unfold rowAt rowOk
  rw [h]
  simp [hi]

theorem rowAt_may {t : List Row} {k : Nat} {c st : List UInt8} {x y z : Int} (h : t.getD k Row.zero = ⟨c, x, y, z, st⟩) (hm : vaMay ⟨x, y, z, st⟩ = false) : rowAt t k = false := by
  unfold rowAt rowOk
  rw [h]
  simp [hm]

theorem rowAt_first {t : List Row} {c st : List UInt8} {x y z : Int} (h : t.getD 0 Row.zero = ⟨c, x, y, z, st⟩) (hi : idIs c = true) (hm : vaMay ⟨x, y, z, st⟩ = true) : rowAt t 0 = true := by
  unfold rowAt rowOk
  rw [h]
  simp [hi, hm]

theorem rowAt_next {t : List Row} {j : Nat} {c st : List UInt8} {x y z : Int} (h : t.getD (j + 1) Row.zero = ⟨c, x, y, z, st⟩) (hi : idIs c = true) (hm : vaMay ⟨x, y, z, st⟩ = true) : rowAt t (j + 1) = idLess (t.getD j Row.zero).c c := by
  unfold rowAt rowOk
  rw [h]
  simp [hi, hm]

end Go.Proofs.Ythlkfbiclhgdoaa

end

section

/-
  THE CONTRACT OF THE DOCUMENT'S May (of a table).
-/
namespace Go.Proofs.Ythlkfbiclhgdoaa
open Go.RowKit

set_option maxHeartbeats 3200000 in
set_option maxRecDepth 100000 in
theorem rdimay_any {w : World} {v : Value} {t : List Row} (hv : Tab w v t) (hs : Short t) :
    Calls Try.prog 29 #[v] w fun e w' => e = .returned (.bool (diMay t)) ∧ Below w.heap.size w w' := by
  have HV := Lib.hid hv
  have HS := Lib.hid hs
  obtain ⟨a, cap, rfl, hm⟩ := hv.open'
  clear hv hs
  by_cases h : 32 < t.length
  · have HR := Lib.hid (diMay_long h)
    go_enter Try.func29, Try.ntmps29
    go_wp2_with fail
    go_ret
    exact ⟨by rw [HR.out]; rfl, Below.refl _ _⟩
  · go_enter Try.func29, Try.ntmps29
    go_wp2_with fail
    go_loopw [3] (fun i wr => ∃ k : Nat, k ≤ t.length ∧ i = .int .i64 k ∧ Hid (Below w.heap.size w wr) ∧ Hid ((List.range k).all (rowAt t) = true)) (fun i _ => t.length - (intOf i).toNat)
    case atStart => exact ⟨0, by omega, rfl, Below.refl _ _, by show _ = _; simp⟩
    case round =>
      obtain ⟨k, hk, rfl, HN, HA⟩ := hrel
      by_cases hlt : k < t.length
      · obtain ⟨b, off, rfl, h0, h1, h2, h3, h4⟩ := HV.out.row HN.out k hlt
        obtain ⟨hl1, hl2⟩ := HS.out.get hlt
        obtain ⟨⟨c, ⟨x, y, z, st⟩⟩, hr⟩ : ∃ r, t.getD k Row.zero = r := ⟨_, rfl⟩
        rw [hr] at h0 h1 h2 h3 h4 hl1 hl2
        have HRr := Lib.hid hr
        simp only at h0 h1 h2 h3 h4 hl1 hl2
        have g0 := cell_regrown h0
        have g1 := cell_regrown h1
        have g2 := cell_regrown h2
        have g3 := cell_regrown h3
        have g4 := cell_regrown h4
        clear hr h0 h1 h2 h3 h4
        cases hi : idIs c with
        | false =>
          have HR : Hid (diMay t = false) := diMay_off hlt (rowAt_is HRr.out hi)
          have HI := Lib.hid (ris_eq c hl1 (r := false) (Lib.hid hi))
          clear hi
          go_wp2_with fail
          refine wp_region_quiet_below (by kernel_rfl) (by kernel_rfl) ?_
          repeat (go_big_quiet_step (with_reducible exact rgS HI.out _ _ _))
          refine wpQuiet_nil ?_
          intro w5 hw5
          have hb5 := regrown_belowD hw5
          have HN5 := Lib.hid (below2' HN.out hb5)
          clear hw5 hb5 g0 g1 g2 g3 g4
          go_wp2_with fail
          go_ret
          exact ⟨by rw [HR.out]; rfl, HN5.out⟩
        | true =>
          have HI := Lib.hid (ris_eq c hl1 (r := true) (Lib.hid hi))
          cases hm2 : vaMay ⟨x, y, z, st⟩ with
          | false =>
            have HR : Hid (diMay t = false) := diMay_off hlt (rowAt_may HRr.out hm2)
            have HM := Lib.hid (rmay_eq x y z st hl2 (r := false) (Lib.hid hm2))
            clear hi hm2
            go_wp2_with fail
            refine wp_region_quiet_below (by kernel_rfl) (by kernel_rfl) ?_
            repeat (go_big_quiet_step (first | with_reducible exact rgS HI.out _ _ _ | with_reducible exact rgB HM.out _ _ _))
            refine wpQuiet_nil ?_
            intro w5 hw5
            have hb5 := regrown_belowD hw5
            have HN5 := Lib.hid (below2' HN.out hb5)
            clear hw5 hb5 g0 g1 g2 g3 g4
            go_wp2_with fail
            go_ret
            exact ⟨by rw [HR.out]; rfl, HN5.out⟩
          | true =>
            have HM := Lib.hid (rmay_eq x y z st hl2 (r := true) (Lib.hid hm2))
            rcases Nat.eq_zero_or_pos k with rfl | hpos
            · have HA2 : Hid ((List.range 1).all (rowAt t) = true) := by show _ = _; exact range_all_succ HA.out (rowAt_first HRr.out hi hm2)
              clear hi hm2
              simp only [Nat.zero_mul, Nat.add_zero] at g0 g1 g2 g3 g4
              go_wp2_with fail
              refine wp_region_quiet_below (by kernel_rfl) (by kernel_rfl) ?_
              repeat (go_big_quiet_step (first | with_reducible exact rgS HI.out _ _ _ | with_reducible exact rgB HM.out _ _ _))
              refine wpQuiet_nil ?_
              intro w5 hw5
              have hb5 := regrown_belowD hw5
              have HN5 := Lib.hid (below2' HN.out hb5)
              clear hw5 hb5 g0 g1 g2 g3 g4
              go_wp2_with fail
              go_roundw
              case rel => exact ⟨1, by omega, by go_num, HN5, HA2⟩
              case measure => simp [intOf]; omega
            · obtain ⟨j, rfl⟩ : ∃ j, k = j + 1 := ⟨k - 1, by omega⟩
              obtain ⟨b2, o2, e2, i0, _, _, _, _⟩ := HV.out.row HN.out j (by omega)
              injection e2 with e2
              injection e2 with e3 e4 _
              subst e3 e4
              have HX := rowAt_next HRr.out hi hm2
              obtain ⟨yy, hy⟩ : ∃ yy, (t.getD j Row.zero).c = yy := ⟨_, rfl⟩
              rw [hy] at i0 HX
              have g5 := cell_regrown i0
              clear hy i0 hi hm2
              cases hle : idLess yy c with
              | false =>
                have HR : Hid (diMay t = false) := diMay_off hlt (HX.trans hle)
                have HLe := Lib.hid (rless_eq yy c (r := false) (Lib.hid hle))
                clear hle HX hpos
                go_wp2_with fail
                refine wp_region_quiet_below (by kernel_rfl) (by kernel_rfl) ?_
                repeat (go_big_quiet_step (first | with_reducible exact rgS HI.out _ _ _ | with_reducible exact rgB HM.out _ _ _ | with_reducible exact rgS HLe.out _ _ _))
                refine wpQuiet_nil ?_
                intro w5 hw5
                have hb5 := regrown_belowD hw5
                have HN5 := Lib.hid (below2' HN.out hb5)
                clear hw5 hb5 g0 g1 g2 g3 g4 g5
                go_wp2_with fail
                go_ret
                exact ⟨by rw [HR.out]; rfl, HN5.out⟩
              | true =>
                have HA2 : Hid ((List.range (j + 1 + 1)).all (rowAt t) = true) := by show _ = _; exact range_all_succ HA.out (HX.trans hle)
                have HLe := Lib.hid (rless_eq yy c (r := true) (Lib.hid hle))
                clear hle HX hpos
                go_wp2_with fail
                refine wp_region_quiet_below (by kernel_rfl) (by kernel_rfl) ?_
                repeat (go_big_quiet_step (first | with_reducible exact rgS HI.out _ _ _ | with_reducible exact rgB HM.out _ _ _ | with_reducible exact rgS HLe.out _ _ _))
                refine wpQuiet_nil ?_
                intro w5 hw5
                have hb5 := regrown_belowD hw5
                have HN5 := Lib.hid (below2' HN.out hb5)
                clear hw5 hb5 g0 g1 g2 g3 g4 g5
                go_wp2_with fail
                go_roundw
                case rel => exact ⟨j + 1 + 1, by omega, by go_num, HN5, HA2⟩
                case measure => simp [intOf]; omega
      · obtain rfl : k = t.length := by omega
        have HR : Hid (diMay t = true) := by show _ = _; exact diMay_on h HA.out
        go_wp2_with fail
        go_ret
        exact ⟨by rw [HR.out]; rfl, HN.out⟩

theorem rdimay_eq {w : World} {v : Value} {t : List Row} (hv : Tab w v t) (hs : Short t) {r : Bool} (h : Hid (diMay t = r)) :
    Calls Try.prog 29 #[v] w fun e w' => e = .returned (.bool r) ∧ Below w.heap.size w w' := by
  have := rdimay_any hv hs
  rwa [h.out] at this

end Go.Proofs.Ythlkfbiclhgdoaa

end

section

/-
  THE CONTRACT OF (*strings.Builder).WriteString AT THIS PROGRAM, LAID WITHOUT A WALK.
-/
namespace Go.Proofs.Ythlkfbiclhgdoaa
open Go.Shelf Go.RowKit

def Try.lays166_ren : Go.Shelf.Ren := ⟨fun | 166 => 109 | 240 => 120 | 276 => 123 | n => n, fun | 0 => 0 | 3 => 3 | 4 => 4 | 5 => 5 | 9 => 9 | 20 => 20 | 37 => 141 | 70 => 140 | 72 => 143 | 75 => 145 | 80 => 151 | 164 => 163 | n => n, fun | n => n⟩

end Go.Proofs.Ythlkfbiclhgdoaa

end

section

/-
  THE CONTRACTS OF digest.Put AND OF THE DOCUMENT'S ANSWER TO IT.
-/
namespace Go.Proofs.Ythlkfbiclhgdoaa
open Go.RowKit Go.Lib
attribute [local go_sem] ByteArray.mk_append_mk

end Go.Proofs.Ythlkfbiclhgdoaa

end

section

/-
  THE CONTRACT OF THE DOCUMENT'S Put (of a table).
-/
namespace Go.Proofs.Ythlkfbiclhgdoaa
open Go.RowKit
attribute [local go_sem] ByteArray.mk_append_mk

end Go.Proofs.Ythlkfbiclhgdoaa

end

section

/-
  THE CONTRACTS OF digest.Sum AND OF THE DOCUMENT'S ANSWER TO IT.
-/
namespace Go.Proofs.Ythlkfbiclhgdoaa
open Go.RowKit

end Go.Proofs.Ythlkfbiclhgdoaa

end

section

/-
  THE CONTRACT OF digest.takeRow.
-/
namespace Go.Proofs.Ythlkfbiclhgdoaa
open Go.RowKit

def rowAgg (r : Row) : Value := .agg #[.string ⟨r.c.toArray⟩, .int .i64 r.v.sh, .int .i64 r.v.pr, .int .i64 r.v.si, .string ⟨r.v.st.toArray⟩]

/-- Three results: row, place, error. -/
def tripleR (r : Row × Nat × Nat) : Value := .tuple #[rowAgg r.1, .int .i64 r.2.1, .int .i64 r.2.2]

def set5D (w : World) (B : Nat) (a b c d e : Value) : World :=
  ((((w.setCell ⟨B, 0, none⟩ a).setCell ⟨B, 1, none⟩ b).setCell ⟨B, 2, none⟩ c).setCell ⟨B, 3, none⟩ d).setCell ⟨B, 4, none⟩ e

/-- None of a block's five cells is frozen. -/
def Free5 (w : World) (b : Nat) : Prop :=
  w.frozen? ⟨b, 0, none⟩ = false ∧ w.frozen? ⟨b, 1, none⟩ = false ∧ w.frozen? ⟨b, 2, none⟩ = false ∧ w.frozen? ⟨b, 3, none⟩ = false ∧ w.frozen? ⟨b, 4, none⟩ = false

theorem Free5.later {w w' : World} {b : Nat} (h : Free5 w b) (hb : Below w.heap.size w w') (hlt : b < w.heap.size) : Free5 w' b := by
  obtain ⟨h0, h1, h2, h3, h4⟩ := h
  have k : ∀ o, w'.frozen? ⟨b, o, none⟩ = w.frozen? ⟨b, o, none⟩ := fun o => hb.frozen (p := ⟨b, o, none⟩) hlt
  exact ⟨(k _).trans h0, (k _).trans h1, (k _).trans h2, (k _).trans h3, (k _).trans h4⟩

end Go.Proofs.Ythlkfbiclhgdoaa

end

section

/-
  TABLES OF THE CALL'S OWN: what they hold, and what append makes of them.
-/
namespace Go.Proofs.Ythlkfbiclhgdoaa
open Go.RowKit

/-- The cells of rows, one row behind the other. -/
def cellsOf (t : List Row) : List Value := (t.map rowVals).flatten

theorem cellsOf_nil : cellsOf [] = [] := rfl
theorem cellsOf_cons (r : Row) (t : List Row) : cellsOf (r :: t) = rowVals r ++ cellsOf t := rfl
theorem cellsOf_append (a b : List Row) : cellsOf (a ++ b) = cellsOf a ++ cellsOf b := by simp [cellsOf]
theorem cellsOf_one (r : Row) : cellsOf [r] = rowVals r := by simp [cellsOf]

theorem rowVals_len (r : Row) : (rowVals r).length = 5 := rfl

theorem cellsOf_len : ∀ t : List Row, (cellsOf t).length = t.length * 5
  | [] => rfl
  | r :: t => by rw [cellsOf_cons, List.length_append, rowVals_len, cellsOf_len t, List.length_cons]; omega

theorem cellsOf_at : ∀ (t : List Row) (i j : Nat), i < t.length → j < 5 → (cellsOf t)[i * 5 + j]? = (rowVals (t.getD i Row.zero))[j]?
  | [], i, j, h, _ => by simp at h
  | r :: t, 0, j, _, hj => by
    rw [cellsOf_cons, Nat.zero_mul, Nat.zero_add, List.getElem?_append_left (by rw [rowVals_len]; exact hj)]
    rfl
  | r :: t, i + 1, j, h, hj => by
    rw [cellsOf_cons, List.getElem?_append_right (by rw [rowVals_len]; omega), rowVals_len, show (i + 1) * 5 + j - 5 = i * 5 + j by omega, cellsOf_at t i j (by simpa using h) hj]
    rfl

theorem cellsOf_single (t : List Row) : ∀ u ∈ cellsOf t, u.oneCell' = true := by
  intro u hu
  obtain ⟨l, hl, hu⟩ := List.mem_flatten.1 hu
  obtain ⟨r, _, rfl⟩ := List.mem_map.1 hl
  simp only [rowVals, List.mem_cons, List.not_mem_nil, or_false] at hu
  rcases hu with rfl | rfl | rfl | rfl | rfl <;> rfl

theorem cells5_of {w : World} {b o : Nat} {r : Row} (h : ∀ j u, (rowVals r)[j]? = some u → w.cell? ⟨b, o + j, none⟩ = some u) : Cells5 w b o r :=
  ⟨h 0 _ rfl, h 1 _ rfl, h 2 _ rfl, h 3 _ rfl, h 4 _ rfl⟩

theorem cells5_get {w : World} {b o : Nat} {r : Row} (h : Cells5 w b o r) : ∀ j u, (rowVals r)[j]? = some u → w.cell? ⟨b, o + j, none⟩ = some u := by
  obtain ⟨h0, h1, h2, h3, h4⟩ := h
  intro j u hu
  match j, hu with
  | 0, hu => rw [← hu]; exact h0
  | 1, hu => rw [← hu]; exact h1
  | 2, hu => rw [← hu]; exact h2
  | 3, hu => rw [← hu]; exact h3
  | 4, hu => rw [← hu]; exact h4
  | n + 5, hu => simp [rowVals] at hu

/-- A table of the call's own. -/
def OwnR (w : World) (base : Nat) (v : Value) (t : List Row) : Prop := w.ownsRow base 72 5 v t.length (cellsOf t)

theorem OwnR.alloc {w : World} {base : Nat} {v : Value} {t : List Row} (h : OwnR w base v t) (o : Obj) : OwnR (w.alloc o) base v t := World.ownsRow.alloc h o

theorem ownR_nil (w : World) (base : Nat) : OwnR w base (.slice none 0 0) [] := World.ownsRow_nil w base _ _

theorem ownR_made (w : World) : OwnR (w.alloc (.cells #[] 72)) w.heap.size (.slice (some ⟨w.heap.size, 0, none⟩) 0 0) [] := World.ownsRow_made w #[] 0 (Nat.le_refl _) (by decide) rfl

theorem OwnR.later {w w' : World} {base : Nat} {v : Value} {t : List Row} (h : OwnR w base v t) (hb : Below w.heap.size w w') : OwnR w' base v t := by
  refine ⟨h.1, ?_⟩
  rcases h.2 with h' | ⟨g, cap, cur, h1, h2, h3, h4⟩
  · exact .inl h'
  · exact .inr ⟨g, cap, cur, h1, h2, by rw [hb.block g (Array.getElem?_eq_some_iff.1 h3).1]; exact h3, h4⟩

theorem OwnR.tab {w : World} {base : Nat} {v : Value} {t : List Row} (h : OwnR w base v t) : Tab w v t := by
  rcases h with ⟨_, ⟨rfl, h0⟩ | ⟨g, cap, cur, rfl, hb, hg, hn, hc, hsz, htk⟩⟩
  · obtain rfl : t = [] := List.length_eq_zero_iff.1 h0
    exact tab_nil w
  · refine ⟨some ⟨g, 0, none⟩, cap, rfl, hn, hc, (fun e => by cases e), .inr ⟨g, 0, rfl, (Array.getElem?_eq_some_iff.1 hg).1, fun i hi => ?_⟩⟩
    refine cells5_of fun j u hu => ?_
    have hj : j < 5 := by have := (List.getElem?_eq_some_iff.1 hu).1; rwa [rowVals_len] at this
    rw [Nat.zero_add, cell_of_row w g (i * 5 + j) cur _ (0, 0) hg]
    have h1 : cur.toList[i * 5 + j]? = (cellsOf t)[i * 5 + j]? := by
      rw [← htk, List.getElem?_take, if_pos (by omega)]
    rw [← hu, ← cellsOf_at t i j hi hj, ← h1]
    simp

theorem Try.infoSeen : (Try.prog.info? 72).map (fun i => (i.zero, i.size, i.bytes)) = some (some (.agg #[.string ⟨#[]⟩, .int .i64 0, .int .i64 0, .int .i64 0, .string ⟨#[]⟩]), 5, 56) := by kernel_rfl

/-- 'out = append(out, src...)', out nil or a table of the call's own, src whatever. -/
theorem wpList_append_rows {w : World} {ops : Array Oper} {rest : List Oper} {o : Oper} {a : Act} {Q : Exit → Act → World → Prop}
    (hgd : o.guard = none) (s x : Operand) (ho : o.op = .call { callee := .builtin .append, args := #[s, x], argTypes := #[25, 25] })
    (base : Nat) (v : Value) (t : List Row) (hs : a.eval s = v) (hown : OwnR w base v t)
    (ao : Option Addr) (m c : Nat) (ms : List Row) (hx : a.eval x = .slice ao m c) (hm : m = ms.length) (hnone : ao = none → c = 0 ∧ ms = [])
    (hsome : ∀ ad, ao = some ad → ∀ j u, (cellsOf ms)[j]? = some u → w.cell? (ad.add j) = some u)
    (hlen : t.length + ms.length < 4294967296) (hbase : base ≤ w.heap.size)
    (h : ∀ v' w', OwnR w' base v' (t ++ ms) → Below base w w' → wpList Try.prog ops Q rest (a.put o.dst v') w') :
    wpList Try.prog ops Q (o :: rest) a w := by
  obtain ⟨i, hi, hz, hsize, hby⟩ := info_parts Try.infoSeen
  cases ao with
  | none =>
    obtain ⟨rfl, rfl⟩ := hnone rfl
    simp only [List.length_nil] at hm
    subst hm
    exact wpList_append_own_none hgd s x 25 ho base 72 i 5 Try.underlying25 hi v t.length (cellsOf t) hs hown hx (h v w (by simpa using hown) (Below.refl _ _))
  | some ad =>
    subst hm
    refine wpList_append_own _ hgd s x 25 ho base 72 i _ 5 56 Try.underlying25 hi hz hsize hby rfl (by decide) v t.length (cellsOf t) hs hown ad ms.length c (cellsOf ms) hx (cellsOf_len ms) (hsome ad rfl) (cellsOf_single ms)
      (by unfold maxLen; omega) (by omega) hbase ?_
    intro v' w' hown' hgrow _
    refine h v' w' ?_ ((Below.refl base w).grown hgrow hbase (fun k hk => (World.ownsRow.lt hown k hk).1))
    unfold OwnR
    rw [cellsOf_append, List.length_append]
    exact hown'

/-- A new block of one row. -/
theorem new_row {w : World} {r : Row} {e : TypeId} {B : Nat} (hB : B = w.heap.size) : ∀ ad, some (⟨B, 0, none⟩ : Addr) = some ad → ∀ j u, (cellsOf [r])[j]? = some u → (w.alloc (.cells #[.string ⟨r.c.toArray⟩, .int .i64 r.v.sh, .int .i64 r.v.pr, .int .i64 r.v.si, .string ⟨r.v.st.toArray⟩] e)).cell? (ad.add j) = some u := by
  intro ad had j u hu
  subst hB
  obtain rfl := Option.some.inj had
  rw [cellsOf_one] at hu
  rw [Addr.add_lit, Nat.zero_add, World.cell?_alloc_at _ _ _ _ rfl, ← hu]
  simp [rowVals]

end Go.Proofs.Ythlkfbiclhgdoaa

end

section

/-
  THE CONTRACT OF digest.Take.
-/
namespace Go.Proofs.Ythlkfbiclhgdoaa
open Go.RowKit

/-- What Take leaves. -/
def Took (r : List Row × Nat × Nat) (w : World) (e : Ending) (w' : World) : Prop :=
  ∃ v, e = .returned (.tuple #[v, .int .i64 r.2.1, .int .i64 r.2.2]) ∧ Tab w' v r.1 ∧ Below w.heap.size w w'

end Go.Proofs.Ythlkfbiclhgdoaa

end

section

/-
  THE CONTRACT OF THE DOCUMENT'S Take (of a table).
-/
namespace Go.Proofs.Ythlkfbiclhgdoaa
open Go.RowKit

end Go.Proofs.Ythlkfbiclhgdoaa

end

section

/-
  THE CONTRACTS OF digest.Get AND OF THE DOCUMENT'S ANSWER TO IT.
-/
namespace Go.Proofs.Ythlkfbiclhgdoaa
open Go.RowKit

/-- Two results: value, whether it is there. -/
def pairG (r : Val × Bool) : Value := .tuple #[valV r.1, .bool r.2]

end Go.Proofs.Ythlkfbiclhgdoaa

end

section

/-
  ROWS OF TEXTS IN MEMORY, over any program: what they hold, and what append makes of them.
-/
namespace Go.Proofs.Ythlkfbiclhgdoaa
open Go.RowKit

theorem cell_after {w w' : World} {a : Addr} {v : Value} (h : w.cell? a = some v) (hb : Below w.heap.size w w') : w'.cell? a = some v :=
  (hb.cell (World.block_lt_of_cell? w a h)).trans h

/-- A text as a cell's value. -/
def encS (l : List UInt8) : Value := .string ⟨l.toArray⟩

/-- Which list of texts a slice holds. -/
def Texts (w : World) (v : Value) (ls : List (List UInt8)) : Prop :=
  ∃ a cap, v = .slice a ls.length cap ∧ ls.length ≤ cap ∧ cap ≤ maxLen ∧ (a = none → cap = 0) ∧
    (ls = [] ∨ ∃ b off, a = some ⟨b, off, none⟩ ∧ b < w.heap.size ∧ ∀ i, i < ls.length → w.cell? ⟨b, off + i, none⟩ = some (encS (ls.getD i [])))

theorem Texts.later {w w' : World} {v : Value} {ls : List (List UInt8)} (h : Texts w v ls) (hb : Below w.heap.size w w') : Texts w' v ls := by
  obtain ⟨a, cap, h1, h2, h3, h4, h5⟩ := h
  refine ⟨a, cap, h1, h2, h3, h4, ?_⟩
  rcases h5 with h5 | ⟨b, off, e, hlt, hc⟩
  · exact .inl h5
  · exact .inr ⟨b, off, e, Nat.lt_of_lt_of_le hlt hb.size, fun i hi => (hb.cell (p := ⟨b, off + i, none⟩) hlt).trans (hc i hi)⟩

theorem texts_nil (w : World) : Texts w (.slice none 0 0) [] := ⟨none, 0, rfl, by simp, by simp, fun _ => rfl, .inl rfl⟩

theorem encS_one (ls : List (List UInt8)) : ∀ u ∈ ls.map encS, u.oneCell' = true := by
  intro u hu
  obtain ⟨l, _, rfl⟩ := List.mem_map.1 hu
  rfl

/-- A row of the call's own. -/
theorem texts_of_own {w : World} {base e : Nat} {v : Value} {ls : List (List UInt8)} (h : w.ownsRow base e 1 v ls.length (ls.map encS)) : Texts w v ls := by
  rcases h with ⟨_, ⟨rfl, h0⟩ | ⟨g, cap, cur, rfl, hb, hg, hn, hc, hsz, htk⟩⟩
  · obtain rfl : ls = [] := List.length_eq_zero_iff.1 h0
    exact texts_nil w
  · refine ⟨some ⟨g, 0, none⟩, cap, rfl, hn, hc, (fun e => by cases e), ?_⟩
    refine .inr ⟨g, 0, rfl, (Array.getElem?_eq_some_iff.1 hg).1, fun i hi => ?_⟩
    rw [Nat.zero_add, cell_of_row w g i cur e (0, 0) hg]
    have h1 : cur.toList[i]? = (ls.map encS)[i]? := by
      rw [← htk, List.getElem?_take, if_pos (by omega)]
    have h2 : (ls.map encS)[i]? = some (encS (ls.getD i [])) := by
      simp [List.getD, List.getElem?_eq_getElem hi]
    rw [← h2, ← h1]
    simp

/-- A row of texts of the call's own. -/
def OwnT (w : World) (base e : Nat) (v : Value) (ls : List (List UInt8)) : Prop := w.ownsRow base e 1 v ls.length (ls.map encS)

theorem OwnT.alloc {w : World} {base e : Nat} {v : Value} {ls : List (List UInt8)} (h : OwnT w base e v ls) (o : Obj) : OwnT (w.alloc o) base e v ls := World.ownsRow.alloc h o
theorem OwnT.texts {w : World} {base e : Nat} {v : Value} {ls : List (List UInt8)} (h : OwnT w base e v ls) : Texts w v ls := texts_of_own h
/-- 'out = append(out, src...)', out nil or a row of the call's own, src whatever (its address any term). -/
theorem wpList_append_texts {P : Program} {w : World} {ops : Array Oper} {rest : List Oper} {o : Oper} {a : Act} {Q : Exit → Act → World → Prop}
    (hgd : o.guard = none) (s x : Operand) (t : TypeId) (ho : o.op = .call { callee := .builtin .append, args := #[s, x], argTypes := #[t, t] })
    (base : Nat) (e : TypeId) (i : TypeInfo) (z : Value) (bytes : Nat) (ht : P.underlying t = some (.slice e)) (hi : P.info? e = some i) (hz : i.zero = some z)
    (hsize : i.size = 1) (hby : i.bytes = bytes) (hzs : z.cells.size = 1)
    (v : Value) (ls : List (List UInt8)) (hs : a.eval s = v) (hown : OwnT w base e v ls)
    (ao : Option Addr) (m c : Nat) (ms : List (List UInt8)) (hx : a.eval x = .slice ao m c) (hm : m = ms.length) (hnone : ao = none → c = 0 ∧ ms = [])
    (hsome : ∀ ad, ao = some ad → ∀ j u, (ms.map encS)[j]? = some u → w.cell? (ad.add j) = some u)
    (hlen : ls.length + ms.length < 4294967296) (hb : bytes ≤ 4096) (hbase : base ≤ w.heap.size)
    (h : ∀ v' w', OwnT w' base e v' (ls ++ ms) → Below base w w' → wpList P ops Q rest (a.put o.dst v') w') :
    wpList P ops Q (o :: rest) a w := by
  cases ao with
  | none =>
    obtain ⟨rfl, rfl⟩ := hnone rfl
    simp only [List.length_nil] at hm
    subst hm
    exact wpList_append_own_none hgd s x t ho base e i 1 ht hi v ls.length (ls.map encS) hs hown hx (h v w (by simpa using hown) (Below.refl _ _))
  | some ad =>
    subst hm
    refine wpList_append_own _ hgd s x t ho base e i z 1 bytes ht hi hz hsize hby hzs (by decide) v ls.length (ls.map encS) hs hown ad ms.length c (ms.map encS) hx (by simp) (hsome ad rfl) (encS_one ms)
      (by unfold maxLen; omega) (Nat.le_trans (Nat.mul_le_mul (show ls.length + ms.length ≤ 4294967296 by omega) hb) (by decide)) hbase ?_
    intro v' w' hown' hgrow _
    refine h v' w' ?_ ((Below.refl base w).grown hgrow hbase (fun k hk => (World.ownsRow.lt hown k hk).1))
    unfold OwnT
    rw [List.map_append, List.length_append]
    exact hown'

end Go.Proofs.Ythlkfbiclhgdoaa

end

section

/-
  THE CONTRACTS OF THE DOCUMENT'S Few AND Same.
-/
namespace Go.Proofs.Ythlkfbiclhgdoaa
open Go.RowKit

def fewB (ls : List (List UInt8)) : Bool := decide (ls.length ≤ 30) && ls.all fun t => decide (t.length ≤ 30)

theorem getD_some {ls : List (List UInt8)} {k : Nat} (h : k < ls.length) : ls[k]? = some (ls.getD k []) := by simp [List.getD, List.getElem?_eq_getElem h]

end Go.Proofs.Ythlkfbiclhgdoaa

end

section

/-
  THE CONTRACTS OF THE DOCUMENT'S put AND Merge.
-/
namespace Go.Proofs.Ythlkfbiclhgdoaa
open Go.RowKit

theorem Try.infoStr : (Try.prog.info? 9).map (fun i => (i.zero, i.size, i.bytes)) = some (some (.string ⟨#[]⟩), 1, 16) := by kernel_rfl

/-- What Merge hands to put: nil, or a row that is not empty. -/
def Heaped (w : World) (v : Value) (ls : List (List UInt8)) : Prop := Texts w v ls ∧ (ls = [] → v = .slice none 0 0)

end Go.Proofs.Ythlkfbiclhgdoaa

end

section

/-
  THE CONTRACT OF THE DOCUMENT'S Merge.
-/
namespace Go.Proofs.Ythlkfbiclhgdoaa
open Go.RowKit

theorem Heaped.later {w w' : World} {v : Value} {ls : List (List UInt8)} (h : Heaped w v ls) (hb : Below w.heap.size w w') : Heaped w' v ls := ⟨h.1.later hb, h.2⟩

/-- A cell of a row, in a later world. -/
theorem Texts.cell {w wr : World} {a : Option Addr} {n cap : Nat} {ls : List (List UInt8)} (h : Texts w (.slice a n cap) ls) (hb : Below w.heap.size w wr) (k : Nat) (hk : k < ls.length) :
    ∃ b off, a = some ⟨b, off, none⟩ ∧ wr.cell? ⟨b, off + k, none⟩ = some (.string ⟨(ls.getD k []).toArray⟩) := by
  obtain ⟨a', cap', e, _, _, _, h⟩ := h.later hb
  simp only [Value.slice.injEq] at e
  rcases h with h | ⟨b, off, e', _, hc⟩
  · rw [h] at hk; simp at hk
  · exact ⟨b, off, e.1.trans e', hc k hk⟩

end Go.Proofs.Ythlkfbiclhgdoaa

end
