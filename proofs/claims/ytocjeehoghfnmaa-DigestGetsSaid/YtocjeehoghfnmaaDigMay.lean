/-
  THE CONTRACTS OF digest.May AND OF THE DOCUMENT'S ANSWER TO IT.
-/
import Derived.Test.YtocjeehoghfnmaaDigRow
import Derived.Test.YtocjeehoghfnmaaIdRef
import Derived.Test.YtocjeehoghfnmaaValRtake
import Derived.Lib.QuietBelow
namespace Go.Proofs.Ytocjeehoghfnmaa
open Go.RowKit

/-- A row in a block of its own. -/
def Box5 (w : World) (b : Nat) (r : Row) : Prop :=
  w.cell? ⟨b, 0, none⟩ = some (.string ⟨r.c.toArray⟩) ∧ w.cell? ⟨b, 1, none⟩ = some (.int .i64 r.v.sh) ∧ w.cell? ⟨b, 2, none⟩ = some (.int .i64 r.v.pr) ∧
    w.cell? ⟨b, 3, none⟩ = some (.int .i64 r.v.si) ∧ w.cell? ⟨b, 4, none⟩ = some (.string ⟨r.v.st.toArray⟩)

theorem Box5.later {w w' : World} {b : Nat} {r : Row} (h : Box5 w b r) (hb : Below w.heap.size w w') : Box5 w' b r := by
  obtain ⟨h0, h1, h2, h3, h4⟩ := h
  exact ⟨cell_later h0 hb, cell_later h1 hb, cell_later h2 hb, cell_later h3 hb, cell_later h4 hb⟩

theorem Box5.lt {w : World} {b : Nat} {r : Row} (h : Box5 w b r) : b < w.heap.size := World.block_lt_of_cell? w _ h.1

theorem box5 {wr w1 : World} {c st : List UInt8} {x y z : Int} {ty : TypeId} (hb : Below (wr.alloc (.cells #[.string ⟨c.toArray⟩, .int .i64 x, .int .i64 y, .int .i64 z, .string ⟨st.toArray⟩] ty)).heap.size (wr.alloc (.cells #[.string ⟨c.toArray⟩, .int .i64 x, .int .i64 y, .int .i64 z, .string ⟨st.toArray⟩] ty)) w1) :
    Box5 w1 wr.heap.size ⟨c, x, y, z, st⟩ ∧ Below wr.heap.size wr w1 :=
  ⟨⟨cell_later (a := ⟨wr.heap.size, 0, none⟩) (by simp) hb, cell_later (a := ⟨wr.heap.size, 1, none⟩) (by simp) hb, cell_later (a := ⟨wr.heap.size, 2, none⟩) (by simp) hb,
    cell_later (a := ⟨wr.heap.size, 3, none⟩) (by simp) hb, cell_later (a := ⟨wr.heap.size, 4, none⟩) (by simp) hb⟩, below2' ((Below.refl _ _).alloc (Nat.le_refl _) _) hb⟩

theorem regrown_belowD {w w' : World} (h : ∃ p : Regrown, w' = Sort.grow (redrawn w p.d) p.os) : Below w.heap.size w w' := by
  obtain ⟨p, rfl⟩ := h
  exact below_regrown _ _ _

theorem diMay_on {t : List Row} (h1 : ¬ 32 < t.length) (h2 : (List.range t.length).all (rowAt t) = true) : diMay t = true := by
  unfold diMay
  rw [h2]
  simp
  omega

theorem diMay_off {t : List Row} {k : Nat} (hk : k < t.length) (h : rowAt t k = false) : diMay t = false := by
  unfold diMay
  rw [range_all_no hk h]
  simp

theorem rowAt_is {t : List Row} {k : Nat} {c st : List UInt8} {x y z : Int} (h : t.getD k Row.zero = ⟨c, x, y, z, st⟩) (hi : idIs c = false) : rowAt t k = false := by
  unfold rowAt rowOk
  rw [h]
  simp [hi]

theorem rowAt_may {t : List Row} {k : Nat} {c st : List UInt8} {x y z : Int} (h : t.getD k Row.zero = ⟨c, x, y, z, st⟩) (hm : vaMay ⟨x, y, z, st⟩ = false) : rowAt t k = false := by
  unfold rowAt rowOk
  rw [h]
  simp [hm]

theorem rowAt_first {t : List Row} {c st : List UInt8} {x y z : Int} (h : t.getD 0 Row.zero = ⟨c, x, y, z, st⟩) (hi : idIs c = true) (hm : vaMay ⟨x, y, z, st⟩ = true) : rowAt t 0 = true := by
  unfold rowAt rowOk
  rw [h]
  simp [hi, hm]

theorem rowAt_next {t : List Row} {j : Nat} {c st : List UInt8} {x y z : Int} (h : t.getD (j + 1) Row.zero = ⟨c, x, y, z, st⟩) (hi : idIs c = true) (hm : vaMay ⟨x, y, z, st⟩ = true) : rowAt t (j + 1) = idLess (t.getD j Row.zero).c c := by
  unfold rowAt rowOk
  rw [h]
  simp [hi, hm]

set_option maxHeartbeats 1600000 in
set_option maxRecDepth 100000 in
theorem dimay_any {w : World} {v : Value} {t : List Row} (hv : Tab w v t) (hs : Short t) :
    Calls Try.prog 19 #[v] w fun e w' => e = .returned (.bool (diMay t)) ∧ Below w.heap.size w w' := by
  have HV := Lib.hid hv
  have HS := Lib.hid hs
  obtain ⟨a, cap, rfl, hm⟩ := hv.open'
  clear hv hs
  by_cases h : 32 < t.length
  · have HR := Lib.hid (diMay_long h)
    go_enter Try.func19, Try.ntmps19
    go_wp2_with fail
    go_ret
    exact ⟨by rw [HR.out]; rfl, Below.refl _ _⟩
  · go_enter Try.func19, Try.ntmps19
    go_wp2_with fail
    go_loopw [10] (fun i wr => ∃ k : Nat, k ≤ t.length ∧ i = .int .i64 k ∧ Hid (Below w.heap.size w wr) ∧ Hid ((List.range k).all (rowAt t) = true)) (fun i _ => t.length - (intOf i).toNat)
    case atStart => exact ⟨0, by omega, rfl, Below.refl _ _, by show _ = _; simp⟩
    case round =>
      obtain ⟨k, hk, rfl, HN, HA⟩ := hrel
      by_cases hlt : k < t.length
      · obtain ⟨b, off, rfl, h0, h1, h2, h3, h4⟩ := HV.out.row HN.out k hlt
        obtain ⟨hl1, hl2⟩ := HS.out.get hlt
        obtain ⟨⟨c, ⟨x, y, z, st⟩⟩, hr⟩ : ∃ r, t.getD k Row.zero = r := ⟨_, rfl⟩
        rw [hr] at h0 h1 h2 h3 h4 hl1 hl2
        have HRr := Lib.hid hr
        simp only at h0 h1 h2 h3 h4 hl1 hl2
        clear hr
        cases hi : idIs c with
        | false =>
          have HR : Hid (diMay t = false) := diMay_off hlt (rowAt_is HRr.out hi)
          have HI := Lib.hid hi
          clear hi
          go_wp2_with fail
          refine (is_eq c hl1 HI _).mono ?_
          rintro e w1 ⟨rfl, hb1⟩
          have B1 := Lib.hid (below2' HN.out (box5 hb1).2)
          clear hb1
          go_wp2_with fail
          go_ret
          exact ⟨by rw [HR.out]; rfl, B1.out⟩
        | true =>
          have HI := Lib.hid hi
          clear hi
          go_wp2_with fail
          refine (is_eq c hl1 HI _).mono ?_
          rintro e w1 ⟨rfl, hb1⟩
          have B1 := Lib.hid (below2' HN.out (box5 hb1).2)
          have K1 := Lib.hid (box5 hb1).1
          obtain ⟨k0, k1, k2, k3, k4⟩ := K1.out
          clear hb1 h0 h1 h2 h3 h4
          cases hm2 : vaMay ⟨x, y, z, st⟩ with
          | false =>
            have HR : Hid (diMay t = false) := diMay_off hlt (rowAt_may HRr.out hm2)
            have HM := Lib.hid hm2
            clear hm2
            go_wp2_with fail
            refine (may_eq x y z st hl2 HM _).mono ?_
            rintro e w2 ⟨rfl, hb2⟩
            have B2 := Lib.hid (below2' B1.out hb2)
            clear hb2 k0 k1 k2 k3 k4
            go_wp2_with fail
            go_ret
            exact ⟨by rw [HR.out]; rfl, B2.out⟩
          | true =>
            have HM := Lib.hid hm2
            clear hm2
            go_wp2_with fail
            refine (may_eq x y z st hl2 HM _).mono ?_
            rintro e w2 ⟨rfl, hb2⟩
            have B2 := Lib.hid (below2' B1.out hb2)
            have K2 := Lib.hid (K1.out.later hb2)
            clear hb2 k0 k1 k2 k3 k4 B1 K1
            rcases Nat.eq_zero_or_pos k with rfl | hpos
            · have HA2 : Hid ((List.range 1).all (rowAt t) = true) := by show _ = _; exact range_all_succ HA.out (rowAt_first HRr.out HI.out HM.out)
              go_wp2_with fail
              refine wp_region_quiet_below (by kernel_rfl) (by kernel_rfl) ?_
              repeat (go_big_quiet_step (fail))
              refine wpQuiet_nil ?_
              intro w5 hw5
              have hb5 := regrown_belowD hw5
              have HN5 := Lib.hid (below2' B2.out hb5)
              clear hw5 hb5
              go_wp2_with fail
              go_roundw
              case rel => exact ⟨1, by omega, by go_num, HN5, HA2⟩
              case measure => simp [intOf]; omega
            · obtain ⟨j, rfl⟩ : ∃ j, k = j + 1 := ⟨k - 1, by omega⟩
              obtain ⟨b2, o2, e2, i0, _, _, _, _⟩ := HV.out.row B2.out j (by omega)
              injection e2 with e2
              injection e2 with e3 e4 _
              subst e3 e4
              have HX := rowAt_next HRr.out HI.out HM.out
              obtain ⟨yy, hy⟩ : ∃ yy, (t.getD j Row.zero).c = yy := ⟨_, rfl⟩
              rw [hy] at i0 HX
              clear hy
              have g1 := cell_regrown i0
              have g2 := cell_regrown K2.out.1
              cases hle : idLess yy c with
              | false =>
                have HR : Hid (diMay t = false) := diMay_off hlt (HX.trans hle)
                have HLe := Lib.hid (less_eq yy c (r := false) (Lib.hid hle))
                clear hle HX i0 hpos
                go_wp2_with fail
                refine wp_region_quiet_below (by kernel_rfl) (by kernel_rfl) ?_
                repeat (go_big_quiet_step (with_reducible exact rgB HLe.out _ _ _))
                refine wpQuiet_nil ?_
                intro w5 hw5
                have hb5 := regrown_belowD hw5
                have HN5 := Lib.hid (below2' B2.out hb5)
                clear hw5 hb5 g1 g2
                go_wp2_with fail
                go_ret
                exact ⟨by rw [HR.out]; rfl, HN5.out⟩
              | true =>
                have HA2 : Hid ((List.range (j + 1 + 1)).all (rowAt t) = true) := by show _ = _; exact range_all_succ HA.out (HX.trans hle)
                have HLe := Lib.hid (less_eq yy c (r := true) (Lib.hid hle))
                clear hle HX i0 hpos
                go_wp2_with fail
                refine wp_region_quiet_below (by kernel_rfl) (by kernel_rfl) ?_
                repeat (go_big_quiet_step (with_reducible exact rgB HLe.out _ _ _))
                refine wpQuiet_nil ?_
                intro w5 hw5
                have hb5 := regrown_belowD hw5
                have HN5 := Lib.hid (below2' B2.out hb5)
                clear hw5 hb5 g1 g2
                go_wp2_with fail
                go_roundw
                case rel => exact ⟨j + 1 + 1, by omega, by go_num, HN5, HA2⟩
                case measure => simp [intOf]; omega
      · obtain rfl : k = t.length := by omega
        have HR : Hid (diMay t = true) := by show _ = _; exact diMay_on h HA.out
        go_wp2_with fail
        go_ret
        exact ⟨by rw [HR.out]; rfl, HN.out⟩

theorem dimay_eq {w : World} {v : Value} {t : List Row} (hv : Tab w v t) (hs : Short t) {r : Bool} (h : Hid (diMay t = r)) :
    Calls Try.prog 19 #[v] w fun e w' => e = .returned (.bool r) ∧ Below w.heap.size w w' := by
  have := dimay_any hv hs
  rwa [h.out] at this

end Go.Proofs.Ytocjeehoghfnmaa
