/-
  THE PROOF OF IndexLast: for every input the law returns true, and each argument reads behind the call as it read before. No condition.
-/
import Derived.Test.YtlckphdmflofgaaA04
import Derived.Test.YtlckphdmflofgaaRows
import Derived.ProofKit
import Derived.OpenShut
import Derived.ShutString
import Derived.ChangeOld
import Derived.SliceStrings
import Derived.Lib.SmallJoins

section
/-
  INDEXLAST: its walk.
-/
namespace Go.Proofs.Ytlckphdmflofgaa
open Go.RowKit Go.ChangeMaps Go.MapKept

theorem set_ans (L : List Pr) (p : Pr) (on : Bool) : ∃ L2, ixSet L p on = (L2, ixHas L p != on) ∧ ∀ r, ixHas L2 r = if r = p then on else ixHas L r := by
  unfold ixSet
  by_cases h : ixHas L p = on
  · rw [if_pos h]
    refine ⟨L, by rw [h]; simp, fun r => ?_⟩
    by_cases e : r = p
    · rw [if_pos e, e, h]
    · rw [if_neg e]
  · rw [if_neg h]
    refine ⟨_, by rw [show (ixHas L p != on) = true by simpa using h], fun r => ?_⟩
    unfold ixHas
    cases on with
    | true =>
      rw [if_pos rfl]
      by_cases e : r = p
      · simp [e]
      · simp [e]
    | false =>
      rw [if_neg (by decide)]
      by_cases e : r = p
      · simp [e]
      · simp [e]

theorem forget_has (L : List Pr) (u a b : List UInt8) : ixHas (ixForget L u) (a, b) = (ixHas L (a, b) && decide (a ≠ u) && decide (b ≠ u)) := by
  unfold ixHas ixForget ixFree
  rw [Bool.eq_iff_iff]
  simp only [Bool.and_eq_true, decide_eq_true_eq, List.mem_filter]
  exact ⟨fun h => ⟨⟨h.1, h.2.1⟩, h.2.2⟩, fun h => ⟨h.1.1, h.1.2, h.2⟩⟩

/-- What holds between two calls. -/
def IxLastAt (w0 w : World) (base xb k : Nat) (p : Pr) (q : Bool) : Prop := ∃ L F, IxB w base xb (12 * k) L F ∧ L.length ≤ k ∧ Below base w0 w ∧ ixHas L p = q

set_option maxHeartbeats 12800000 in
set_option maxRecDepth 100000 in
theorem walkIndexLast {w : World} {va : Value} {l : List IOp} (h : IOps w va l) (a : List UInt8) (_ha : a.length ≤ maxLen) (b : List UInt8) (_hb : b.length ≤ maxLen) :
    Calls Try.prog 5 #[va, .string ⟨a.toArray⟩, .string ⟨b.toArray⟩] w fun e w' => e = .returned (.bool true) ∧ Below w.heap.size w w' := by
  have HL := Lib.hid (fun w => live13 w)
  have HF := Lib.hid (ifew_any h)
  obtain ⟨ax, cap, rfl, hcap⟩ := h.open'
  have HV := Lib.hid h
  clear h
  go_enter Try.func5, Try.ntmps5
  go_wp2_with fail
  refine HF.out.mono ?_
  rintro e w0 ⟨rfl, rfl⟩
  cases hfew : fewI l with
  | false =>
    go_wp2_with fail
    refine (HL.out _).mono ?_
    rintro e w2 ⟨rfl, hb⟩
    go_wp2_with fail
    go_ret
    exact ⟨rfl, hb⟩
  | true =>
    by_cases h1 : 40 < a.length
    · have s1 : (40 : Int) < (a.length : Int) := by omega
      have s2 : decide ((40 : Int) < (a.length : Int)) = true := decide_eq_true s1
      go_wp2_with fail
      refine (HL.out _).mono ?_
      rintro e w2 ⟨rfl, hb⟩
      go_wp2_with fail
      go_ret
      exact ⟨rfl, hb⟩
    have s1 : ¬ (40 : Int) < (a.length : Int) := by omega
    have s2 : decide ((40 : Int) < (a.length : Int)) = false := decide_eq_false s1
    by_cases h2 : 40 < b.length
    · have s3 : (40 : Int) < (b.length : Int) := by omega
      have s4 : decide ((40 : Int) < (b.length : Int)) = true := decide_eq_true s3
      go_wp2_with fail
      refine (HL.out _).mono ?_
      rintro e w2 ⟨rfl, hb⟩
      go_wp2_with fail
      go_ret
      exact ⟨rfl, hb⟩
    have s3 : ¬ (40 : Int) < (b.length : Int) := by omega
    have s4 : decide ((40 : Int) < (b.length : Int)) = false := decide_eq_false s3
    obtain ⟨hl80, hshort⟩ := fewI_yes hfew
    have HSH := Lib.hid hshort
    clear hshort hfew HF
    go_wp2_with fail
    refine (ixb_new w).mono ?_
    rintro e w1 ⟨xb, F1, rfl, hx, hb⟩
    have H0 : Hid (IxLastAt w w1 w.heap.size xb 0 (a, b) false) := ⟨[], F1, hx, Nat.le_refl _, hb, rfl⟩
    clear hx hb
    go_wp2_with fail
    go_loopw [8, 9] (fun t s wr => ∃ k : Nat, ∃ q : Bool, k ≤ l.length ∧ s = .int .i64 k ∧ t = .bool q ∧ Hid (IxLastAt w wr w.heap.size xb k (a, b) q)) (fun _ s _ => l.length - (intOf s).toNat)
    case atStart => exact ⟨0, false, by omega, rfl, rfl, H0⟩
    case round =>
      obtain ⟨k, q, hk, rfl, rfl, HH⟩ := hrel
      by_cases hlt : k < l.length
      · obtain ⟨bb, off, rfl, hbw, d, u, c, hy, hcell⟩ := HV.out.at hlt
        have hsh := HSH.out k hlt
        rw [hy] at hsh
        obtain ⟨hu, hc⟩ := hsh
        simp only at hu hc
        obtain ⟨L, F1, X1, hLk, B1, hp⟩ := HH.out
        have HP := Lib.hid hp
        obtain ⟨x0, x1, x2⟩ := hcell wr B1
        have b1 := bl_newZ wr (.cells #[.int .i64 d, .string ⟨u.toArray⟩, .string ⟨c.toArray⟩] 32)
        have hx1 := (MapKept.heap_alloc wr (.cells #[.int .i64 d, .string ⟨u.toArray⟩, .string ⟨c.toArray⟩] 32)).1
        have hof := Lib.hid (show ¬ F1 wr.heap.size from fun hf => Nat.lt_irrefl _ (X1.lt hf))
        have HX := Lib.hid (X1.later b1)
        have HB : Hid (Below w.heap.size w (wr.alloc (.cells #[.int .i64 d, .string ⟨u.toArray⟩, .string ⟨c.toArray⟩] 32))) := Lib.hid (B1.trans (b1.mono B1.size))
        clear hy HH B1 hp b1 X1
        go_upto_region 11 with fail
        clear x0 x1 x2 hcell
        generalize wr.alloc (.cells #[.int .i64 d, .string ⟨u.toArray⟩, .string ⟨c.toArray⟩] 32) = w1 at hx1 HX HB ⊢
        generalize wr.heap.size = ob at hx1 hof ⊢
        have y1 : w1.cell? ⟨ob, 1, none⟩ = some (.string ⟨u.toArray⟩) := by simp [World.cell?, hx1]
        have y2 : w1.cell? ⟨ob, 2, none⟩ = some (.string ⟨c.toArray⟩) := by simp [World.cell?, hx1]
        obtain ⟨qh, hq⟩ : ∃ q, ixHas L (u, c) = q := ⟨_, rfl⟩
        have HQ := Lib.hid hq
        clear hq
        go_wp2_with fail
        refine (ixb_has HX.out u c (by omega) (by omega) HQ.out).mono ?_
        rintro e w2 ⟨rfl, b2⟩
        have hx2 := (b2.block ob (Array.getElem?_eq_some_iff.1 hx1).1).trans hx1
        replace HX := Lib.hid (HX.out.later b2)
        replace HB := Lib.hid (HB.out.trans (b2.mono HB.out.size))
        clear b2 hx1 y1 y2
        have z0 : w2.cell? ⟨ob, 0, none⟩ = some (.int .i64 d) := by simp [World.cell?, hx2]
        have z1 : w2.cell? ⟨ob, 1, none⟩ = some (.string ⟨u.toArray⟩) := by simp [World.cell?, hx2]
        have z2 : w2.cell? ⟨ob, 2, none⟩ = some (.string ⟨c.toArray⟩) := by simp [World.cell?, hx2]
        have hol := Lib.hid (Array.getElem?_eq_some_iff.1 hx2).1
        clear hx2
        go_wp2_with fail
        refine (ixb_len HX.out).mono ?_
        rintro e w9 ⟨rfl, rfl⟩
        by_cases e0 : d = 0
        · subst e0
          obtain ⟨L2, hs2, hhas⟩ := set_ans L (u, c) true
          have HS2 := Lib.hid hs2
          have hL2 := ixSet_len hs2
          have HHA := Lib.hid hhas
          clear hs2 hhas
          rw [HQ.out] at HS2
          have HXD := Lib.hid (HX.out.stay (w' := w2.drew) (fun _ _ => rfl))
          have HBD : Hid (Below w.heap.size w w2.drew) := Lib.hid HB.out.drew
          have k0 : w2.drew.cell? ⟨ob, 0, none⟩ = some (.int .i64 0) ∧ w2.drew.cell? ⟨ob, 1, none⟩ = some (.string ⟨u.toArray⟩) ∧ w2.drew.cell? ⟨ob, 2, none⟩ = some (.string ⟨c.toArray⟩) := ⟨z0, z1, z2⟩
          cases qh
          rotate_left
          · have HS3 : Hid (ixSet L (u, c) true = (L2, false)) := HS2
            go_wp2_with fail
            go_region_held (fun X => X.cell? ⟨ob, 0, none⟩ = some (.int .i64 0) ∧ X.cell? ⟨ob, 1, none⟩ = some (.string ⟨u.toArray⟩) ∧ X.cell? ⟨ob, 2, none⟩ = some (.string ⟨c.toArray⟩)) ((first | exact k0 | exact k1)) ((go_at_call 12; refine (ixb_set HXD.out (by omega) u c (by omega) (by omega) (by omega) true HS3.out).mono ?_; rintro e w3 ⟨F3, rfl, X3, B3, T3⟩; have ho := T3.2.1 ob hol.out hof.out; have k1 : w3.cell? ⟨ob, 0, none⟩ = some (.int .i64 0) ∧ w3.cell? ⟨ob, 1, none⟩ = some (.string ⟨u.toArray⟩) ∧ w3.cell? ⟨ob, 2, none⟩ = some (.string ⟨c.toArray⟩) := ⟨(World.cell?_of_block (a := ⟨ob, 0, none⟩) ho).trans z0, (World.cell?_of_block (a := ⟨ob, 1, none⟩) ho).trans z1, (World.cell?_of_block (a := ⟨ob, 2, none⟩) ho).trans z2⟩))
            have X4 := Lib.hid X3
            have B5 := Lib.hid (HBD.out.trans B3)
            obtain ⟨y0, y1, y2⟩ := k1
            clear X3 B3 T3 ho k0 HXD HBD HX HB HS2 HS3 z0 z1 z2
            by_cases ea : u = a
            · have s1 : (u == a) = true := by simpa using ea
              by_cases eb : c = b
              · have s2 : (c == b) = true := by simpa using eb
                have hz := Lib.hid (show ixHas L2 (a, b) = true from by rw [HHA.out, if_pos (by rw [ea, eb])])
                clear ea eb
                have HE : Hid (IxLastAt w w3 w.heap.size xb (k + 1) (a, b) true) := ⟨L2, _, (show 12 * (k + 1) = 12 * k + 12 by omega) ▸ X4.out, by omega, B5.out, hz.out⟩
                clear X4 B5
                go_wp2_with fail
                go_roundw
                case rel => exact ⟨k + 1, true, by omega, by go_num, rfl, HE⟩
                case measure => simp [intOf]; omega
              · have s2 : (c == b) = false := by simpa using eb
                have hz := Lib.hid (show ixHas L2 (a, b) = q from by rw [HHA.out, if_neg (fun e => eb (Prod.mk.inj e).2.symm), HP.out])
                clear ea eb
                have HE : Hid (IxLastAt w w3 w.heap.size xb (k + 1) (a, b) q) := ⟨L2, _, (show 12 * (k + 1) = 12 * k + 12 by omega) ▸ X4.out, by omega, B5.out, hz.out⟩
                clear X4 B5
                go_wp2_with fail
                go_roundw
                case rel => exact ⟨k + 1, q, by omega, by go_num, rfl, HE⟩
                case measure => simp [intOf]; omega
            · have s1 : (u == a) = false := by simpa using ea
              have hz := Lib.hid (show ixHas L2 (a, b) = q from by rw [HHA.out, if_neg (fun e => ea (Prod.mk.inj e).1.symm), HP.out])
              clear ea
              have HE : Hid (IxLastAt w w3 w.heap.size xb (k + 1) (a, b) q) := ⟨L2, _, (show 12 * (k + 1) = 12 * k + 12 by omega) ▸ X4.out, by omega, B5.out, hz.out⟩
              clear X4 B5
              go_wp2_with fail
              go_roundw
              case rel => exact ⟨k + 1, q, by omega, by go_num, rfl, HE⟩
              case measure => simp [intOf]; omega
          · have HS3 : Hid (ixSet L (u, c) true = (L2, true)) := HS2
            go_wp2_with fail
            go_region_held (fun X => X.cell? ⟨ob, 0, none⟩ = some (.int .i64 0) ∧ X.cell? ⟨ob, 1, none⟩ = some (.string ⟨u.toArray⟩) ∧ X.cell? ⟨ob, 2, none⟩ = some (.string ⟨c.toArray⟩)) ((first | exact k0 | exact k1)) ((go_at_call 12; refine (ixb_set HXD.out (by omega) u c (by omega) (by omega) (by omega) true HS3.out).mono ?_; rintro e w3 ⟨F3, rfl, X3, B3, T3⟩; have ho := T3.2.1 ob hol.out hof.out; have k1 : w3.cell? ⟨ob, 0, none⟩ = some (.int .i64 0) ∧ w3.cell? ⟨ob, 1, none⟩ = some (.string ⟨u.toArray⟩) ∧ w3.cell? ⟨ob, 2, none⟩ = some (.string ⟨c.toArray⟩) := ⟨(World.cell?_of_block (a := ⟨ob, 0, none⟩) ho).trans z0, (World.cell?_of_block (a := ⟨ob, 1, none⟩) ho).trans z1, (World.cell?_of_block (a := ⟨ob, 2, none⟩) ho).trans z2⟩))
            have X4 := Lib.hid X3
            have B5 := Lib.hid (HBD.out.trans B3)
            obtain ⟨y0, y1, y2⟩ := k1
            clear X3 B3 T3 ho k0 HXD HBD HX HB HS2 HS3 z0 z1 z2
            by_cases ea : u = a
            · have s1 : (u == a) = true := by simpa using ea
              by_cases eb : c = b
              · have s2 : (c == b) = true := by simpa using eb
                have hz := Lib.hid (show ixHas L2 (a, b) = true from by rw [HHA.out, if_pos (by rw [ea, eb])])
                clear ea eb
                have HE : Hid (IxLastAt w w3 w.heap.size xb (k + 1) (a, b) true) := ⟨L2, _, (show 12 * (k + 1) = 12 * k + 12 by omega) ▸ X4.out, by omega, B5.out, hz.out⟩
                clear X4 B5
                go_wp2_with fail
                go_roundw
                case rel => exact ⟨k + 1, true, by omega, by go_num, rfl, HE⟩
                case measure => simp [intOf]; omega
              · have s2 : (c == b) = false := by simpa using eb
                have hz := Lib.hid (show ixHas L2 (a, b) = q from by rw [HHA.out, if_neg (fun e => eb (Prod.mk.inj e).2.symm), HP.out])
                clear ea eb
                have HE : Hid (IxLastAt w w3 w.heap.size xb (k + 1) (a, b) q) := ⟨L2, _, (show 12 * (k + 1) = 12 * k + 12 by omega) ▸ X4.out, by omega, B5.out, hz.out⟩
                clear X4 B5
                go_wp2_with fail
                go_roundw
                case rel => exact ⟨k + 1, q, by omega, by go_num, rfl, HE⟩
                case measure => simp [intOf]; omega
            · have s1 : (u == a) = false := by simpa using ea
              have hz := Lib.hid (show ixHas L2 (a, b) = q from by rw [HHA.out, if_neg (fun e => ea (Prod.mk.inj e).1.symm), HP.out])
              clear ea
              have HE : Hid (IxLastAt w w3 w.heap.size xb (k + 1) (a, b) q) := ⟨L2, _, (show 12 * (k + 1) = 12 * k + 12 by omega) ▸ X4.out, by omega, B5.out, hz.out⟩
              clear X4 B5
              go_wp2_with fail
              go_roundw
              case rel => exact ⟨k + 1, q, by omega, by go_num, rfl, HE⟩
              case measure => simp [intOf]; omega
        · have g0 : (d == 0) = false := by simpa using e0
          by_cases e1 : d = 1
          · subst e1
            obtain ⟨L2, hs2, hhas⟩ := set_ans L (u, c) false
            have HS2 := Lib.hid hs2
            have hL2 := ixSet_len hs2
            have HHA := Lib.hid hhas
            clear hs2 hhas
            rw [HQ.out] at HS2
            have HXD := Lib.hid (HX.out.stay (w' := w2.drew) (fun _ _ => rfl))
            have HBD : Hid (Below w.heap.size w w2.drew) := Lib.hid HB.out.drew
            have k0 : w2.drew.cell? ⟨ob, 0, none⟩ = some (.int .i64 1) ∧ w2.drew.cell? ⟨ob, 1, none⟩ = some (.string ⟨u.toArray⟩) ∧ w2.drew.cell? ⟨ob, 2, none⟩ = some (.string ⟨c.toArray⟩) := ⟨z0, z1, z2⟩
            cases qh
            rotate_left
            · have HS3 : Hid (ixSet L (u, c) false = (L2, true)) := HS2
              go_wp2_with fail
              go_region_held (fun X => X.cell? ⟨ob, 0, none⟩ = some (.int .i64 1) ∧ X.cell? ⟨ob, 1, none⟩ = some (.string ⟨u.toArray⟩) ∧ X.cell? ⟨ob, 2, none⟩ = some (.string ⟨c.toArray⟩)) ((first | exact k0 | exact k1)) ((go_at_call 12; refine (ixb_set HXD.out (by omega) u c (by omega) (by omega) (by omega) false HS3.out).mono ?_; rintro e w3 ⟨F3, rfl, X3, B3, T3⟩; have ho := T3.2.1 ob hol.out hof.out; have k1 : w3.cell? ⟨ob, 0, none⟩ = some (.int .i64 1) ∧ w3.cell? ⟨ob, 1, none⟩ = some (.string ⟨u.toArray⟩) ∧ w3.cell? ⟨ob, 2, none⟩ = some (.string ⟨c.toArray⟩) := ⟨(World.cell?_of_block (a := ⟨ob, 0, none⟩) ho).trans z0, (World.cell?_of_block (a := ⟨ob, 1, none⟩) ho).trans z1, (World.cell?_of_block (a := ⟨ob, 2, none⟩) ho).trans z2⟩))
              have X4 := Lib.hid X3
              have B5 := Lib.hid (HBD.out.trans B3)
              obtain ⟨y0, y1, y2⟩ := k1
              clear X3 B3 T3 ho k0 HXD HBD HX HB HS2 HS3 z0 z1 z2
              by_cases ea : u = a
              · have s1 : (u == a) = true := by simpa using ea
                by_cases eb : c = b
                · have s2 : (c == b) = true := by simpa using eb
                  have hz := Lib.hid (show ixHas L2 (a, b) = false from by rw [HHA.out, if_pos (by rw [ea, eb])])
                  clear ea eb
                  have HE : Hid (IxLastAt w w3 w.heap.size xb (k + 1) (a, b) false) := ⟨L2, _, (show 12 * (k + 1) = 12 * k + 12 by omega) ▸ X4.out, by omega, B5.out, hz.out⟩
                  clear X4 B5
                  go_wp2_with fail
                  go_roundw
                  case rel => exact ⟨k + 1, false, by omega, by go_num, rfl, HE⟩
                  case measure => simp [intOf]; omega
                · have s2 : (c == b) = false := by simpa using eb
                  have hz := Lib.hid (show ixHas L2 (a, b) = q from by rw [HHA.out, if_neg (fun e => eb (Prod.mk.inj e).2.symm), HP.out])
                  clear ea eb
                  have HE : Hid (IxLastAt w w3 w.heap.size xb (k + 1) (a, b) q) := ⟨L2, _, (show 12 * (k + 1) = 12 * k + 12 by omega) ▸ X4.out, by omega, B5.out, hz.out⟩
                  clear X4 B5
                  go_wp2_with fail
                  go_roundw
                  case rel => exact ⟨k + 1, q, by omega, by go_num, rfl, HE⟩
                  case measure => simp [intOf]; omega
              · have s1 : (u == a) = false := by simpa using ea
                have hz := Lib.hid (show ixHas L2 (a, b) = q from by rw [HHA.out, if_neg (fun e => ea (Prod.mk.inj e).1.symm), HP.out])
                clear ea
                have HE : Hid (IxLastAt w w3 w.heap.size xb (k + 1) (a, b) q) := ⟨L2, _, (show 12 * (k + 1) = 12 * k + 12 by omega) ▸ X4.out, by omega, B5.out, hz.out⟩
                clear X4 B5
                go_wp2_with fail
                go_roundw
                case rel => exact ⟨k + 1, q, by omega, by go_num, rfl, HE⟩
                case measure => simp [intOf]; omega
            · have HS3 : Hid (ixSet L (u, c) false = (L2, false)) := HS2
              go_wp2_with fail
              go_region_held (fun X => X.cell? ⟨ob, 0, none⟩ = some (.int .i64 1) ∧ X.cell? ⟨ob, 1, none⟩ = some (.string ⟨u.toArray⟩) ∧ X.cell? ⟨ob, 2, none⟩ = some (.string ⟨c.toArray⟩)) ((first | exact k0 | exact k1)) ((go_at_call 12; refine (ixb_set HXD.out (by omega) u c (by omega) (by omega) (by omega) false HS3.out).mono ?_; rintro e w3 ⟨F3, rfl, X3, B3, T3⟩; have ho := T3.2.1 ob hol.out hof.out; have k1 : w3.cell? ⟨ob, 0, none⟩ = some (.int .i64 1) ∧ w3.cell? ⟨ob, 1, none⟩ = some (.string ⟨u.toArray⟩) ∧ w3.cell? ⟨ob, 2, none⟩ = some (.string ⟨c.toArray⟩) := ⟨(World.cell?_of_block (a := ⟨ob, 0, none⟩) ho).trans z0, (World.cell?_of_block (a := ⟨ob, 1, none⟩) ho).trans z1, (World.cell?_of_block (a := ⟨ob, 2, none⟩) ho).trans z2⟩))
              have X4 := Lib.hid X3
              have B5 := Lib.hid (HBD.out.trans B3)
              obtain ⟨y0, y1, y2⟩ := k1
              clear X3 B3 T3 ho k0 HXD HBD HX HB HS2 HS3 z0 z1 z2
              by_cases ea : u = a
              · have s1 : (u == a) = true := by simpa using ea
                by_cases eb : c = b
                · have s2 : (c == b) = true := by simpa using eb
                  have hz := Lib.hid (show ixHas L2 (a, b) = false from by rw [HHA.out, if_pos (by rw [ea, eb])])
                  clear ea eb
                  have HE : Hid (IxLastAt w w3 w.heap.size xb (k + 1) (a, b) false) := ⟨L2, _, (show 12 * (k + 1) = 12 * k + 12 by omega) ▸ X4.out, by omega, B5.out, hz.out⟩
                  clear X4 B5
                  go_wp2_with fail
                  go_roundw
                  case rel => exact ⟨k + 1, false, by omega, by go_num, rfl, HE⟩
                  case measure => simp [intOf]; omega
                · have s2 : (c == b) = false := by simpa using eb
                  have hz := Lib.hid (show ixHas L2 (a, b) = q from by rw [HHA.out, if_neg (fun e => eb (Prod.mk.inj e).2.symm), HP.out])
                  clear ea eb
                  have HE : Hid (IxLastAt w w3 w.heap.size xb (k + 1) (a, b) q) := ⟨L2, _, (show 12 * (k + 1) = 12 * k + 12 by omega) ▸ X4.out, by omega, B5.out, hz.out⟩
                  clear X4 B5
                  go_wp2_with fail
                  go_roundw
                  case rel => exact ⟨k + 1, q, by omega, by go_num, rfl, HE⟩
                  case measure => simp [intOf]; omega
              · have s1 : (u == a) = false := by simpa using ea
                have hz := Lib.hid (show ixHas L2 (a, b) = q from by rw [HHA.out, if_neg (fun e => ea (Prod.mk.inj e).1.symm), HP.out])
                clear ea
                have HE : Hid (IxLastAt w w3 w.heap.size xb (k + 1) (a, b) q) := ⟨L2, _, (show 12 * (k + 1) = 12 * k + 12 by omega) ▸ X4.out, by omega, B5.out, hz.out⟩
                clear X4 B5
                go_wp2_with fail
                go_roundw
                case rel => exact ⟨k + 1, q, by omega, by go_num, rfl, HE⟩
                case measure => simp [intOf]; omega
          · have g1 : (d == 1) = false := by simpa using e1
            by_cases e3 : d = 3
            · subst e3
              go_wp2_with fail
              refine (ixb_forget HX.out (by omega) u (by omega) (by omega)).mono ?_
              rintro e w3 ⟨F3, rfl, X3, B3, T3⟩
              have ho := T3.2.1 ob hol.out hof.out
              have y1 : w3.cell? ⟨ob, 1, none⟩ = some (.string ⟨u.toArray⟩) := (World.cell?_of_block (a := ⟨ob, 1, none⟩) ho).trans z1
              have hfl : (ixForget L u).length ≤ L.length := List.length_filter_le _ _
              have HFH := Lib.hid (forget_has L u a b)
              have B5 := Lib.hid (HB.out.trans B3)
              clear B3 T3 ho HX HB z0 z1 z2
              generalize ixForget L u = L2 at X3 hfl HFH ⊢
              have hw : IntKind.i64.wrap ((L.length : Int) - (L2.length : Int)) = (L.length : Int) - L2.length := IntWalk.i64_in _ (by omega)
              have X5 := Lib.hid X3
              clear X3
              go_wp2_with fail
              refine (ixb_len X5.out).mono ?_
              rintro e w9 ⟨rfl, rfl⟩
              have X4 := Lib.hid (X5.out.more (show 12 * k ≤ 12 * k + 12 by omega))
              clear X5
              cases q with
              | false =>
                have hz := Lib.hid (show ixHas L2 (a, b) = false from by rw [HFH.out, HP.out]; rfl)
                have HE : Hid (IxLastAt w w3 w.heap.size xb (k + 1) (a, b) false) := ⟨L2, _, (show 12 * (k + 1) = 12 * k + 12 by omega) ▸ X4.out, by omega, B5.out, hz.out⟩
                clear X4 B5
                go_wp2_with fail
                go_roundw
                case rel => exact ⟨k + 1, false, by omega, by go_num, rfl, HE⟩
                case measure => simp [intOf]; omega
              | true =>
                by_cases ea : u = a
                · have s1 : (u == a) = true := by simpa using ea
                  have hz := Lib.hid (show ixHas L2 (a, b) = false from by rw [HFH.out, HP.out, ea]; simp)
                  clear ea
                  have HE : Hid (IxLastAt w w3 w.heap.size xb (k + 1) (a, b) false) := ⟨L2, _, (show 12 * (k + 1) = 12 * k + 12 by omega) ▸ X4.out, by omega, B5.out, hz.out⟩
                  clear X4 B5
                  go_wp2_with fail
                  go_roundw
                  case rel => exact ⟨k + 1, false, by omega, by go_num, rfl, HE⟩
                  case measure => simp [intOf]; omega
                · have s1 : (u == a) = false := by simpa using ea
                  by_cases eb : u = b
                  · have s2 : (u == b) = true := by simpa using eb
                    have hz := Lib.hid (show ixHas L2 (a, b) = false from by rw [HFH.out, HP.out, eb]; simp)
                    clear ea eb
                    have HE : Hid (IxLastAt w w3 w.heap.size xb (k + 1) (a, b) false) := ⟨L2, _, (show 12 * (k + 1) = 12 * k + 12 by omega) ▸ X4.out, by omega, B5.out, hz.out⟩
                    clear X4 B5
                    go_wp2_with fail
                    go_roundw
                    case rel => exact ⟨k + 1, false, by omega, by go_num, rfl, HE⟩
                    case measure => simp [intOf]; omega
                  · have s2 : (u == b) = false := by simpa using eb
                    have hz := Lib.hid (show ixHas L2 (a, b) = true from by have e1 : a ≠ u := fun e => ea e.symm; have e2 : b ≠ u := fun e => eb e.symm; rw [HFH.out, HP.out]; simp [e1, e2])
                    clear ea eb
                    have HE : Hid (IxLastAt w w3 w.heap.size xb (k + 1) (a, b) true) := ⟨L2, _, (show 12 * (k + 1) = 12 * k + 12 by omega) ▸ X4.out, by omega, B5.out, hz.out⟩
                    clear X4 B5
                    go_wp2_with fail
                    go_roundw
                    case rel => exact ⟨k + 1, true, by omega, by go_num, rfl, HE⟩
                    case measure => simp [intOf]; omega
            · have g3 : (d == 3) = false := by simpa using e3
              have X4 := Lib.hid (HX.out.more (show 12 * k ≤ 12 * k + 12 by omega))
              have B5 := HB
              clear HX HB
              have HE : Hid (IxLastAt w w2 w.heap.size xb (k + 1) (a, b) q) := ⟨L, _, (show 12 * (k + 1) = 12 * k + 12 by omega) ▸ X4.out, by omega, B5.out, HP.out⟩
              clear X4 B5
              go_wp2_with fail
              go_roundw
              case rel => exact ⟨k + 1, q, by omega, by go_num, rfl, HE⟩
              case measure => simp [intOf]; omega

      · obtain rfl : k = l.length := by omega
        obtain ⟨L, F1, X1, hLk, B1, hp⟩ := HH.out
        have HB9 := Lib.hid B1
        have HX := Lib.hid X1
        have HP := Lib.hid hp
        clear X1 B1 hp
        go_wp2_with fail
        refine (ixb_has HX.out a b (by omega) (by omega) HP.out).mono ?_
        rintro e w2 ⟨rfl, b2⟩
        replace HB9 := Lib.hid (HB9.out.trans (b2.mono HB9.out.size))
        have tq : (q == q) = true := by simp
        clear b2
        go_wp2_with fail
        refine (HL.out _).mono ?_
        rintro e w3 ⟨rfl, hb⟩
        go_wp2_with fail
        go_ret
        exact ⟨rfl, HB9.out.trans (hb.mono HB9.out.size)⟩

end Go.Proofs.Ytlckphdmflofgaa
end

section
/-
  THE FRAME OF THE PROOF OF IndexLast: for every input the law returns true, and each argument reads behind the call as it read before. No condition.
-/
namespace Go.Proofs.Ytlckphdmflofgaa.indexLast
open Go.ChangeShapes Go.WideShapes Go.ChangeAt Go.RowKit
open Go.ChangeMaps (open_string shut_string)
set_option linter.unusedVariables false

theorem own : ownKnob Try.prog.godebug = none := by kernel_rfl
theorem laidOut : laidOutB Try.prog = true := by kernel_rfl

set_option maxRecDepth 100000 in
theorem lifted (os : Os) (started : os.Started) (H : Type) (enc : TypeId × Value → H) :
    ReturnsInHanded {} Try.checked os 5 .any (Rows.indexLastSpec.pre6 enc Try.prog Try.f5 Rows.indexLastRow.domain false) (Rows.indexLastSpec.post enc Try.prog Try.f5 false true false false) := by
  refine returnsInHanded_of_change (C := Try.checked) own started (by kernel_rfl) Try.func5
    (ChangeSpec.witness6 (enc := enc) (C := Try.checked) false ⟨#[], #[.slice none 0 0, .string ByteArray.empty, .string ByteArray.empty], []⟩ 8 (by kernel_rfl) (by kernel_rfl) (by kernel_rfl) (by kernel_rfl)) ?_
  intro W base args ds gs before hval0 hW hcnd _
  have hval : ∀ (j : Nat) t v, Try.f5.params[j]? = some t → args[j]? = some v → Value.okWide Try.prog W .any base t v := hval0
  have hW' := hW
  obtain ⟨p, q, hA0, hV, rfl, hfz, hnd⟩ := hW
  have hA : DataW.TrodAll enc Try.prog W 0 (fun _ => true) true Try.f5.params.toList args.toList ds p := hA0
  rw [Try.params5] at hA hval
  obtain ⟨v0, vs0, d0, ds0, p0, q0, hargs, rfl, rfl, h0, r0⟩ := trodAll_cons hA
  obtain ⟨v1, vs1, d1, ds1, p1, q1, rfl, rfl, rfl, h1, r1⟩ := trodAll_cons r0
  obtain ⟨v2, vs2, d2, ds2, p2, q2, rfl, rfl, rfl, h2, r2⟩ := trodAll_cons r1
  obtain ⟨rfl, rfl, rfl⟩ := trodAll_nil r2
  obtain rfl : args = #[v0, v1, v2] := by cases args; simp_all
  obtain ⟨rfl, rfl⟩ := trodVars_none hV
  have k0 := h0
  have lt0 : ∀ x ∈ p0, x.block < W.heap.size := by obtain ⟨m, hm⟩ := k0; exact DataW.trod_lt m _ _ _ hm
  obtain ⟨l0, w0⟩ := open_iops (hval 0 22 v0 rfl rfl) h0
  have k1 := h1
  have lt1 : ∀ x ∈ p1, x.block < W.heap.size := by obtain ⟨m, hm⟩ := k1; exact DataW.trod_lt m _ _ _ hm
  obtain ⟨s1, rfl, hd1, hp1, w1⟩ := open_string Try.underlying9 (hval 1 9 v1 rfl rfl) h1
  obtain ⟨a1, e1⟩ : ∃ l : List UInt8, s1 = ⟨l.toArray⟩ := ⟨s1.data.toList, by cases s1; simp⟩
  subst e1
  have w1 : a1.length ≤ maxLen := by rw [← size_bytes]; exact w1
  have k2 := h2
  have lt2 : ∀ x ∈ p2, x.block < W.heap.size := by obtain ⟨m, hm⟩ := k2; exact DataW.trod_lt m _ _ _ hm
  obtain ⟨s2, rfl, hd2, hp2, w2⟩ := open_string Try.underlying9 (hval 2 9 v2 rfl rfl) h2
  obtain ⟨a2, e2⟩ : ∃ l : List UInt8, s2 = ⟨l.toArray⟩ := ⟨s2.data.toList, by cases s2; simp⟩
  subst e2
  have w2 : a2.length ≤ maxLen := by rw [← size_bytes]; exact w2
  clear hA0 hval0
  refine (walkIndexLast (w := W) w0 a1 w1 a2 w2).mono fun e W' ⟨he, bel⟩ => ?_
  subst he
  exact ⟨_, rfl, _, _, _, [], _, [], hW', trodAll_mk1 (shut_bool Try.underlying4 _), (trodAll_cons_mk (Below.trod laidOut (by kernel_rfl) (of_decide_eq_true (by kernel_rfl)) k0 bel lt0) (trodAll_cons_mk (Below.trod laidOut (by kernel_rfl) (of_decide_eq_true (by kernel_rfl)) k1 bel lt1) (trodAll_cons_mk (Below.trod laidOut (by kernel_rfl) (of_decide_eq_true (by kernel_rfl)) k2 bel lt2) trodAll_mk0))), rfl, bel.frame _, fun h => by cases h⟩

theorem over : Rows.indexLastRow.holds Try.pinned (OpenSpec.ofChange Rows.indexLastSpec) :=
  OpenClaim.holds_of_wide 5 Try.f5 rfl rfl rfl rfl rfl rfl rfl ⟨rfl, rfl, rfl, rfl, rfl⟩ rfl rfl rfl rfl rfl (by kernel_rfl) Try.func5 (by kernel_rfl)
    (of_decide_eq_true (by kernel_rfl)) (by unfold Func.isWrapper; first | (rw [if_pos (by decide +kernel)]; kernel_rfl) | (rw [if_neg (by decide +kernel)]; exact ⟨rfl, rfl⟩))
    (fun os started H enc _ => lifted os started H enc)

/-- THE STATEMENT. -/
theorem proved : Rows.IndexLastSaid := over
#print axioms proved
end Go.Proofs.Ytlckphdmflofgaa.indexLast
end
