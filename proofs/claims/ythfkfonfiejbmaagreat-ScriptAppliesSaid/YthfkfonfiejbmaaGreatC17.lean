/-
  TEXTS OF THE PROOF, one behind the other: RosMayD, SesKey, SesFind.
-/
import Derived.Test.YthfkfonfiejbmaaGreatC16
import Derived.Test.YthfkfonfiejbmaaGreatC08
import Derived.Test.YthfkfonfiejbmaaGreatC01
import Derived.Test.YthfkfonfiejbmaaGreatC02
import Derived.Test.YthfkfonfiejbmaaGreatC09

section

/-
  LAYER 8, THE DOCUMENT's: May.
-/
namespace Go.Proofs.YthfkfonfiejbmaaGreat
open Go.RowKit

theorem ownT_slice {w : World} {base e : Nat} {v : Value} {ls : List (List UInt8)} (h : OwnT w base e v ls) : ∃ a cap, v = .slice a ls.length cap := by
  rcases h with ⟨_, ⟨rfl, h0⟩ | ⟨g, cp, cur, rfl, -⟩⟩
  · exact ⟨none, 0, by rw [h0]⟩
  · exact ⟨_, _, rfl⟩

theorem roMayD_off {l : List Ent} {k : Nat} (hk : k < l.length) (h : roDocAt l k = false) : roMayD l = false := by
  rw [Bool.eq_false_iff]
  intro h'
  unfold roMayD at h'
  rw [List.all_eq_true] at h'
  rw [h' k (by simpa using hk)] at h
  cases h

theorem roDoc_next {l : List Ent} {k : Nat} (h : (List.range k).all (roDocAt l) = true) (hk : roDocAt l k = true) : (List.range (k + 1)).all (roDocAt l) = true := by
  rw [List.range_succ, List.all_append, h]
  simp [hk]

/-- One entry's May, in letters. -/
theorem roDocAt_eq {l : List Ent} {k : Nat} {xo xc : List UInt8} {x1 x2 x3 x4 x5 : Bool} (hr : l.getD k Ent.zero = ⟨xo, xc, ⟨x1, x2, x3, x4, x5⟩⟩) {ri g h m z y : Bool} {i1 i2 i3 i4 i5 : Bool} (h1 : roRiseAt l k = ri) (h2 : decide (16 < (roOf l xo).length) = g) (h3 : roHas l xc xo = h) (hi : roGet l xc xo = ⟨i1, i2, i3, i4, i5⟩)
    (h4 : suMay ⟨x1, x2, x3, x4, x5⟩ ⟨i1, i2, i3, i4, i5⟩ = m) (h5 : suEmpty ⟨x1, x2, x3, x4, x5⟩ = z) (h6 : suEmpty ⟨i1, i2, i3, i4, i5⟩ = y) : roDocAt l k = (ri && (!g && (h && (m && !(z && y))))) := by
  unfold roDocAt
  rw [h1, hr]
  simp only
  have e1 : decide ((roOf l xo).length ≤ 16) = !g := by
    rw [← h2]
    by_cases hh : (roOf l xo).length ≤ 16
    · simp [hh, show ¬ 16 < (roOf l xo).length by omega]
    · simp [hh, show 16 < (roOf l xo).length by omega]
  rw [e1]
  congr 1
  congr 1
  unfold roPaired
  simp only
  have e2 : roIt l xc xo = ⟨i1, i2, i3, i4, i5⟩ := hi
  have e3 : (l.any fun x => entIs x ⟨xc, xo, It.zero⟩) = h := h3
  rw [e2, e3, h4, h5, h6]

theorem s7 {W : World} {B : Nat} {xo xc : List UInt8} {x1 x2 x3 x4 x5 : Bool} (h : Cells7 W B 0 ⟨xo, xc, ⟨x1, x2, x3, x4, x5⟩⟩) : ((W).cell? ⟨B, 0, none⟩ = some (.string ⟨xo.toArray⟩) ∧ (W).cell? ⟨B, 1, none⟩ = some (.string ⟨xc.toArray⟩) ∧ (W).cell? ⟨B, 2, none⟩ = some (.bool x1) ∧ (W).cell? ⟨B, 3, none⟩ = some (.bool x2) ∧ (W).cell? ⟨B, 4, none⟩ = some (.bool x3) ∧ (W).cell? ⟨B, 5, none⟩ = some (.bool x4) ∧ (W).cell? ⟨B, 6, none⟩ = some (.bool x5)) := by
  obtain ⟨c0, c1, c2, c3, c4, c5, c6⟩ := h
  exact ⟨c0, c1, c2, c3, c4, c5, c6⟩

theorem s14 {W : World} {B bk off j : Nat} {xo xc : List UInt8} {x1 x2 x3 x4 x5 : Bool} {po pc : List UInt8} {p1 p2 p3 p4 p5 : Bool} (h : Cells7 W B 0 ⟨xo, xc, ⟨x1, x2, x3, x4, x5⟩⟩) (g : Cells7 W bk (off + j * 7) ⟨po, pc, ⟨p1, p2, p3, p4, p5⟩⟩) : ((W).cell? ⟨B, 0, none⟩ = some (.string ⟨xo.toArray⟩) ∧ (W).cell? ⟨B, 1, none⟩ = some (.string ⟨xc.toArray⟩) ∧ (W).cell? ⟨B, 2, none⟩ = some (.bool x1) ∧ (W).cell? ⟨B, 3, none⟩ = some (.bool x2) ∧ (W).cell? ⟨B, 4, none⟩ = some (.bool x3) ∧ (W).cell? ⟨B, 5, none⟩ = some (.bool x4) ∧ (W).cell? ⟨B, 6, none⟩ = some (.bool x5) ∧ (W).cell? ⟨bk, off + j * 7, none⟩ = some (.string ⟨po.toArray⟩) ∧ (W).cell? ⟨bk, off + j * 7 + 1, none⟩ = some (.string ⟨pc.toArray⟩) ∧ (W).cell? ⟨bk, off + j * 7 + 2, none⟩ = some (.bool p1) ∧ (W).cell? ⟨bk, off + j * 7 + 3, none⟩ = some (.bool p2) ∧ (W).cell? ⟨bk, off + j * 7 + 4, none⟩ = some (.bool p3) ∧ (W).cell? ⟨bk, off + j * 7 + 5, none⟩ = some (.bool p4) ∧ (W).cell? ⟨bk, off + j * 7 + 6, none⟩ = some (.bool p5)) := by
  obtain ⟨c0, c1, c2, c3, c4, c5, c6⟩ := h
  obtain ⟨d0, d1, d2, d3, d4, d5, d6⟩ := g
  exact ⟨c0, c1, c2, c3, c4, c5, c6, d0, d1, d2, d3, d4, d5, d6⟩

set_option maxHeartbeats 3200000 in
set_option maxRecDepth 100000 in
theorem rmay8_any {w : World} {v : Value} {l : List Ent} (hv : Ents w v l) (hs : ShortE l) (hl : l.length ≤ 4294967) {r : Bool} (h : Hid (roMayD l = r)) :
    Calls Tryz.prog 15 #[v] w fun e w' => e = .returned (.bool r) ∧ Below w.heap.size w w' := by
  have HV := Lib.hid hv
  have HS := Lib.hid hs
  have HL := Lib.hid hl
  obtain ⟨a, cap, rfl, hm⟩ := hv.open'
  clear hv hs hl
  go_enter Tryz.func15, Tryz.ntmps15
  go_wp2_with fail
  go_loopw [3] (fun i wr => ∃ k : Nat, k ≤ l.length ∧ i = .int .i64 k ∧ Hid (Below w.heap.size w wr) ∧ Hid ((List.range k).all (roDocAt l) = true)) (fun i _ => l.length - (intOf i).toNat)
  case atStart => exact ⟨0, by omega, rfl, Below.refl _ _, by show _ = _; simp⟩
  case round =>
    obtain ⟨k, hk, rfl, HB, HA⟩ := hrel
    by_cases hlt : k < l.length
    · obtain ⟨bk, off, rfl, h0, h1, h2, h3, h4, h5, h6⟩ := HV.out.row HB.out k hlt
      obtain ⟨hl1, hl2⟩ := HS.out.get hlt
      obtain ⟨⟨xo, xc, ⟨x1, x2, x3, x4, x5⟩⟩, hr⟩ : ∃ r, l.getD k Ent.zero = r := ⟨_, rfl⟩
      rw [hr] at h0 h1 h2 h3 h4 h5 h6 hl1 hl2
      simp only at h0 h1 h2 h3 h4 h5 h6 hl1 hl2
      have bn := bl_newZ wr (.cells #[.string ⟨xo.toArray⟩, .string ⟨xc.toArray⟩, .bool x1, .bool x2, .bool x3, .bool x4, .bool x5] 68)
      have B1 := Lib.hid (below2S HB.out bn)
      have C1 := Lib.hid (cells7_made wr ⟨xo, xc, ⟨x1, x2, x3, x4, x5⟩⟩ 68)
      have V1 := Lib.hid (HV.out.later B1.out)
      have hnn : (0 : Int) ≤ (k : Int) := by omega
      have hli : (k : Int) < (l.length : Int) := by omega
      have t1 : decide ((k : Int) < (l.length : Int)) = true := by simpa using hli
      clear bn
      obtain ⟨q1, hq1⟩ : ∃ q, idIs xo = q := ⟨_, rfl⟩
      obtain ⟨q2, hq2⟩ : ∃ q, idIs xc = q := ⟨_, rfl⟩
      have hI1 : ∀ w, _ := ris_any xo hl1
      have hI2 : ∀ w, _ := ris_any xc hl2
      rw [hq1] at hI1
      rw [hq2] at hI2
      have I1 := Lib.hid hI1
      have I2 := Lib.hid hI2
      clear hI1 hI2 hl1 hl2
      cases q1 with
      | false =>
        have HR : roMayD l = false := roMayD_off hlt (by unfold roDocAt roRiseAt; rw [hr]; simp [hq1])
        rw [h.out] at HR
        subst HR
        clear hr hq1 hq2
        go_wp2_with fail
        obtain ⟨c0, c1, c2, c3, c4, c5, c6⟩ := cells7_regrown C1.out
        simp only [Nat.zero_add] at c0 c1 c2 c3 c4 c5 c6
        refine wp_region_quiet_below (by kernel_rfl) (by kernel_rfl) ?_
        repeat (go_big_quiet_step (first | with_reducible exact rgS I1.out _ _ _ | with_reducible exact rgS I2.out _ _ _))
        refine wpQuiet_nil ?_
        intro w5 hw5
        have B5 := Lib.hid (below2S B1.out (regrown_belowP hw5))
        clear hw5
        go_wp2_with fail
        go_ret
        exact ⟨rfl, B5.out⟩
      | true =>
        cases q2 with
        | false =>
          have HR : roMayD l = false := roMayD_off hlt (by unfold roDocAt roRiseAt; rw [hr]; simp [hq2])
          rw [h.out] at HR
          subst HR
          clear hr hq1 hq2
          go_wp2_with fail
          obtain ⟨c0, c1, c2, c3, c4, c5, c6⟩ := cells7_regrown C1.out
          simp only [Nat.zero_add] at c0 c1 c2 c3 c4 c5 c6
          refine wp_region_quiet_below (by kernel_rfl) (by kernel_rfl) ?_
          repeat (go_big_quiet_step (first | with_reducible exact rgS I1.out _ _ _ | with_reducible exact rgS I2.out _ _ _))
          refine wpQuiet_nil ?_
          intro w5 hw5
          have B5 := Lib.hid (below2S B1.out (regrown_belowP hw5))
          clear hw5
          go_wp2_with fail
          go_ret
          exact ⟨rfl, B5.out⟩
        | true =>
          by_cases hoc : xo = xc
          · have HR : roMayD l = false := roMayD_off hlt (by unfold roDocAt roRiseAt; rw [hr]; simp [hoc])
            rw [h.out] at HR
            subst HR
            clear hr hq1 hq2
            subst hoc
            go_wp2_with fail
            obtain ⟨c0, c1, c2, c3, c4, c5, c6⟩ := cells7_regrown C1.out
            simp only [Nat.zero_add] at c0 c1 c2 c3 c4 c5 c6
            refine wp_region_quiet_below (by kernel_rfl) (by kernel_rfl) ?_
            repeat (go_big_quiet_step (first | with_reducible exact rgS I1.out _ _ _ | with_reducible exact rgS I2.out _ _ _))
            refine wpQuiet_nil ?_
            intro w5 hw5
            have B5 := Lib.hid (below2S B1.out (regrown_belowP hw5))
            clear hw5
            go_wp2_with fail
            go_ret
            exact ⟨rfl, B5.out⟩
          · have toc : (xo == xc) = false := by rw [beq_eq_false_iff_ne]; exact hoc
            obtain ⟨g, hg⟩ : ∃ g, decide (16 < (roOf l xo).length) = g := ⟨_, rfl⟩
            obtain ⟨hh, hhas⟩ : ∃ g, roHas l xc xo = g := ⟨_, rfl⟩
            obtain ⟨⟨i1, i2, i3, i4, i5⟩, hget⟩ : ∃ g, roGet l xc xo = g := ⟨_, rfl⟩
            obtain ⟨m, hmm⟩ : ∃ g, suMay ⟨x1, x2, x3, x4, x5⟩ ⟨i1, i2, i3, i4, i5⟩ = g := ⟨_, rfl⟩
            obtain ⟨z, hz⟩ : ∃ g, suEmpty ⟨x1, x2, x3, x4, x5⟩ = g := ⟨_, rfl⟩
            obtain ⟨y, hy⟩ : ∃ g, suEmpty ⟨i1, i2, i3, i4, i5⟩ = g := ⟨_, rfl⟩
            have FG := Lib.hid hget
            have MM := Lib.hid (rsmay_bl x1 x2 x3 x4 x5 i1 i2 i3 i4 i5 hmm)
            have MZ := Lib.hid (rsempty_eq x1 x2 x3 x4 x5 hz)
            have MY := Lib.hid (rsempty_eq i1 i2 i3 i4 i5 hy)
            have FH := Lib.hid hhas
            have tg : decide ((16 : Int) < ((roOf l xo).length : Int)) = g := by rw [← hg]; congr 1; apply propext; omega

            rcases Nat.eq_zero_or_pos k with rfl | hpos
            · have HAt := Lib.hid (roDocAt_eq hr (ri := true) (by unfold roRiseAt; rw [hr]; simp [hq1, hq2, hoc]) hg hhas hget hmm hz hy)
              have t8 : decide ((0 : Int) < ((0 : Nat) : Int)) = false := by simp
              simp only [Nat.zero_mul, Nat.add_zero] at h0 h1 h2 h3 h4 h5 h6
              clear hr hq1 hq2 hoc hg hhas hget hmm hz hy
              go_wp2_with fail
              clear h0 h1 h2 h3 h4 h5 h6
              have CE := C1
              refine wp_region_held_drew (S := (fun W => ((W).cell? ⟨wr.heap.size, 0, none⟩ = some (.string ⟨xo.toArray⟩) ∧ (W).cell? ⟨wr.heap.size, 1, none⟩ = some (.string ⟨xc.toArray⟩) ∧ (W).cell? ⟨wr.heap.size, 2, none⟩ = some (.bool x1) ∧ (W).cell? ⟨wr.heap.size, 3, none⟩ = some (.bool x2) ∧ (W).cell? ⟨wr.heap.size, 4, none⟩ = some (.bool x3) ∧ (W).cell? ⟨wr.heap.size, 5, none⟩ = some (.bool x4) ∧ (W).cell? ⟨wr.heap.size, 6, none⟩ = some (.bool x5)))) (by kernel_rfl) ?_ (fun hHeld => ?_)
              · exact s7 (C1.out.later (Below.refl _ _).drew)
              refine wpAnyH_take (i := 0) (oi := { dst := some 16, op := Op.fieldAddr 68 (Operand.tmp 4) 0, type := 0, pos := "ref.go:50", after := #[], guard := none }) (v := ?_) rfl (by as_aux_lemma => kernel_rfl) (by as_aux_lemma => kernel_rfl) (by as_aux_lemma => kernel_rfl) (fun _ _ _ h => h) (Or.inl ⟨by rfl, ?_⟩) (by assumption) ?_
              rotate_left
              · intro w' hSw
                try dsimp only at hSw
                go_simp
                try with_reducible rfl
              try simp only [Act.put, List.setIfInBounds_toArray, List.set_cons_zero, List.set_cons_succ]
              refine wpAnyH_take (i := 1) (oi := { dst := some 17, op := Op.load 9 (Operand.tmp 16), type := 9, pos := "ref.go:50", after := #[{ on := 0, ground := Ground.data }], guard := none }) (v := ?_) rfl (by as_aux_lemma => kernel_rfl) (by as_aux_lemma => kernel_rfl) (by as_aux_lemma => kernel_rfl) (fun _ _ _ h => h) (Or.inl ⟨by rfl, ?_⟩) (by assumption) ?_
              rotate_left
              · intro w' hSw
                try dsimp only at hSw
                go_simp
                try with_reducible rfl
              try simp only [Act.put, List.setIfInBounds_toArray, List.set_cons_zero, List.set_cons_succ]
              refine wpAnyH_ready (rs := [2]) (by as_aux_lemma => kernel_rfl) (by simp) ?_
              refine AllReadyH.cons (o := { dst := some 18, op := Op.call { callee := Callee.value (Operand.func 33), args := #[Operand.tmp 17], argTypes := #[9] }, type := 4, pos := "ref.go:50", after := #[{ on := 1, ground := Ground.data }], guard := none }) rfl (fun Kx hK => ?_) AllReadyH.nil
              go_simp
              refine (I1.out _).mono ?_
              rintro e w21 ⟨rfl, rfl⟩
              go_wp2_with fail
              refine hK.out _ _ ?_ (fun hHeld2 => ?_)
              · exact hHeld
              clear hK Kx hHeld
              have hHeld := hHeld2
              clear hHeld2
              try simp only [Act.put, List.setIfInBounds_toArray, List.set_cons_zero, List.set_cons_succ]
              refine wpAnyH_take (i := 3) (oi := { dst := some 19, op := Op.unOp UnOp.not 4 (Operand.tmp 18), type := 4, pos := "ref.go:50", after := #[{ on := 2, ground := Ground.data }], guard := none }) (v := ?_) rfl (by as_aux_lemma => kernel_rfl) (by as_aux_lemma => kernel_rfl) (by as_aux_lemma => kernel_rfl) (fun _ _ _ h => h) (Or.inl ⟨by rfl, ?_⟩) (by assumption) ?_
              rotate_left
              · intro w' hSw
                try dsimp only at hSw
                go_simp
                try with_reducible rfl
              try simp only [Act.put, List.setIfInBounds_toArray, List.set_cons_zero, List.set_cons_succ]
              refine wpAnyH_take (i := 4) (oi := { dst := some 20, op := Op.move (Operand.tmp 19), type := 4, pos := "ref.go:50", after := #[{ on := 3, ground := Ground.data }, { on := 2, ground := Ground.chain }], guard := none }) (v := ?_) rfl (by as_aux_lemma => kernel_rfl) (by as_aux_lemma => kernel_rfl) (by as_aux_lemma => kernel_rfl) (fun _ _ _ h => h) (Or.inl ⟨by rfl, ?_⟩) (by assumption) ?_
              rotate_left
              · intro w' hSw
                try dsimp only at hSw
                go_simp
                try with_reducible rfl
              try simp only [Act.put, List.setIfInBounds_toArray, List.set_cons_zero, List.set_cons_succ]
              refine wpAnyH_take (i := 5) (oi := { dst := some 21, op := Op.fieldAddr 68 (Operand.tmp 4) 1, type := 0, pos := "ref.go:50", after := #[{ on := 4, ground := Ground.guard }], guard := some (4, false) }) (v := ?_) rfl (by as_aux_lemma => kernel_rfl) (by as_aux_lemma => kernel_rfl) (by as_aux_lemma => kernel_rfl) (fun _ _ _ h => h) (Or.inl ⟨by rfl, ?_⟩) (by assumption) ?_
              rotate_left
              · intro w' hSw
                try dsimp only at hSw
                go_simp
                try with_reducible rfl
              try simp only [Act.put, List.setIfInBounds_toArray, List.set_cons_zero, List.set_cons_succ]
              refine wpAnyH_take (i := 6) (oi := { dst := some 22, op := Op.load 9 (Operand.tmp 21), type := 9, pos := "ref.go:50", after := #[{ on := 5, ground := Ground.data }, { on := 4, ground := Ground.guard }], guard := some (4, false) }) (v := ?_) rfl (by as_aux_lemma => kernel_rfl) (by as_aux_lemma => kernel_rfl) (by as_aux_lemma => kernel_rfl) (fun _ _ _ h => h) (Or.inl ⟨by rfl, ?_⟩) (by assumption) ?_
              rotate_left
              · intro w' hSw
                try dsimp only at hSw
                go_simp
                try with_reducible rfl
              try simp only [Act.put, List.setIfInBounds_toArray, List.set_cons_zero, List.set_cons_succ]
              refine wpAnyH_ready (rs := [7]) (by as_aux_lemma => kernel_rfl) (by simp) ?_
              refine AllReadyH.cons (o := { dst := some 23, op := Op.call { callee := Callee.value (Operand.func 33), args := #[Operand.tmp 22], argTypes := #[9] }, type := 4, pos := "ref.go:50", after := #[{ on := 6, ground := Ground.data }, { on := 4, ground := Ground.chain }, { on := 4, ground := Ground.guard }], guard := some (4, false) }) rfl (fun Kx hK => ?_) AllReadyH.nil
              go_simp
              refine (I2.out _).mono ?_
              rintro e w22 ⟨rfl, rfl⟩
              go_wp2_with fail
              refine hK.out _ _ ?_ (fun hHeld2 => ?_)
              · exact hHeld
              clear hK Kx hHeld
              have hHeld := hHeld2
              clear hHeld2
              try simp only [Act.put, List.setIfInBounds_toArray, List.set_cons_zero, List.set_cons_succ]
              refine wpAnyH_take (i := 8) (oi := { dst := some 24, op := Op.unOp UnOp.not 4 (Operand.tmp 23), type := 4, pos := "ref.go:50", after := #[{ on := 7, ground := Ground.data }, { on := 4, ground := Ground.guard }], guard := some (4, false) }) (v := ?_) rfl (by as_aux_lemma => kernel_rfl) (by as_aux_lemma => kernel_rfl) (by as_aux_lemma => kernel_rfl) (fun _ _ _ h => h) (Or.inl ⟨by rfl, ?_⟩) (by assumption) ?_
              rotate_left
              · intro w' hSw
                try dsimp only at hSw
                go_simp
                try with_reducible rfl
              try simp only [Act.put, List.setIfInBounds_toArray, List.set_cons_zero, List.set_cons_succ]
              refine wpAnyH_take (i := 9) (oi := { dst := some 25, op := Op.pick (Operand.tmp 20) (Operand.const (Value.bool true)) (Operand.tmp 24), type := 4, pos := "ref.go:50", after := #[{ on := 4, ground := Ground.data }, { on := 8, ground := Ground.data }], guard := none }) (v := ?_) rfl (by as_aux_lemma => kernel_rfl) (by as_aux_lemma => kernel_rfl) (by as_aux_lemma => kernel_rfl) (fun _ _ _ h => h) (Or.inl ⟨by rfl, ?_⟩) (by assumption) ?_
              rotate_left
              · intro w' hSw
                try dsimp only at hSw
                go_simp
                try with_reducible rfl
              try simp only [Act.put, List.setIfInBounds_toArray, List.set_cons_zero, List.set_cons_succ]
              refine wpAnyH_take (i := 10) (oi := { dst := some 26, op := Op.move (Operand.tmp 25), type := 4, pos := "ref.go:50", after := #[{ on := 9, ground := Ground.data }, { on := 7, ground := Ground.chain }], guard := none }) (v := ?_) rfl (by as_aux_lemma => kernel_rfl) (by as_aux_lemma => kernel_rfl) (by as_aux_lemma => kernel_rfl) (fun _ _ _ h => h) (Or.inl ⟨by rfl, ?_⟩) (by assumption) ?_
              rotate_left
              · intro w' hSw
                try dsimp only at hSw
                go_simp
                try with_reducible rfl
              try simp only [Act.put, List.setIfInBounds_toArray, List.set_cons_zero, List.set_cons_succ]
              refine wpAnyH_take (i := 11) (oi := { dst := some 27, op := Op.fieldAddr 68 (Operand.tmp 4) 0, type := 0, pos := "ref.go:50", after := #[{ on := 10, ground := Ground.guard }], guard := some (10, false) }) (v := ?_) rfl (by as_aux_lemma => kernel_rfl) (by as_aux_lemma => kernel_rfl) (by as_aux_lemma => kernel_rfl) (fun _ _ _ h => h) (Or.inl ⟨by rfl, ?_⟩) (by assumption) ?_
              rotate_left
              · intro w' hSw
                try dsimp only at hSw
                go_simp
                try with_reducible rfl
              try simp only [Act.put, List.setIfInBounds_toArray, List.set_cons_zero, List.set_cons_succ]
              refine wpAnyH_take (i := 12) (oi := { dst := some 28, op := Op.load 9 (Operand.tmp 27), type := 9, pos := "ref.go:50", after := #[{ on := 11, ground := Ground.data }, { on := 10, ground := Ground.guard }], guard := some (10, false) }) (v := ?_) rfl (by as_aux_lemma => kernel_rfl) (by as_aux_lemma => kernel_rfl) (by as_aux_lemma => kernel_rfl) (fun _ _ _ h => h) (Or.inl ⟨by rfl, ?_⟩) (by assumption) ?_
              rotate_left
              · intro w' hSw
                try dsimp only at hSw
                go_simp
                try with_reducible rfl
              try simp only [Act.put, List.setIfInBounds_toArray, List.set_cons_zero, List.set_cons_succ]
              refine wpAnyH_take (i := 13) (oi := { dst := some 29, op := Op.fieldAddr 68 (Operand.tmp 4) 1, type := 0, pos := "ref.go:50", after := #[{ on := 10, ground := Ground.guard }], guard := some (10, false) }) (v := ?_) rfl (by as_aux_lemma => kernel_rfl) (by as_aux_lemma => kernel_rfl) (by as_aux_lemma => kernel_rfl) (fun _ _ _ h => h) (Or.inl ⟨by rfl, ?_⟩) (by assumption) ?_
              rotate_left
              · intro w' hSw
                try dsimp only at hSw
                go_simp
                try with_reducible rfl
              try simp only [Act.put, List.setIfInBounds_toArray, List.set_cons_zero, List.set_cons_succ]
              refine wpAnyH_take (i := 14) (oi := { dst := some 30, op := Op.load 9 (Operand.tmp 29), type := 9, pos := "ref.go:50", after := #[{ on := 13, ground := Ground.data }, { on := 10, ground := Ground.guard }], guard := some (10, false) }) (v := ?_) rfl (by as_aux_lemma => kernel_rfl) (by as_aux_lemma => kernel_rfl) (by as_aux_lemma => kernel_rfl) (fun _ _ _ h => h) (Or.inl ⟨by rfl, ?_⟩) (by assumption) ?_
              rotate_left
              · intro w' hSw
                try dsimp only at hSw
                go_simp
                try with_reducible rfl
              try simp only [Act.put, List.setIfInBounds_toArray, List.set_cons_zero, List.set_cons_succ]
              refine wpAnyH_take (i := 15) (oi := { dst := some 31, op := Op.binOp BinOp.eql 9 (Operand.tmp 28) (Operand.tmp 30) 9, type := 4, pos := "ref.go:50", after := #[{ on := 12, ground := Ground.data }, { on := 14, ground := Ground.data }, { on := 10, ground := Ground.guard }], guard := some (10, false) }) (v := ?_) rfl (by as_aux_lemma => kernel_rfl) (by as_aux_lemma => kernel_rfl) (by as_aux_lemma => kernel_rfl) (fun _ _ _ h => h) (Or.inl ⟨by rfl, ?_⟩) (by assumption) ?_
              rotate_left
              · intro w' hSw
                try dsimp only at hSw
                go_simp
                try with_reducible rfl
              try simp only [Act.put, List.setIfInBounds_toArray, List.set_cons_zero, List.set_cons_succ]
              refine wpAnyH_take (i := 16) (oi := { dst := some 32, op := Op.pick (Operand.tmp 26) (Operand.const (Value.bool true)) (Operand.tmp 31), type := 4, pos := "ref.go:50", after := #[{ on := 10, ground := Ground.data }, { on := 15, ground := Ground.data }], guard := none }) (v := ?_) rfl (by as_aux_lemma => kernel_rfl) (by as_aux_lemma => kernel_rfl) (by as_aux_lemma => kernel_rfl) (fun _ _ _ h => h) (Or.inl ⟨by rfl, ?_⟩) (by assumption) ?_
              rotate_left
              · intro w' hSw
                try dsimp only at hSw
                go_simp
                try with_reducible rfl
              try simp only [Act.put, List.setIfInBounds_toArray, List.set_cons_zero, List.set_cons_succ]
              refine wpAnyH_take (i := 17) (oi := { dst := some 33, op := Op.move (Operand.tmp 32), type := 4, pos := "ref.go:50", after := #[{ on := 16, ground := Ground.data }, { on := 10, ground := Ground.chain }], guard := none }) (v := ?_) rfl (by as_aux_lemma => kernel_rfl) (by as_aux_lemma => kernel_rfl) (by as_aux_lemma => kernel_rfl) (fun _ _ _ h => h) (Or.inl ⟨by rfl, ?_⟩) (by assumption) ?_
              rotate_left
              · intro w' hSw
                try dsimp only at hSw
                go_simp
                try with_reducible rfl
              try simp only [Act.put, List.setIfInBounds_toArray, List.set_cons_zero, List.set_cons_succ]
              refine wpAnyH_take (i := 18) (oi := { dst := some 34, op := Op.move (Operand.tmp 3), type := 3, pos := "ref.go:50", after := #[{ on := 17, ground := Ground.guard }], guard := some (17, false) }) (v := ?_) rfl (by as_aux_lemma => kernel_rfl) (by as_aux_lemma => kernel_rfl) (by as_aux_lemma => kernel_rfl) (fun _ _ _ h => h) (Or.inl ⟨by rfl, ?_⟩) (by assumption) ?_
              rotate_left
              · intro w' hSw
                try dsimp only at hSw
                go_simp
                try with_reducible rfl
              try simp only [Act.put, List.setIfInBounds_toArray, List.set_cons_zero, List.set_cons_succ]
              refine wpAnyH_take (i := 19) (oi := { dst := some 35, op := Op.binOp BinOp.gtr 3 (Operand.tmp 34) (Operand.const (Value.int IntKind.i64 0)) 3, type := 4, pos := "ref.go:50", after := #[{ on := 18, ground := Ground.data }, { on := 17, ground := Ground.guard }], guard := some (17, false) }) (v := ?_) rfl (by as_aux_lemma => kernel_rfl) (by as_aux_lemma => kernel_rfl) (by as_aux_lemma => kernel_rfl) (fun _ _ _ h => h) (Or.inl ⟨by rfl, ?_⟩) (by assumption) ?_
              rotate_left
              · intro w' hSw
                try dsimp only at hSw
                go_simp
                try with_reducible rfl
              try simp only [Act.put, List.setIfInBounds_toArray, List.set_cons_zero, List.set_cons_succ]
              refine wpAnyH_take (i := 20) (oi := { dst := some 36, op := Op.move (Operand.tmp 35), type := 4, pos := "ref.go:50", after := #[{ on := 19, ground := Ground.data }, { on := 17, ground := Ground.chain }, { on := 17, ground := Ground.guard }], guard := some (17, false) }) (v := ?_) rfl (by as_aux_lemma => kernel_rfl) (by as_aux_lemma => kernel_rfl) (by as_aux_lemma => kernel_rfl) (fun _ _ _ h => h) (Or.inl ⟨by rfl, ?_⟩) (by assumption) ?_
              rotate_left
              · intro w' hSw
                try dsimp only at hSw
                go_simp
                try with_reducible rfl
              try simp only [Act.put, List.setIfInBounds_toArray, List.set_cons_zero, List.set_cons_succ]
              refine wpAnyH_take (i := 21) (oi := { dst := some 37, op := Op.move (Operand.tmp 0), type := 22, pos := "ref.go:50", after := #[{ on := 20, ground := Ground.guard }], guard := some (20, true) }) (v := undef) rfl (by as_aux_lemma => kernel_rfl) (by as_aux_lemma => kernel_rfl) (by as_aux_lemma => kernel_rfl) (fun _ _ _ h => h) (Or.inr ⟨by rfl, rfl⟩) (by assumption) ?_
              try simp only [Act.put, List.setIfInBounds_toArray, List.set_cons_zero, List.set_cons_succ]
              refine wpAnyH_take (i := 22) (oi := { dst := some 38, op := Op.move (Operand.tmp 3), type := 3, pos := "ref.go:50", after := #[{ on := 20, ground := Ground.guard }], guard := some (20, true) }) (v := undef) rfl (by as_aux_lemma => kernel_rfl) (by as_aux_lemma => kernel_rfl) (by as_aux_lemma => kernel_rfl) (fun _ _ _ h => h) (Or.inr ⟨by rfl, rfl⟩) (by assumption) ?_
              try simp only [Act.put, List.setIfInBounds_toArray, List.set_cons_zero, List.set_cons_succ]
              refine wpAnyH_take (i := 23) (oi := { dst := some 39, op := Op.binOp BinOp.sub 3 (Operand.tmp 38) (Operand.const (Value.int IntKind.i64 1)) 3, type := 3, pos := "ref.go:50", after := #[{ on := 22, ground := Ground.data }, { on := 20, ground := Ground.guard }], guard := some (20, true) }) (v := undef) rfl (by as_aux_lemma => kernel_rfl) (by as_aux_lemma => kernel_rfl) (by as_aux_lemma => kernel_rfl) (fun _ _ _ h => h) (Or.inr ⟨by rfl, rfl⟩) (by assumption) ?_
              try simp only [Act.put, List.setIfInBounds_toArray, List.set_cons_zero, List.set_cons_succ]
              refine wpAnyH_take (i := 24) (oi := { dst := some 40, op := Op.indexAddr 22 (Operand.tmp 37) (Operand.tmp 39), type := 0, pos := "ref.go:50", after := #[{ on := 21, ground := Ground.data }, { on := 23, ground := Ground.data }, { on := 20, ground := Ground.guard }], guard := some (20, true) }) (v := undef) rfl (by as_aux_lemma => kernel_rfl) (by as_aux_lemma => kernel_rfl) (by as_aux_lemma => kernel_rfl) (fun _ _ _ h => h) (Or.inr ⟨by rfl, rfl⟩) (by assumption) ?_
              try simp only [Act.put, List.setIfInBounds_toArray, List.set_cons_zero, List.set_cons_succ]
              refine wpAnyH_take (i := 25) (oi := { dst := some 41, op := Op.load 68 (Operand.tmp 40), type := 68, pos := "ref.go:50", after := #[{ on := 24, ground := Ground.data }, { on := 20, ground := Ground.guard }], guard := some (20, true) }) (v := undef) rfl (by as_aux_lemma => kernel_rfl) (by as_aux_lemma => kernel_rfl) (by as_aux_lemma => kernel_rfl) (fun _ _ _ h => h) (Or.inr ⟨by rfl, rfl⟩) (by assumption) ?_
              try simp only [Act.put, List.setIfInBounds_toArray, List.set_cons_zero, List.set_cons_succ]
              refine wpAnyH_take (i := 26) (oi := { dst := some 42, op := Op.load 68 (Operand.tmp 4), type := 68, pos := "ref.go:50", after := #[{ on := 20, ground := Ground.guard }], guard := some (20, true) }) (v := undef) rfl (by as_aux_lemma => kernel_rfl) (by as_aux_lemma => kernel_rfl) (by as_aux_lemma => kernel_rfl) (fun _ _ _ h => h) (Or.inr ⟨by rfl, rfl⟩) (by assumption) ?_
              try simp only [Act.put, List.setIfInBounds_toArray, List.set_cons_zero, List.set_cons_succ]
              refine wpAnyH_take (i := 27) (oi := { dst := some 43, op := Op.call { callee := Callee.value (Operand.func 34), args := #[Operand.tmp 41, Operand.tmp 42], argTypes := #[68, 68] }, type := 4, pos := "ref.go:50", after := #[{ on := 25, ground := Ground.data }, { on := 26, ground := Ground.data }, { on := 20, ground := Ground.chain }, { on := 20, ground := Ground.guard }], guard := some (20, true) }) (v := undef) rfl (by as_aux_lemma => kernel_rfl) (by as_aux_lemma => kernel_rfl) (by as_aux_lemma => kernel_rfl) (fun _ _ _ h => h) (Or.inr ⟨by rfl, rfl⟩) (by assumption) ?_
              try simp only [Act.put, List.setIfInBounds_toArray, List.set_cons_zero, List.set_cons_succ]
              refine wpAnyH_take (i := 28) (oi := { dst := some 44, op := Op.unOp UnOp.not 4 (Operand.tmp 43), type := 4, pos := "ref.go:50", after := #[{ on := 27, ground := Ground.data }, { on := 20, ground := Ground.guard }], guard := some (20, true) }) (v := undef) rfl (by as_aux_lemma => kernel_rfl) (by as_aux_lemma => kernel_rfl) (by as_aux_lemma => kernel_rfl) (fun _ _ _ h => h) (Or.inr ⟨by rfl, rfl⟩) (by assumption) ?_
              try simp only [Act.put, List.setIfInBounds_toArray, List.set_cons_zero, List.set_cons_succ]
              refine wpAnyH_take (i := 29) (oi := { dst := some 45, op := Op.pick (Operand.tmp 36) (Operand.tmp 44) (Operand.const (Value.bool false)), type := 4, pos := "ref.go:50", after := #[{ on := 20, ground := Ground.data }, { on := 28, ground := Ground.data }, { on := 17, ground := Ground.guard }], guard := some (17, false) }) (v := ?_) rfl (by as_aux_lemma => kernel_rfl) (by as_aux_lemma => kernel_rfl) (by as_aux_lemma => kernel_rfl) (fun _ _ _ h => h) (Or.inl ⟨by rfl, ?_⟩) (by assumption) ?_
              rotate_left
              · intro w' hSw
                try dsimp only at hSw
                go_simp
                try with_reducible rfl
              try simp only [Act.put, List.setIfInBounds_toArray, List.set_cons_zero, List.set_cons_succ]
              have BD := Lib.hid (below2S B1.out (Below.refl _ _).drew)
              have CD := Lib.hid (C1.out.later (Below.refl _ _).drew)
              refine wpAnyH_take (i := 30) (oi := { dst := some 46, op := Op.pick (Operand.tmp 33) (Operand.const (Value.bool true)) (Operand.tmp 45), type := 4, pos := "ref.go:50", after := #[{ on := 17, ground := Ground.data }, { on := 29, ground := Ground.data }], guard := none }) (v := ?_) rfl (by as_aux_lemma => kernel_rfl) (by as_aux_lemma => kernel_rfl) (by as_aux_lemma => kernel_rfl) (fun _ _ _ h => h) (Or.inl ⟨by rfl, ?_⟩) (by assumption) ?_
              rotate_left
              · intro w' hSw
                try dsimp only at hSw
                go_simp
                try with_reducible rfl
              try simp only [Act.put, List.setIfInBounds_toArray, List.set_cons_zero, List.set_cons_succ]
              refine wpAnyH_take (i := 31) (oi := { dst := some 47, op := Op.move (Operand.tmp 46), type := 4, pos := "ref.go:50", after := #[{ on := 30, ground := Ground.data }, { on := 27, ground := Ground.chain }], guard := none }) (v := ?_) rfl (by as_aux_lemma => kernel_rfl) (by as_aux_lemma => kernel_rfl) (by as_aux_lemma => kernel_rfl) (fun _ _ _ h => h) (Or.inl ⟨by rfl, ?_⟩) (by assumption) ?_
              rotate_left
              · intro w' hSw
                try dsimp only at hSw
                go_simp
                try with_reducible rfl
              try simp only [Act.put, List.setIfInBounds_toArray, List.set_cons_zero, List.set_cons_succ]
              refine wpAnyH_take (i := 32) (oi := { dst := some 48, op := Op.move (Operand.tmp 0), type := 22, pos := "ref.go:50", after := #[{ on := 31, ground := Ground.guard }], guard := some (31, false) }) (v := ?_) rfl (by as_aux_lemma => kernel_rfl) (by as_aux_lemma => kernel_rfl) (by as_aux_lemma => kernel_rfl) (fun _ _ _ h => h) (Or.inl ⟨by rfl, ?_⟩) (by assumption) ?_
              rotate_left
              · intro w' hSw
                try dsimp only at hSw
                go_simp
                try with_reducible rfl
              try simp only [Act.put, List.setIfInBounds_toArray, List.set_cons_zero, List.set_cons_succ]
              refine wpAnyH_take (i := 33) (oi := { dst := some 49, op := Op.fieldAddr 68 (Operand.tmp 4) 0, type := 0, pos := "ref.go:50", after := #[{ on := 31, ground := Ground.guard }], guard := some (31, false) }) (v := ?_) rfl (by as_aux_lemma => kernel_rfl) (by as_aux_lemma => kernel_rfl) (by as_aux_lemma => kernel_rfl) (fun _ _ _ h => h) (Or.inl ⟨by rfl, ?_⟩) (by assumption) ?_
              rotate_left
              · intro w' hSw
                try dsimp only at hSw
                go_simp
                try with_reducible rfl
              try simp only [Act.put, List.setIfInBounds_toArray, List.set_cons_zero, List.set_cons_succ]
              refine wpAnyH_take (i := 34) (oi := { dst := some 50, op := Op.load 9 (Operand.tmp 49), type := 9, pos := "ref.go:50", after := #[{ on := 33, ground := Ground.data }, { on := 31, ground := Ground.guard }], guard := some (31, false) }) (v := ?_) rfl (by as_aux_lemma => kernel_rfl) (by as_aux_lemma => kernel_rfl) (by as_aux_lemma => kernel_rfl) (fun _ _ _ h => h) (Or.inl ⟨by rfl, ?_⟩) (by assumption) ?_
              rotate_left
              · intro w' hSw
                try dsimp only at hSw
                go_simp
                try with_reducible rfl
              try simp only [Act.put, List.setIfInBounds_toArray, List.set_cons_zero, List.set_cons_succ]
              refine wpAnyH_ready (rs := [35]) (by as_aux_lemma => kernel_rfl) (by simp) ?_
              refine AllReadyH.cons (o := { dst := some 51, op := Op.call { callee := Callee.value (Operand.func 35), args := #[Operand.tmp 48, Operand.tmp 50], argTypes := #[22, 9] }, type := 72, pos := "ref.go:50", after := #[{ on := 32, ground := Ground.data }, { on := 34, ground := Ground.data }, { on := 31, ground := Ground.chain }, { on := 31, ground := Ground.guard }], guard := some (31, false) }) rfl (fun Kx hK => ?_) AllReadyH.nil
              go_simp
              refine (rof_any (HV.out.later BD.out) HL.out xo).mono ?_
              rintro e w24 ⟨u24, rfl, h24, b24⟩
              obtain ⟨a24, k24, rfl⟩ := ownT_slice h24
              have BE := Lib.hid (below2S BD.out b24)
              have CE := Lib.hid (CD.out.later b24)
              clear b24 h24
              go_wp2_with fail
              refine hK.out _ _ ?_ (fun hHeld2 => ?_)
              · exact s7 (CE.out)
              clear hK Kx hHeld
              have hHeld := hHeld2
              clear hHeld2
              try simp only [Act.put, List.setIfInBounds_toArray, List.set_cons_zero, List.set_cons_succ]
              refine wpAnyH_take (i := 36) (oi := { dst := some 52, op := Op.call { callee := Callee.builtin Builtin.len, args := #[Operand.tmp 51], argTypes := #[72] }, type := 3, pos := "ref.go:50", after := #[{ on := 35, ground := Ground.data }, { on := 31, ground := Ground.guard }], guard := some (31, false) }) (v := ?_) rfl (by as_aux_lemma => kernel_rfl) (by as_aux_lemma => kernel_rfl) (by as_aux_lemma => kernel_rfl) (fun _ _ _ h => h) (Or.inl ⟨by rfl, ?_⟩) (by assumption) ?_
              rotate_left
              · intro w' hSw
                try dsimp only at hSw
                go_simp
                try with_reducible rfl
              try simp only [Act.put, List.setIfInBounds_toArray, List.set_cons_zero, List.set_cons_succ]
              refine wpAnyH_take (i := 37) (oi := { dst := some 53, op := Op.binOp BinOp.gtr 3 (Operand.tmp 52) (Operand.const (Value.int IntKind.i64 16)) 3, type := 4, pos := "ref.go:50", after := #[{ on := 36, ground := Ground.data }, { on := 31, ground := Ground.guard }], guard := some (31, false) }) (v := ?_) rfl (by as_aux_lemma => kernel_rfl) (by as_aux_lemma => kernel_rfl) (by as_aux_lemma => kernel_rfl) (fun _ _ _ h => h) (Or.inl ⟨by rfl, ?_⟩) (by assumption) ?_
              rotate_left
              · intro w' hSw
                try dsimp only at hSw
                go_simp
                try with_reducible rfl
              try simp only [Act.put, List.setIfInBounds_toArray, List.set_cons_zero, List.set_cons_succ]
              refine wpAnyH_take (i := 38) (oi := { dst := some 54, op := Op.pick (Operand.tmp 47) (Operand.const (Value.bool true)) (Operand.tmp 53), type := 4, pos := "ref.go:50", after := #[{ on := 31, ground := Ground.data }, { on := 37, ground := Ground.data }], guard := none }) (v := ?_) rfl (by as_aux_lemma => kernel_rfl) (by as_aux_lemma => kernel_rfl) (by as_aux_lemma => kernel_rfl) (fun _ _ _ h => h) (Or.inl ⟨by rfl, ?_⟩) (by assumption) ?_
              rotate_left
              · intro w' hSw
                try dsimp only at hSw
                go_simp
                try with_reducible rfl
              try simp only [Act.put, List.setIfInBounds_toArray, List.set_cons_zero, List.set_cons_succ]
              refine wpAnyH_done (by kernel_rfl) ?_ _
              cases g with
              | true =>
                have HR : roMayD l = false := roMayD_off hlt (by rw [HAt.out]; simp)
                rw [h.out] at HR
                subst HR
                go_wp2_with fail
                go_ret
                exact ⟨rfl, BE.out⟩
              | false =>
                obtain ⟨c0, c1, c2, c3, c4, c5, c6⟩ := CE.out
                simp only [Nat.zero_add] at c0 c1 c2 c3 c4 c5 c6
                go_wp2_with fail
                refine (rget8_eq (HV.out.later BE.out) xc xo FG).mono ?_
                rintro e w7 ⟨rfl, b7⟩
                have b8 := below2S b7 (bl_newZ w7 (.cells #[.bool i1, .bool i2, .bool i3, .bool i4, .bool i5] 66))
                have D5 := Lib.hid (itAt_made w7 ⟨i1, i2, i3, i4, i5⟩ w7.heap.size rfl)
                replace BE := Lib.hid (below2S BE.out b8)
                replace CE := Lib.hid (CE.out.later b8)
                clear b7 b8 c0 c1 c2 c3 c4 c5 c6
                obtain ⟨c0, c1, c2, c3, c4, c5, c6⟩ := CE.out
                obtain ⟨d0, d1, d2, d3, d4⟩ := D5.out
                simp only [Nat.zero_add] at c0 c1 c2 c3 c4 c5 c6
                go_wp2_with fail
                have RH := rhas_any (HV.out.later BE.out) xc xo
                rw [FH.out] at RH
                refine RH.mono ?_
                rintro e w8 ⟨rfl, rfl⟩
                clear RH
                cases hh with
                | false =>
                  have HR : roMayD l = false := roMayD_off hlt (by rw [HAt.out]; simp)
                  rw [h.out] at HR
                  subst HR
                  go_wp2_with fail
                  go_ret
                  exact ⟨rfl, BE.out⟩
                | true =>
                  go_wp2_with fail
                  refine (MM.out _).mono ?_
                  rintro e w9 ⟨rfl, b9⟩
                  replace BE := Lib.hid (below2S BE.out b9)
                  replace CE := Lib.hid (CE.out.later b9)
                  replace D5 := Lib.hid (D5.out.later b9)
                  clear b9 c0 c1 c2 c3 c4 c5 c6 d0 d1 d2 d3 d4
                  obtain ⟨c0, c1, c2, c3, c4, c5, c6⟩ := CE.out
                  obtain ⟨d0, d1, d2, d3, d4⟩ := D5.out
                  simp only [Nat.zero_add] at c0 c1 c2 c3 c4 c5 c6
                  cases m with
                  | false =>
                    have HR : roMayD l = false := roMayD_off hlt (by rw [HAt.out]; simp)
                    rw [h.out] at HR
                    subst HR
                    go_wp2_with fail
                    go_ret
                    exact ⟨rfl, BE.out⟩
                  | true =>
                    go_wp2_with fail
                    refine (MZ.out _).mono ?_
                    rintro e w10 ⟨rfl, b10⟩
                    replace BE := Lib.hid (below2S BE.out b10)
                    replace D5 := Lib.hid (D5.out.later b10)
                    clear b10 c0 c1 c2 c3 c4 c5 c6 d0 d1 d2 d3 d4
                    obtain ⟨d0, d1, d2, d3, d4⟩ := D5.out
                    cases z with
                    | false =>
                      have HA2 := Lib.hid (roDoc_next HA.out (by rw [HAt.out]; simp))
                      clear d0 d1 d2 d3 d4
                      go_wp2_with fail
                      go_roundw
                      case rel => exact ⟨0 + 1, by omega, by go_num, BE, HA2⟩
                      case measure => simp [intOf]; omega
                    | true =>
                      go_wp2_with fail
                      refine (MY.out _).mono ?_
                      rintro e w11 ⟨rfl, b11⟩
                      replace BE := Lib.hid (below2S BE.out b11)
                      clear b11 d0 d1 d2 d3 d4
                      cases y with
                      | true =>
                        have HR : roMayD l = false := roMayD_off hlt (by rw [HAt.out]; simp)
                        rw [h.out] at HR
                        subst HR
                        go_wp2_with fail
                        go_ret
                        exact ⟨rfl, BE.out⟩
                      | false =>
                        have HA2 := Lib.hid (roDoc_next HA.out (by rw [HAt.out]; simp))
                        go_wp2_with fail
                        go_roundw
                        case rel => exact ⟨0 + 1, by omega, by go_num, BE, HA2⟩
                        case measure => simp [intOf]; omega
            · obtain ⟨j, rfl⟩ : ∃ j, k = j + 1 := ⟨k - 1, by omega⟩
              obtain ⟨b2, off2, e2, hP⟩ := HV.out.row HB.out j (by omega)
              injection e2 with e2
              injection e2 with e3 e4 _
              subst e3 e4
              obtain ⟨⟨po, pc, ⟨p1, p2, p3, p4, p5⟩⟩, hr2⟩ : ∃ r, l.getD j Ent.zero = r := ⟨_, rfl⟩
              rw [hr2] at hP
              have P1 := Lib.hid (hP.later (bl_newZ wr (.cells #[.string ⟨xo.toArray⟩, .string ⟨xc.toArray⟩, .bool x1, .bool x2, .bool x3, .bool x4, .bool x5] 68)))
              obtain ⟨p, hp⟩ : ∃ p, entLt ⟨po, pc, ⟨p1, p2, p3, p4, p5⟩⟩ ⟨xo, xc, ⟨x1, x2, x3, x4, x5⟩⟩ = p := ⟨_, rfl⟩
              have A8 := Lib.hid (rahead8_any po pc p1 p2 p3 p4 p5 xo xc x1 x2 x3 x4 x5 (Lib.hid hp))
              have hri : roRiseAt l (j + 1) = p := by
                unfold roRiseAt
                rw [hr, show j + 1 - 1 = j by omega, hr2, hp]
                simp [hq1, hq2, hoc]
              have em : ((j + 1 : Nat) : Int) - 1 = (j : Int) := by omega
              have t6 : (0 : Int) ≤ (j : Int) := by omega
              have t7 : (j : Int) < (l.length : Int) := by omega
              have t8 : decide ((0 : Int) < ((j + 1 : Nat) : Int)) = true := by rw [decide_eq_true_eq]; omega
              have t8' : decide ((0 : Int) < (j : Int) + 1) = true := by rw [decide_eq_true_eq]; omega
              have hw1 : IntKind.i64.wrap (j : Int) = (j : Int) := IntWalk.i64_in _ (by have := HL.out; omega)
              have hw2 : IntKind.i64.wrap ((j : Int) + 1 - 1) = (j : Int) := by rw [IntWalk.i64_in _ (by have := HL.out; omega)]; omega
              have em' : (j : Int) + 1 - 1 = (j : Int) := by omega
              cases p with
              | false =>
                have HR : roMayD l = false := roMayD_off hlt (by unfold roDocAt; rw [hri]; rfl)
                rw [h.out] at HR
                subst HR
                clear hr hr2 hq1 hq2 hg hhas hget hmm hz hy hp hri hP
                go_wp2_with fail
                obtain ⟨p0', p1', p2', p3', p4', p5', p6'⟩ := cells7_regrown P1.out
                try simp only at p0' p1' p2' p3' p4' p5' p6'
                obtain ⟨c0, c1, c2, c3, c4, c5, c6⟩ := cells7_regrown C1.out
                simp only [Nat.zero_add] at c0 c1 c2 c3 c4 c5 c6
                refine wp_region_quiet_below (by kernel_rfl) (by kernel_rfl) ?_
                repeat (go_big_quiet_step (first | with_reducible exact rgS I1.out _ _ _ | with_reducible exact rgS I2.out _ _ _ | with_reducible exact rgB A8.out _ _ _))
                refine wpQuiet_nil ?_
                intro w5 hw5
                have B5 := Lib.hid (below2S B1.out (regrown_belowP hw5))
                clear hw5
                go_wp2_with fail
                go_ret
                exact ⟨rfl, B5.out⟩
              | true =>
                have HAt := Lib.hid (roDocAt_eq hr hri hg hhas hget hmm hz hy)
                clear hr hr2 hq1 hq2 hoc hg hhas hget hmm hz hy hp hri hP
                go_wp2_with fail
                clear h0 h1 h2 h3 h4 h5 h6
                have CE := C1
                refine wp_region_held_drew (S := (fun W => ((W).cell? ⟨wr.heap.size, 0, none⟩ = some (.string ⟨xo.toArray⟩) ∧ (W).cell? ⟨wr.heap.size, 1, none⟩ = some (.string ⟨xc.toArray⟩) ∧ (W).cell? ⟨wr.heap.size, 2, none⟩ = some (.bool x1) ∧ (W).cell? ⟨wr.heap.size, 3, none⟩ = some (.bool x2) ∧ (W).cell? ⟨wr.heap.size, 4, none⟩ = some (.bool x3) ∧ (W).cell? ⟨wr.heap.size, 5, none⟩ = some (.bool x4) ∧ (W).cell? ⟨wr.heap.size, 6, none⟩ = some (.bool x5) ∧ (W).cell? ⟨bk, off + j * 7, none⟩ = some (.string ⟨po.toArray⟩) ∧ (W).cell? ⟨bk, off + j * 7 + 1, none⟩ = some (.string ⟨pc.toArray⟩) ∧ (W).cell? ⟨bk, off + j * 7 + 2, none⟩ = some (.bool p1) ∧ (W).cell? ⟨bk, off + j * 7 + 3, none⟩ = some (.bool p2) ∧ (W).cell? ⟨bk, off + j * 7 + 4, none⟩ = some (.bool p3) ∧ (W).cell? ⟨bk, off + j * 7 + 5, none⟩ = some (.bool p4) ∧ (W).cell? ⟨bk, off + j * 7 + 6, none⟩ = some (.bool p5)))) (by kernel_rfl) ?_ (fun hHeld => ?_)
                · exact s14 (C1.out.later (Below.refl _ _).drew) (P1.out.later (Below.refl _ _).drew)
                refine wpAnyH_take (i := 0) (oi := { dst := some 16, op := Op.fieldAddr 68 (Operand.tmp 4) 0, type := 0, pos := "ref.go:50", after := #[], guard := none }) (v := ?_) rfl (by as_aux_lemma => kernel_rfl) (by as_aux_lemma => kernel_rfl) (by as_aux_lemma => kernel_rfl) (fun _ _ _ h => h) (Or.inl ⟨by rfl, ?_⟩) (by assumption) ?_
                rotate_left
                · intro w' hSw
                  try dsimp only at hSw
                  go_simp
                  try with_reducible rfl
                try simp only [Act.put, List.setIfInBounds_toArray, List.set_cons_zero, List.set_cons_succ]
                refine wpAnyH_take (i := 1) (oi := { dst := some 17, op := Op.load 9 (Operand.tmp 16), type := 9, pos := "ref.go:50", after := #[{ on := 0, ground := Ground.data }], guard := none }) (v := ?_) rfl (by as_aux_lemma => kernel_rfl) (by as_aux_lemma => kernel_rfl) (by as_aux_lemma => kernel_rfl) (fun _ _ _ h => h) (Or.inl ⟨by rfl, ?_⟩) (by assumption) ?_
                rotate_left
                · intro w' hSw
                  try dsimp only at hSw
                  go_simp
                  try with_reducible rfl
                try simp only [Act.put, List.setIfInBounds_toArray, List.set_cons_zero, List.set_cons_succ]
                refine wpAnyH_ready (rs := [2]) (by as_aux_lemma => kernel_rfl) (by simp) ?_
                refine AllReadyH.cons (o := { dst := some 18, op := Op.call { callee := Callee.value (Operand.func 33), args := #[Operand.tmp 17], argTypes := #[9] }, type := 4, pos := "ref.go:50", after := #[{ on := 1, ground := Ground.data }], guard := none }) rfl (fun Kx hK => ?_) AllReadyH.nil
                go_simp
                refine (I1.out _).mono ?_
                rintro e w21 ⟨rfl, rfl⟩
                go_wp2_with fail
                refine hK.out _ _ ?_ (fun hHeld2 => ?_)
                · exact hHeld
                clear hK Kx hHeld
                have hHeld := hHeld2
                clear hHeld2
                try simp only [Act.put, List.setIfInBounds_toArray, List.set_cons_zero, List.set_cons_succ]
                refine wpAnyH_take (i := 3) (oi := { dst := some 19, op := Op.unOp UnOp.not 4 (Operand.tmp 18), type := 4, pos := "ref.go:50", after := #[{ on := 2, ground := Ground.data }], guard := none }) (v := ?_) rfl (by as_aux_lemma => kernel_rfl) (by as_aux_lemma => kernel_rfl) (by as_aux_lemma => kernel_rfl) (fun _ _ _ h => h) (Or.inl ⟨by rfl, ?_⟩) (by assumption) ?_
                rotate_left
                · intro w' hSw
                  try dsimp only at hSw
                  go_simp
                  try with_reducible rfl
                try simp only [Act.put, List.setIfInBounds_toArray, List.set_cons_zero, List.set_cons_succ]
                refine wpAnyH_take (i := 4) (oi := { dst := some 20, op := Op.move (Operand.tmp 19), type := 4, pos := "ref.go:50", after := #[{ on := 3, ground := Ground.data }, { on := 2, ground := Ground.chain }], guard := none }) (v := ?_) rfl (by as_aux_lemma => kernel_rfl) (by as_aux_lemma => kernel_rfl) (by as_aux_lemma => kernel_rfl) (fun _ _ _ h => h) (Or.inl ⟨by rfl, ?_⟩) (by assumption) ?_
                rotate_left
                · intro w' hSw
                  try dsimp only at hSw
                  go_simp
                  try with_reducible rfl
                try simp only [Act.put, List.setIfInBounds_toArray, List.set_cons_zero, List.set_cons_succ]
                refine wpAnyH_take (i := 5) (oi := { dst := some 21, op := Op.fieldAddr 68 (Operand.tmp 4) 1, type := 0, pos := "ref.go:50", after := #[{ on := 4, ground := Ground.guard }], guard := some (4, false) }) (v := ?_) rfl (by as_aux_lemma => kernel_rfl) (by as_aux_lemma => kernel_rfl) (by as_aux_lemma => kernel_rfl) (fun _ _ _ h => h) (Or.inl ⟨by rfl, ?_⟩) (by assumption) ?_
                rotate_left
                · intro w' hSw
                  try dsimp only at hSw
                  go_simp
                  try with_reducible rfl
                try simp only [Act.put, List.setIfInBounds_toArray, List.set_cons_zero, List.set_cons_succ]
                refine wpAnyH_take (i := 6) (oi := { dst := some 22, op := Op.load 9 (Operand.tmp 21), type := 9, pos := "ref.go:50", after := #[{ on := 5, ground := Ground.data }, { on := 4, ground := Ground.guard }], guard := some (4, false) }) (v := ?_) rfl (by as_aux_lemma => kernel_rfl) (by as_aux_lemma => kernel_rfl) (by as_aux_lemma => kernel_rfl) (fun _ _ _ h => h) (Or.inl ⟨by rfl, ?_⟩) (by assumption) ?_
                rotate_left
                · intro w' hSw
                  try dsimp only at hSw
                  go_simp
                  try with_reducible rfl
                try simp only [Act.put, List.setIfInBounds_toArray, List.set_cons_zero, List.set_cons_succ]
                refine wpAnyH_ready (rs := [7]) (by as_aux_lemma => kernel_rfl) (by simp) ?_
                refine AllReadyH.cons (o := { dst := some 23, op := Op.call { callee := Callee.value (Operand.func 33), args := #[Operand.tmp 22], argTypes := #[9] }, type := 4, pos := "ref.go:50", after := #[{ on := 6, ground := Ground.data }, { on := 4, ground := Ground.chain }, { on := 4, ground := Ground.guard }], guard := some (4, false) }) rfl (fun Kx hK => ?_) AllReadyH.nil
                go_simp
                refine (I2.out _).mono ?_
                rintro e w22 ⟨rfl, rfl⟩
                go_wp2_with fail
                refine hK.out _ _ ?_ (fun hHeld2 => ?_)
                · exact hHeld
                clear hK Kx hHeld
                have hHeld := hHeld2
                clear hHeld2
                try simp only [Act.put, List.setIfInBounds_toArray, List.set_cons_zero, List.set_cons_succ]
                refine wpAnyH_take (i := 8) (oi := { dst := some 24, op := Op.unOp UnOp.not 4 (Operand.tmp 23), type := 4, pos := "ref.go:50", after := #[{ on := 7, ground := Ground.data }, { on := 4, ground := Ground.guard }], guard := some (4, false) }) (v := ?_) rfl (by as_aux_lemma => kernel_rfl) (by as_aux_lemma => kernel_rfl) (by as_aux_lemma => kernel_rfl) (fun _ _ _ h => h) (Or.inl ⟨by rfl, ?_⟩) (by assumption) ?_
                rotate_left
                · intro w' hSw
                  try dsimp only at hSw
                  go_simp
                  try with_reducible rfl
                try simp only [Act.put, List.setIfInBounds_toArray, List.set_cons_zero, List.set_cons_succ]
                refine wpAnyH_take (i := 9) (oi := { dst := some 25, op := Op.pick (Operand.tmp 20) (Operand.const (Value.bool true)) (Operand.tmp 24), type := 4, pos := "ref.go:50", after := #[{ on := 4, ground := Ground.data }, { on := 8, ground := Ground.data }], guard := none }) (v := ?_) rfl (by as_aux_lemma => kernel_rfl) (by as_aux_lemma => kernel_rfl) (by as_aux_lemma => kernel_rfl) (fun _ _ _ h => h) (Or.inl ⟨by rfl, ?_⟩) (by assumption) ?_
                rotate_left
                · intro w' hSw
                  try dsimp only at hSw
                  go_simp
                  try with_reducible rfl
                try simp only [Act.put, List.setIfInBounds_toArray, List.set_cons_zero, List.set_cons_succ]
                refine wpAnyH_take (i := 10) (oi := { dst := some 26, op := Op.move (Operand.tmp 25), type := 4, pos := "ref.go:50", after := #[{ on := 9, ground := Ground.data }, { on := 7, ground := Ground.chain }], guard := none }) (v := ?_) rfl (by as_aux_lemma => kernel_rfl) (by as_aux_lemma => kernel_rfl) (by as_aux_lemma => kernel_rfl) (fun _ _ _ h => h) (Or.inl ⟨by rfl, ?_⟩) (by assumption) ?_
                rotate_left
                · intro w' hSw
                  try dsimp only at hSw
                  go_simp
                  try with_reducible rfl
                try simp only [Act.put, List.setIfInBounds_toArray, List.set_cons_zero, List.set_cons_succ]
                refine wpAnyH_take (i := 11) (oi := { dst := some 27, op := Op.fieldAddr 68 (Operand.tmp 4) 0, type := 0, pos := "ref.go:50", after := #[{ on := 10, ground := Ground.guard }], guard := some (10, false) }) (v := ?_) rfl (by as_aux_lemma => kernel_rfl) (by as_aux_lemma => kernel_rfl) (by as_aux_lemma => kernel_rfl) (fun _ _ _ h => h) (Or.inl ⟨by rfl, ?_⟩) (by assumption) ?_
                rotate_left
                · intro w' hSw
                  try dsimp only at hSw
                  go_simp
                  try with_reducible rfl
                try simp only [Act.put, List.setIfInBounds_toArray, List.set_cons_zero, List.set_cons_succ]
                refine wpAnyH_take (i := 12) (oi := { dst := some 28, op := Op.load 9 (Operand.tmp 27), type := 9, pos := "ref.go:50", after := #[{ on := 11, ground := Ground.data }, { on := 10, ground := Ground.guard }], guard := some (10, false) }) (v := ?_) rfl (by as_aux_lemma => kernel_rfl) (by as_aux_lemma => kernel_rfl) (by as_aux_lemma => kernel_rfl) (fun _ _ _ h => h) (Or.inl ⟨by rfl, ?_⟩) (by assumption) ?_
                rotate_left
                · intro w' hSw
                  try dsimp only at hSw
                  go_simp
                  try with_reducible rfl
                try simp only [Act.put, List.setIfInBounds_toArray, List.set_cons_zero, List.set_cons_succ]
                refine wpAnyH_take (i := 13) (oi := { dst := some 29, op := Op.fieldAddr 68 (Operand.tmp 4) 1, type := 0, pos := "ref.go:50", after := #[{ on := 10, ground := Ground.guard }], guard := some (10, false) }) (v := ?_) rfl (by as_aux_lemma => kernel_rfl) (by as_aux_lemma => kernel_rfl) (by as_aux_lemma => kernel_rfl) (fun _ _ _ h => h) (Or.inl ⟨by rfl, ?_⟩) (by assumption) ?_
                rotate_left
                · intro w' hSw
                  try dsimp only at hSw
                  go_simp
                  try with_reducible rfl
                try simp only [Act.put, List.setIfInBounds_toArray, List.set_cons_zero, List.set_cons_succ]
                refine wpAnyH_take (i := 14) (oi := { dst := some 30, op := Op.load 9 (Operand.tmp 29), type := 9, pos := "ref.go:50", after := #[{ on := 13, ground := Ground.data }, { on := 10, ground := Ground.guard }], guard := some (10, false) }) (v := ?_) rfl (by as_aux_lemma => kernel_rfl) (by as_aux_lemma => kernel_rfl) (by as_aux_lemma => kernel_rfl) (fun _ _ _ h => h) (Or.inl ⟨by rfl, ?_⟩) (by assumption) ?_
                rotate_left
                · intro w' hSw
                  try dsimp only at hSw
                  go_simp
                  try with_reducible rfl
                try simp only [Act.put, List.setIfInBounds_toArray, List.set_cons_zero, List.set_cons_succ]
                refine wpAnyH_take (i := 15) (oi := { dst := some 31, op := Op.binOp BinOp.eql 9 (Operand.tmp 28) (Operand.tmp 30) 9, type := 4, pos := "ref.go:50", after := #[{ on := 12, ground := Ground.data }, { on := 14, ground := Ground.data }, { on := 10, ground := Ground.guard }], guard := some (10, false) }) (v := ?_) rfl (by as_aux_lemma => kernel_rfl) (by as_aux_lemma => kernel_rfl) (by as_aux_lemma => kernel_rfl) (fun _ _ _ h => h) (Or.inl ⟨by rfl, ?_⟩) (by assumption) ?_
                rotate_left
                · intro w' hSw
                  try dsimp only at hSw
                  go_simp
                  try with_reducible rfl
                try simp only [Act.put, List.setIfInBounds_toArray, List.set_cons_zero, List.set_cons_succ]
                refine wpAnyH_take (i := 16) (oi := { dst := some 32, op := Op.pick (Operand.tmp 26) (Operand.const (Value.bool true)) (Operand.tmp 31), type := 4, pos := "ref.go:50", after := #[{ on := 10, ground := Ground.data }, { on := 15, ground := Ground.data }], guard := none }) (v := ?_) rfl (by as_aux_lemma => kernel_rfl) (by as_aux_lemma => kernel_rfl) (by as_aux_lemma => kernel_rfl) (fun _ _ _ h => h) (Or.inl ⟨by rfl, ?_⟩) (by assumption) ?_
                rotate_left
                · intro w' hSw
                  try dsimp only at hSw
                  go_simp
                  try with_reducible rfl
                try simp only [Act.put, List.setIfInBounds_toArray, List.set_cons_zero, List.set_cons_succ]
                refine wpAnyH_take (i := 17) (oi := { dst := some 33, op := Op.move (Operand.tmp 32), type := 4, pos := "ref.go:50", after := #[{ on := 16, ground := Ground.data }, { on := 10, ground := Ground.chain }], guard := none }) (v := ?_) rfl (by as_aux_lemma => kernel_rfl) (by as_aux_lemma => kernel_rfl) (by as_aux_lemma => kernel_rfl) (fun _ _ _ h => h) (Or.inl ⟨by rfl, ?_⟩) (by assumption) ?_
                rotate_left
                · intro w' hSw
                  try dsimp only at hSw
                  go_simp
                  try with_reducible rfl
                try simp only [Act.put, List.setIfInBounds_toArray, List.set_cons_zero, List.set_cons_succ]
                refine wpAnyH_take (i := 18) (oi := { dst := some 34, op := Op.move (Operand.tmp 3), type := 3, pos := "ref.go:50", after := #[{ on := 17, ground := Ground.guard }], guard := some (17, false) }) (v := ?_) rfl (by as_aux_lemma => kernel_rfl) (by as_aux_lemma => kernel_rfl) (by as_aux_lemma => kernel_rfl) (fun _ _ _ h => h) (Or.inl ⟨by rfl, ?_⟩) (by assumption) ?_
                rotate_left
                · intro w' hSw
                  try dsimp only at hSw
                  go_simp
                  try with_reducible rfl
                try simp only [Act.put, List.setIfInBounds_toArray, List.set_cons_zero, List.set_cons_succ]
                refine wpAnyH_take (i := 19) (oi := { dst := some 35, op := Op.binOp BinOp.gtr 3 (Operand.tmp 34) (Operand.const (Value.int IntKind.i64 0)) 3, type := 4, pos := "ref.go:50", after := #[{ on := 18, ground := Ground.data }, { on := 17, ground := Ground.guard }], guard := some (17, false) }) (v := ?_) rfl (by as_aux_lemma => kernel_rfl) (by as_aux_lemma => kernel_rfl) (by as_aux_lemma => kernel_rfl) (fun _ _ _ h => h) (Or.inl ⟨by rfl, ?_⟩) (by assumption) ?_
                rotate_left
                · intro w' hSw
                  try dsimp only at hSw
                  go_simp
                  try with_reducible rfl
                try simp only [Act.put, List.setIfInBounds_toArray, List.set_cons_zero, List.set_cons_succ]
                refine wpAnyH_take (i := 20) (oi := { dst := some 36, op := Op.move (Operand.tmp 35), type := 4, pos := "ref.go:50", after := #[{ on := 19, ground := Ground.data }, { on := 17, ground := Ground.chain }, { on := 17, ground := Ground.guard }], guard := some (17, false) }) (v := ?_) rfl (by as_aux_lemma => kernel_rfl) (by as_aux_lemma => kernel_rfl) (by as_aux_lemma => kernel_rfl) (fun _ _ _ h => h) (Or.inl ⟨by rfl, ?_⟩) (by assumption) ?_
                rotate_left
                · intro w' hSw
                  try dsimp only at hSw
                  go_simp
                  try with_reducible rfl
                try simp only [Act.put, List.setIfInBounds_toArray, List.set_cons_zero, List.set_cons_succ]
                refine wpAnyH_take (i := 21) (oi := { dst := some 37, op := Op.move (Operand.tmp 0), type := 22, pos := "ref.go:50", after := #[{ on := 20, ground := Ground.guard }], guard := some (20, true) }) (v := ?_) rfl (by as_aux_lemma => kernel_rfl) (by as_aux_lemma => kernel_rfl) (by as_aux_lemma => kernel_rfl) (fun _ _ _ h => h) (Or.inl ⟨by rfl, ?_⟩) (by assumption) ?_
                rotate_left
                · intro w' hSw
                  try dsimp only at hSw
                  go_simp
                  try with_reducible rfl
                try simp only [Act.put, List.setIfInBounds_toArray, List.set_cons_zero, List.set_cons_succ]
                refine wpAnyH_take (i := 22) (oi := { dst := some 38, op := Op.move (Operand.tmp 3), type := 3, pos := "ref.go:50", after := #[{ on := 20, ground := Ground.guard }], guard := some (20, true) }) (v := ?_) rfl (by as_aux_lemma => kernel_rfl) (by as_aux_lemma => kernel_rfl) (by as_aux_lemma => kernel_rfl) (fun _ _ _ h => h) (Or.inl ⟨by rfl, ?_⟩) (by assumption) ?_
                rotate_left
                · intro w' hSw
                  try dsimp only at hSw
                  go_simp
                  try with_reducible rfl
                try simp only [Act.put, List.setIfInBounds_toArray, List.set_cons_zero, List.set_cons_succ]
                refine wpAnyH_take (i := 23) (oi := { dst := some 39, op := Op.binOp BinOp.sub 3 (Operand.tmp 38) (Operand.const (Value.int IntKind.i64 1)) 3, type := 3, pos := "ref.go:50", after := #[{ on := 22, ground := Ground.data }, { on := 20, ground := Ground.guard }], guard := some (20, true) }) (v := ?_) rfl (by as_aux_lemma => kernel_rfl) (by as_aux_lemma => kernel_rfl) (by as_aux_lemma => kernel_rfl) (fun _ _ _ h => h) (Or.inl ⟨by rfl, ?_⟩) (by assumption) ?_
                rotate_left
                · intro w' hSw
                  try dsimp only at hSw
                  go_simp
                  try with_reducible rfl
                try simp only [Act.put, List.setIfInBounds_toArray, List.set_cons_zero, List.set_cons_succ]
                refine wpAnyH_take (i := 24) (oi := { dst := some 40, op := Op.indexAddr 22 (Operand.tmp 37) (Operand.tmp 39), type := 0, pos := "ref.go:50", after := #[{ on := 21, ground := Ground.data }, { on := 23, ground := Ground.data }, { on := 20, ground := Ground.guard }], guard := some (20, true) }) (v := ?_) rfl (by as_aux_lemma => kernel_rfl) (by as_aux_lemma => kernel_rfl) (by as_aux_lemma => kernel_rfl) (fun _ _ _ h => h) (Or.inl ⟨by rfl, ?_⟩) (by assumption) ?_
                rotate_left
                · intro w' hSw
                  try dsimp only at hSw
                  go_simp
                  try with_reducible rfl
                try simp only [Act.put, List.setIfInBounds_toArray, List.set_cons_zero, List.set_cons_succ]
                refine wpAnyH_take (i := 25) (oi := { dst := some 41, op := Op.load 68 (Operand.tmp 40), type := 68, pos := "ref.go:50", after := #[{ on := 24, ground := Ground.data }, { on := 20, ground := Ground.guard }], guard := some (20, true) }) (v := ?_) rfl (by as_aux_lemma => kernel_rfl) (by as_aux_lemma => kernel_rfl) (by as_aux_lemma => kernel_rfl) (fun _ _ _ h => h) (Or.inl ⟨by rfl, ?_⟩) (by assumption) ?_
                rotate_left
                · intro w' hSw
                  try dsimp only at hSw
                  go_simp
                  try with_reducible rfl
                try simp only [Act.put, List.setIfInBounds_toArray, List.set_cons_zero, List.set_cons_succ]
                refine wpAnyH_take (i := 26) (oi := { dst := some 42, op := Op.load 68 (Operand.tmp 4), type := 68, pos := "ref.go:50", after := #[{ on := 20, ground := Ground.guard }], guard := some (20, true) }) (v := ?_) rfl (by as_aux_lemma => kernel_rfl) (by as_aux_lemma => kernel_rfl) (by as_aux_lemma => kernel_rfl) (fun _ _ _ h => h) (Or.inl ⟨by rfl, ?_⟩) (by assumption) ?_
                rotate_left
                · intro w' hSw
                  try dsimp only at hSw
                  go_simp
                  try with_reducible rfl
                try simp only [Act.put, List.setIfInBounds_toArray, List.set_cons_zero, List.set_cons_succ]
                refine wpAnyH_ready (rs := [27]) (by as_aux_lemma => kernel_rfl) (by simp) ?_
                refine AllReadyH.cons (o := { dst := some 43, op := Op.call { callee := Callee.value (Operand.func 34), args := #[Operand.tmp 41, Operand.tmp 42], argTypes := #[68, 68] }, type := 4, pos := "ref.go:50", after := #[{ on := 25, ground := Ground.data }, { on := 26, ground := Ground.data }, { on := 20, ground := Ground.chain }, { on := 20, ground := Ground.guard }], guard := some (20, true) }) rfl (fun Kx hK => ?_) AllReadyH.nil
                go_simp
                refine (A8.out _).mono ?_
                rintro e w23 ⟨rfl, b23⟩
                have bd := below2S (Below.refl _ _).drew b23
                have BD := Lib.hid (below2S B1.out bd)
                have CD := Lib.hid (C1.out.later bd)
                have PD := Lib.hid (P1.out.later bd)
                clear bd b23
                go_wp2_with fail
                refine hK.out _ _ ?_ (fun hHeld2 => ?_)
                · exact s14 (CD.out) (PD.out)
                clear hK Kx hHeld
                have hHeld := hHeld2
                clear hHeld2
                try simp only [Act.put, List.setIfInBounds_toArray, List.set_cons_zero, List.set_cons_succ]
                refine wpAnyH_take (i := 28) (oi := { dst := some 44, op := Op.unOp UnOp.not 4 (Operand.tmp 43), type := 4, pos := "ref.go:50", after := #[{ on := 27, ground := Ground.data }, { on := 20, ground := Ground.guard }], guard := some (20, true) }) (v := ?_) rfl (by as_aux_lemma => kernel_rfl) (by as_aux_lemma => kernel_rfl) (by as_aux_lemma => kernel_rfl) (fun _ _ _ h => h) (Or.inl ⟨by rfl, ?_⟩) (by assumption) ?_
                rotate_left
                · intro w' hSw
                  try dsimp only at hSw
                  go_simp
                  try with_reducible rfl
                try simp only [Act.put, List.setIfInBounds_toArray, List.set_cons_zero, List.set_cons_succ]
                refine wpAnyH_take (i := 29) (oi := { dst := some 45, op := Op.pick (Operand.tmp 36) (Operand.tmp 44) (Operand.const (Value.bool false)), type := 4, pos := "ref.go:50", after := #[{ on := 20, ground := Ground.data }, { on := 28, ground := Ground.data }, { on := 17, ground := Ground.guard }], guard := some (17, false) }) (v := ?_) rfl (by as_aux_lemma => kernel_rfl) (by as_aux_lemma => kernel_rfl) (by as_aux_lemma => kernel_rfl) (fun _ _ _ h => h) (Or.inl ⟨by rfl, ?_⟩) (by assumption) ?_
                rotate_left
                · intro w' hSw
                  try dsimp only at hSw
                  go_simp
                  try with_reducible rfl
                try simp only [Act.put, List.setIfInBounds_toArray, List.set_cons_zero, List.set_cons_succ]
                refine wpAnyH_take (i := 30) (oi := { dst := some 46, op := Op.pick (Operand.tmp 33) (Operand.const (Value.bool true)) (Operand.tmp 45), type := 4, pos := "ref.go:50", after := #[{ on := 17, ground := Ground.data }, { on := 29, ground := Ground.data }], guard := none }) (v := ?_) rfl (by as_aux_lemma => kernel_rfl) (by as_aux_lemma => kernel_rfl) (by as_aux_lemma => kernel_rfl) (fun _ _ _ h => h) (Or.inl ⟨by rfl, ?_⟩) (by assumption) ?_
                rotate_left
                · intro w' hSw
                  try dsimp only at hSw
                  go_simp
                  try with_reducible rfl
                try simp only [Act.put, List.setIfInBounds_toArray, List.set_cons_zero, List.set_cons_succ]
                refine wpAnyH_take (i := 31) (oi := { dst := some 47, op := Op.move (Operand.tmp 46), type := 4, pos := "ref.go:50", after := #[{ on := 30, ground := Ground.data }, { on := 27, ground := Ground.chain }], guard := none }) (v := ?_) rfl (by as_aux_lemma => kernel_rfl) (by as_aux_lemma => kernel_rfl) (by as_aux_lemma => kernel_rfl) (fun _ _ _ h => h) (Or.inl ⟨by rfl, ?_⟩) (by assumption) ?_
                rotate_left
                · intro w' hSw
                  try dsimp only at hSw
                  go_simp
                  try with_reducible rfl
                try simp only [Act.put, List.setIfInBounds_toArray, List.set_cons_zero, List.set_cons_succ]
                refine wpAnyH_take (i := 32) (oi := { dst := some 48, op := Op.move (Operand.tmp 0), type := 22, pos := "ref.go:50", after := #[{ on := 31, ground := Ground.guard }], guard := some (31, false) }) (v := ?_) rfl (by as_aux_lemma => kernel_rfl) (by as_aux_lemma => kernel_rfl) (by as_aux_lemma => kernel_rfl) (fun _ _ _ h => h) (Or.inl ⟨by rfl, ?_⟩) (by assumption) ?_
                rotate_left
                · intro w' hSw
                  try dsimp only at hSw
                  go_simp
                  try with_reducible rfl
                try simp only [Act.put, List.setIfInBounds_toArray, List.set_cons_zero, List.set_cons_succ]
                refine wpAnyH_take (i := 33) (oi := { dst := some 49, op := Op.fieldAddr 68 (Operand.tmp 4) 0, type := 0, pos := "ref.go:50", after := #[{ on := 31, ground := Ground.guard }], guard := some (31, false) }) (v := ?_) rfl (by as_aux_lemma => kernel_rfl) (by as_aux_lemma => kernel_rfl) (by as_aux_lemma => kernel_rfl) (fun _ _ _ h => h) (Or.inl ⟨by rfl, ?_⟩) (by assumption) ?_
                rotate_left
                · intro w' hSw
                  try dsimp only at hSw
                  go_simp
                  try with_reducible rfl
                try simp only [Act.put, List.setIfInBounds_toArray, List.set_cons_zero, List.set_cons_succ]
                refine wpAnyH_take (i := 34) (oi := { dst := some 50, op := Op.load 9 (Operand.tmp 49), type := 9, pos := "ref.go:50", after := #[{ on := 33, ground := Ground.data }, { on := 31, ground := Ground.guard }], guard := some (31, false) }) (v := ?_) rfl (by as_aux_lemma => kernel_rfl) (by as_aux_lemma => kernel_rfl) (by as_aux_lemma => kernel_rfl) (fun _ _ _ h => h) (Or.inl ⟨by rfl, ?_⟩) (by assumption) ?_
                rotate_left
                · intro w' hSw
                  try dsimp only at hSw
                  go_simp
                  try with_reducible rfl
                try simp only [Act.put, List.setIfInBounds_toArray, List.set_cons_zero, List.set_cons_succ]
                refine wpAnyH_ready (rs := [35]) (by as_aux_lemma => kernel_rfl) (by simp) ?_
                refine AllReadyH.cons (o := { dst := some 51, op := Op.call { callee := Callee.value (Operand.func 35), args := #[Operand.tmp 48, Operand.tmp 50], argTypes := #[22, 9] }, type := 72, pos := "ref.go:50", after := #[{ on := 32, ground := Ground.data }, { on := 34, ground := Ground.data }, { on := 31, ground := Ground.chain }, { on := 31, ground := Ground.guard }], guard := some (31, false) }) rfl (fun Kx hK => ?_) AllReadyH.nil
                go_simp
                refine (rof_any (HV.out.later BD.out) HL.out xo).mono ?_
                rintro e w24 ⟨u24, rfl, h24, b24⟩
                obtain ⟨a24, k24, rfl⟩ := ownT_slice h24
                have BE := Lib.hid (below2S BD.out b24)
                have CE := Lib.hid (CD.out.later b24)
                have PE := Lib.hid (PD.out.later b24)
                clear b24 h24
                go_wp2_with fail
                refine hK.out _ _ ?_ (fun hHeld2 => ?_)
                · exact s14 (CE.out) (PE.out)
                clear hK Kx hHeld
                have hHeld := hHeld2
                clear hHeld2
                try simp only [Act.put, List.setIfInBounds_toArray, List.set_cons_zero, List.set_cons_succ]
                refine wpAnyH_take (i := 36) (oi := { dst := some 52, op := Op.call { callee := Callee.builtin Builtin.len, args := #[Operand.tmp 51], argTypes := #[72] }, type := 3, pos := "ref.go:50", after := #[{ on := 35, ground := Ground.data }, { on := 31, ground := Ground.guard }], guard := some (31, false) }) (v := ?_) rfl (by as_aux_lemma => kernel_rfl) (by as_aux_lemma => kernel_rfl) (by as_aux_lemma => kernel_rfl) (fun _ _ _ h => h) (Or.inl ⟨by rfl, ?_⟩) (by assumption) ?_
                rotate_left
                · intro w' hSw
                  try dsimp only at hSw
                  go_simp
                  try with_reducible rfl
                try simp only [Act.put, List.setIfInBounds_toArray, List.set_cons_zero, List.set_cons_succ]
                refine wpAnyH_take (i := 37) (oi := { dst := some 53, op := Op.binOp BinOp.gtr 3 (Operand.tmp 52) (Operand.const (Value.int IntKind.i64 16)) 3, type := 4, pos := "ref.go:50", after := #[{ on := 36, ground := Ground.data }, { on := 31, ground := Ground.guard }], guard := some (31, false) }) (v := ?_) rfl (by as_aux_lemma => kernel_rfl) (by as_aux_lemma => kernel_rfl) (by as_aux_lemma => kernel_rfl) (fun _ _ _ h => h) (Or.inl ⟨by rfl, ?_⟩) (by assumption) ?_
                rotate_left
                · intro w' hSw
                  try dsimp only at hSw
                  go_simp
                  try with_reducible rfl
                try simp only [Act.put, List.setIfInBounds_toArray, List.set_cons_zero, List.set_cons_succ]
                refine wpAnyH_take (i := 38) (oi := { dst := some 54, op := Op.pick (Operand.tmp 47) (Operand.const (Value.bool true)) (Operand.tmp 53), type := 4, pos := "ref.go:50", after := #[{ on := 31, ground := Ground.data }, { on := 37, ground := Ground.data }], guard := none }) (v := ?_) rfl (by as_aux_lemma => kernel_rfl) (by as_aux_lemma => kernel_rfl) (by as_aux_lemma => kernel_rfl) (fun _ _ _ h => h) (Or.inl ⟨by rfl, ?_⟩) (by assumption) ?_
                rotate_left
                · intro w' hSw
                  try dsimp only at hSw
                  go_simp
                  try with_reducible rfl
                try simp only [Act.put, List.setIfInBounds_toArray, List.set_cons_zero, List.set_cons_succ]
                refine wpAnyH_done (by kernel_rfl) ?_ _
                cases g with
                | true =>
                  have HR : roMayD l = false := roMayD_off hlt (by rw [HAt.out]; simp)
                  rw [h.out] at HR
                  subst HR
                  go_wp2_with fail
                  go_ret
                  exact ⟨rfl, BE.out⟩
                | false =>
                  obtain ⟨c0, c1, c2, c3, c4, c5, c6⟩ := CE.out
                  simp only [Nat.zero_add] at c0 c1 c2 c3 c4 c5 c6
                  go_wp2_with fail
                  refine (rget8_eq (HV.out.later BE.out) xc xo FG).mono ?_
                  rintro e w7 ⟨rfl, b7⟩
                  have b8 := below2S b7 (bl_newZ w7 (.cells #[.bool i1, .bool i2, .bool i3, .bool i4, .bool i5] 66))
                  have D5 := Lib.hid (itAt_made w7 ⟨i1, i2, i3, i4, i5⟩ w7.heap.size rfl)
                  replace BE := Lib.hid (below2S BE.out b8)
                  replace CE := Lib.hid (CE.out.later b8)
                  clear b7 b8 c0 c1 c2 c3 c4 c5 c6
                  obtain ⟨c0, c1, c2, c3, c4, c5, c6⟩ := CE.out
                  obtain ⟨d0, d1, d2, d3, d4⟩ := D5.out
                  simp only [Nat.zero_add] at c0 c1 c2 c3 c4 c5 c6
                  go_wp2_with fail
                  have RH := rhas_any (HV.out.later BE.out) xc xo
                  rw [FH.out] at RH
                  refine RH.mono ?_
                  rintro e w8 ⟨rfl, rfl⟩
                  clear RH
                  cases hh with
                  | false =>
                    have HR : roMayD l = false := roMayD_off hlt (by rw [HAt.out]; simp)
                    rw [h.out] at HR
                    subst HR
                    go_wp2_with fail
                    go_ret
                    exact ⟨rfl, BE.out⟩
                  | true =>
                    go_wp2_with fail
                    refine (MM.out _).mono ?_
                    rintro e w9 ⟨rfl, b9⟩
                    replace BE := Lib.hid (below2S BE.out b9)
                    replace CE := Lib.hid (CE.out.later b9)
                    replace D5 := Lib.hid (D5.out.later b9)
                    clear b9 c0 c1 c2 c3 c4 c5 c6 d0 d1 d2 d3 d4
                    obtain ⟨c0, c1, c2, c3, c4, c5, c6⟩ := CE.out
                    obtain ⟨d0, d1, d2, d3, d4⟩ := D5.out
                    simp only [Nat.zero_add] at c0 c1 c2 c3 c4 c5 c6
                    cases m with
                    | false =>
                      have HR : roMayD l = false := roMayD_off hlt (by rw [HAt.out]; simp)
                      rw [h.out] at HR
                      subst HR
                      go_wp2_with fail
                      go_ret
                      exact ⟨rfl, BE.out⟩
                    | true =>
                      go_wp2_with fail
                      refine (MZ.out _).mono ?_
                      rintro e w10 ⟨rfl, b10⟩
                      replace BE := Lib.hid (below2S BE.out b10)
                      replace D5 := Lib.hid (D5.out.later b10)
                      clear b10 c0 c1 c2 c3 c4 c5 c6 d0 d1 d2 d3 d4
                      obtain ⟨d0, d1, d2, d3, d4⟩ := D5.out
                      cases z with
                      | false =>
                        have HA2 := Lib.hid (roDoc_next HA.out (by rw [HAt.out]; simp))
                        clear d0 d1 d2 d3 d4
                        go_wp2_with fail
                        go_roundw
                        case rel => exact ⟨j + 1 + 1, by omega, by go_num, BE, HA2⟩
                        case measure => simp [intOf]; omega
                      | true =>
                        go_wp2_with fail
                        refine (MY.out _).mono ?_
                        rintro e w11 ⟨rfl, b11⟩
                        replace BE := Lib.hid (below2S BE.out b11)
                        clear b11 d0 d1 d2 d3 d4
                        cases y with
                        | true =>
                          have HR : roMayD l = false := roMayD_off hlt (by rw [HAt.out]; simp)
                          rw [h.out] at HR
                          subst HR
                          go_wp2_with fail
                          go_ret
                          exact ⟨rfl, BE.out⟩
                        | false =>
                          have HA2 := Lib.hid (roDoc_next HA.out (by rw [HAt.out]; simp))
                          go_wp2_with fail
                          go_roundw
                          case rel => exact ⟨j + 1 + 1, by omega, by go_num, BE, HA2⟩
                          case measure => simp [intOf]; omega
    · obtain rfl : k = l.length := by omega
      have HR : roMayD l = true := HA.out
      rw [h.out] at HR
      subst HR
      go_wp2_with fail
      go_ret
      exact ⟨rfl, HB.out⟩

end Go.Proofs.YthfkfonfiejbmaaGreat

end

section

/-
  LAYER 9: the key of a session; whether one stands ahead; whether one may be: the code's, and the document's.
-/
namespace Go.Proofs.YthfkfonfiejbmaaGreat
open Go.RowKit

set_option maxHeartbeats 800000 in
set_option maxRecDepth 100000 in
theorem keyOf_any (u st : List UInt8) (id a b c : Int) (w : World) :
    Calls Tryz.prog 71 #[.agg #[.string ⟨u.toArray⟩, .int .i64 id, .int .i64 a, .int .i64 b, .int .i64 c, .string ⟨st.toArray⟩]] w fun e w' => e = .returned (.agg #[.string ⟨u.toArray⟩, .int .i64 id]) ∧ Below w.heap.size w w' := by
  go_enter Tryz.func71, Tryz.ntmps71
  go_wp2_with fail
  refine bodyPost_ret (v := .agg #[.string ⟨u.toArray⟩, .int .i64 id]) (by simp [results, Tryz.results71, go_sem]) rfl ⟨rfl, ?_⟩
  repeat (first | exact Below.refl _ _ | refine Below.setCell ?_ (by first | (simp; done) | (simp; omega)) _ | refine Below.alloc ?_ (by first | (simp; done) | (simp; omega)) _)

set_option maxHeartbeats 800000 in
set_option maxRecDepth 100000 in
theorem isAhead_any (u u' : List UInt8) (i i' : Int) {r : Bool} (h : Hid (seLt ⟨u, i, Val.zero⟩ ⟨u', i', Val.zero⟩ = r)) (w : World) :
    Calls Tryz.prog 92 #[.agg #[.string ⟨u.toArray⟩, .int .i64 i], .agg #[.string ⟨u'.toArray⟩, .int .i64 i']] w fun e w' => e = .returned (.bool r) ∧ Below w.heap.size w w' := by
  have B0 : Hid (Below w.heap.size w ((w.alloc (.cells #[.string ⟨u.toArray⟩, .int .i64 i] 115)).alloc (.cells #[.string ⟨u'.toArray⟩, .int .i64 i'] 115))) := Lib.hid (((Below.refl _ _).alloc (Nat.le_refl _) _).alloc (by simp) _)
  by_cases hu : u = u'
  · subst hu
    have hr : decide (i < i') = r := by
      rw [← h.out]
      unfold seLt
      simp [idLess_irrefl]
    clear h
    go_enter Tryz.func92, Tryz.ntmps92
    go_wp2_with fail
    go_ret
    exact ⟨rfl, B0.out⟩
  · have t1 : (u != u') = true := by rw [bne_iff_ne]; exact hu
    have t2 : (u == u') = false := by rw [beq_eq_false_iff_ne]; exact hu
    have HL : Hid (idLess u u' = r) := by
      show _ = _
      rw [← h.out]
      unfold seLt
      simp [hu]
    clear h hu
    go_enter Tryz.func92, Tryz.ntmps92
    go_wp2_with fail
    refine (less_eq u u' HL _).mono ?_
    rintro e w1 ⟨rfl, b⟩
    have B1 := Lib.hid (below2Z B0.out b)
    clear b
    go_wp2_with fail
    go_ret
    exact ⟨rfl, B1.out⟩

/-- What a session may be, part by part. -/
theorem seOne_cases (u st : List UInt8) (id a b c : Int) :
    (idIs u = false ∧ seOne ⟨u, id, ⟨a, b, c, st⟩⟩ = false) ∨ (idIs u = true ∧ id < 0 ∧ seOne ⟨u, id, ⟨a, b, c, st⟩⟩ = false) ∨ (idIs u = true ∧ 0 ≤ id ∧ 4 ≤ id ∧ seOne ⟨u, id, ⟨a, b, c, st⟩⟩ = false) ∨
    (idIs u = true ∧ 0 ≤ id ∧ id < 4 ∧ seOne ⟨u, id, ⟨a, b, c, st⟩⟩ = vaMay ⟨a, b, c, st⟩) := by
  unfold seOne
  cases hu : idIs u with
  | false => exact .inl ⟨rfl, by simp⟩
  | true =>
    by_cases h0 : 0 ≤ id
    · by_cases h4 : id < 4
      · exact .inr (.inr (.inr ⟨rfl, h0, h4, by simp [h0, h4]⟩))
      · exact .inr (.inr (.inl ⟨rfl, h0, by omega, by simp [h4]⟩))
    · exact .inr (.inl ⟨rfl, by omega, by simp [h0]⟩)

set_option maxHeartbeats 1600000 in
set_option maxRecDepth 100000 in
theorem mayBe_any (u st : List UInt8) (id a b c : Int) (hu : u.length ≤ 4294967296) (hst : st.length ≤ 4294967296) {r : Bool} (h : Hid (seOne ⟨u, id, ⟨a, b, c, st⟩⟩ = r)) (w : World) :
    Calls Tryz.prog 69 #[.agg #[.string ⟨u.toArray⟩, .int .i64 id, .int .i64 a, .int .i64 b, .int .i64 c, .string ⟨st.toArray⟩]] w fun e w' => e = .returned (.bool r) ∧ Below w.heap.size w w' := by
  have B0 := Lib.hid (bl_newZ w (.cells #[.string ⟨u.toArray⟩, .int .i64 id, .int .i64 a, .int .i64 b, .int .i64 c, .string ⟨st.toArray⟩] 62))
  have HC := Lib.hid (cellsAt_made (w := w) (cs := #[.string ⟨u.toArray⟩, .int .i64 id, .int .i64 a, .int .i64 b, .int .i64 c, .string ⟨st.toArray⟩]) (vs := sesVals ⟨u, id, ⟨a, b, c, st⟩⟩) rfl 62 rfl)
  rcases seOne_cases u st id a b c with ⟨h1, h2⟩ | ⟨h1, h3, h2⟩ | ⟨h1, h3, h4, h2⟩ | ⟨h1, h3, h4, h2⟩
  · have hI := Lib.hid (is_any u hu)
    rw [h1] at hI
    rw [h.out] at h2
    subst h2
    clear h h1
    go_enter Tryz.func69, Tryz.ntmps69
    go_wp2_with fail
    refine (hI.out _).mono ?_
    rintro e w1 ⟨rfl, b⟩
    have B1 := Lib.hid (below2Z B0.out b)
    obtain ⟨c0, c1, c2, c3, c4, c5⟩ := cells6 (HC.out.later b)
    simp only [Nat.zero_add] at c0 c1 c2 c3 c4 c5
    clear b
    go_wp2_with fail
    go_ret
    exact ⟨rfl, B1.out⟩
  · have hI := Lib.hid (is_any u hu)
    rw [h1] at hI
    rw [h.out] at h2
    subst h2
    have t1 : decide (0 ≤ id) = false := by simpa using h3
    clear h h1
    go_enter Tryz.func69, Tryz.ntmps69
    go_wp2_with fail
    refine (hI.out _).mono ?_
    rintro e w1 ⟨rfl, b⟩
    have B1 := Lib.hid (below2Z B0.out b)
    obtain ⟨c0, c1, c2, c3, c4, c5⟩ := cells6 (HC.out.later b)
    simp only [Nat.zero_add] at c0 c1 c2 c3 c4 c5
    clear b
    go_wp2_with fail
    go_ret
    exact ⟨rfl, B1.out⟩
  · have hI := Lib.hid (is_any u hu)
    rw [h1] at hI
    rw [h.out] at h2
    subst h2
    have t1 : decide (0 ≤ id) = true := by simpa using h3
    have t2 : decide (id < 4) = false := by simpa using h4
    clear h h1
    go_enter Tryz.func69, Tryz.ntmps69
    go_wp2_with fail
    refine (hI.out _).mono ?_
    rintro e w1 ⟨rfl, b⟩
    have B1 := Lib.hid (below2Z B0.out b)
    obtain ⟨c0, c1, c2, c3, c4, c5⟩ := cells6 (HC.out.later b)
    simp only [Nat.zero_add] at c0 c1 c2 c3 c4 c5
    clear b
    go_wp2_with fail
    go_ret
    exact ⟨rfl, B1.out⟩
  · have hI := Lib.hid (is_any u hu)
    rw [h1] at hI
    rw [h.out] at h2
    have hV := Lib.hid (may_any a b c st hst)
    rw [← h2] at hV
    have t1 : decide (0 ≤ id) = true := by simpa using h3
    have t2 : decide (id < 4) = true := by simpa using h4
    clear h h1 h2
    go_enter Tryz.func69, Tryz.ntmps69
    go_wp2_with fail
    refine (hI.out _).mono ?_
    rintro e w1 ⟨rfl, b⟩
    have B1 := Lib.hid (below2Z B0.out b)
    obtain ⟨c0, c1, c2, c3, c4, c5⟩ := cells6 (HC.out.later b)
    simp only [Nat.zero_add] at c0 c1 c2 c3 c4 c5
    clear b
    go_wp2_with fail
    refine (hV.out _).mono ?_
    rintro e w2 ⟨rfl, b⟩
    have B2 := Lib.hid (below2Z B1.out b)
    clear b
    go_wp2_with fail
    go_ret
    exact ⟨rfl, B2.out⟩

end Go.Proofs.YthfkfonfiejbmaaGreat

end

section

/-
  LAYER 9, THE CODE: find, and place.
-/
namespace Go.Proofs.YthfkfonfiejbmaaGreat
open Go.RowKit

/-- What find tells. -/
def seFind (l : List Ses) (x : Ses) : Nat × Bool := match findO seIs l x with | some i => (i, true) | none => (0, false)

theorem seFind_yes {l : List Ses} {x : Ses} {k : Nat} (hk : k < l.length) (hn : ∀ j, j < k → seIs (l.getD j Ses.zero) x = false) (hs : seIs (l.getD k Ses.zero) x = true) : seFind l x = (k, true) := by
  unfold seFind
  rw [findO_of hk (by rw [← sgetD hk]; exact hs) (fun j hj => by rw [← sgetD (by omega : j < l.length)]; exact hn j hj)]

theorem seFind_no {l : List Ses} {x : Ses} (hn : ∀ j, j < l.length → seIs (l.getD j Ses.zero) x = false) : seFind l x = (0, false) := by
  unfold seFind
  rw [findO_of_none (fun y hy => by obtain ⟨i, hi, rfl⟩ := List.getElem_of_mem hy; rw [← sgetD hi]; exact hn i hi)]

theorem seFind_some {l : List Ses} {x : Ses} {k : Nat} (h : findO seIs l x = some k) : seFind l x = (k, true) := by unfold seFind; rw [h]
theorem seFind_none {l : List Ses} {x : Ses} (h : findO seIs l x = none) : seFind l x = (0, false) := by unfold seFind; rw [h]

/-- Two cells of a block. -/
theorem cells2k {w : World} {b o : Nat} {x y : Value} (h : CellsAt w b o [x, y]) : w.cell? ⟨b, o, none⟩ = some x ∧ w.cell? ⟨b, o + 1, none⟩ = some y := ⟨h 0 _ rfl, h 1 _ rfl⟩

set_option maxHeartbeats 1600000 in
set_option maxRecDepth 100000 in
theorem sefind_any {w : World} {v : Value} {l : List Ses} (hv : Sess w v l) (u : List UInt8) (id : Int) {i : Nat} {b : Bool} (h : Hid (seFind l (keyS u id) = (i, b))) :
    Calls Tryz.prog 70 #[v, .agg #[.string ⟨u.toArray⟩, .int .i64 id]] w fun e w' => e = .returned (.tuple #[.int .i64 i, .bool b]) ∧ Below w.heap.size w w' := by
  have HV := Lib.hid hv
  obtain ⟨a, cap, rfl, hm⟩ := hv.open'
  have HX := Lib.hid (cellsAt_made (w := w) (cs := #[.string ⟨u.toArray⟩, .int .i64 id]) (vs := [.string ⟨u.toArray⟩, .int .i64 id]) rfl 115 rfl)
  have B0 := Lib.hid (bl_newZ w (.cells #[.string ⟨u.toArray⟩, .int .i64 id] 115))
  clear hv
  go_enter Tryz.func70, Tryz.ntmps70
  go_wp2_with fail
  go_loopw [10] (fun i wr => ∃ k : Nat, k ≤ l.length ∧ i = .int .i64 k ∧ Hid (Below w.heap.size w wr) ∧ Hid (CellsAt wr w.heap.size 0 [.string ⟨u.toArray⟩, .int .i64 id]) ∧ Hid (∀ j, j < k → seIs (l.getD j Ses.zero) (keyS u id) = false)) (fun i _ => l.length - (intOf i).toNat)
  case atStart => exact ⟨0, by omega, rfl, B0, HX, by show ∀ _, _; intro j hj; omega⟩
  case round =>
    obtain ⟨k, hk, rfl, HB, HC, HN⟩ := hrel
    by_cases hlt : k < l.length
    · obtain ⟨bk, off, rfl, hc⟩ := HV.out.row HB.out k hlt
      obtain ⟨⟨eu, ei, ⟨ea, eb, ec, es⟩⟩, hr⟩ : ∃ r, l.getD k Ses.zero = r := ⟨_, rfl⟩
      rw [hr] at hc
      obtain ⟨h0, h1, h2, h3, h4, h5⟩ := cells6 hc
      try simp only at h0 h1 h2 h3 h4 h5
      have bn := bl_newZ wr (.cells #[.string ⟨eu.toArray⟩, .int .i64 ei, .int .i64 ea, .int .i64 eb, .int .i64 ec, .string ⟨es.toArray⟩] 62)
      have C1 := Lib.hid (cellsAt_made (w := wr) (cs := #[.string ⟨eu.toArray⟩, .int .i64 ei, .int .i64 ea, .int .i64 eb, .int .i64 ec, .string ⟨es.toArray⟩]) (vs := sesVals ⟨eu, ei, ⟨ea, eb, ec, es⟩⟩) rfl 62 rfl)
      have B1 := Lib.hid (below2Z HB.out bn)
      have HC1 := Lib.hid (HC.out.later bn)
      have HK := Lib.hid (keyOf_any eu es ei ea eb ec)
      obtain ⟨q, hq⟩ : ∃ q, seIs ⟨eu, ei, ⟨ea, eb, ec, es⟩⟩ (keyS u id) = q := ⟨_, rfl⟩
      have he : ∀ w, (binOp .eql 115 (.agg #[.string ⟨eu.toArray⟩, .int .i64 ei]) (.agg #[.string ⟨u.toArray⟩, .int .i64 id])).run Tryz.prog w = .ok (.bool q) w := fun w => by rw [key_eql, ← hq]; rfl
      have HQ : Hid (seIs (l.getD k Ses.zero) (keyS u id) = q) := by show _ = _; rw [hr]; exact hq
      clear hr hq hc bn
      go_wp2_with fail
      obtain ⟨q0, q1, q2, q3, q4, q5⟩ := cells6_regrown C1.out
      obtain ⟨y0, y1⟩ := cells2k HC1.out
      simp only [Nat.zero_add] at q0 q1 q2 q3 q4 q5 y0 y1
      replace y0 := cell_regrown y0
      replace y1 := cell_regrown y1
      clear h0 h1 h2 h3 h4 h5
      refine wp_region_quiet_below (by kernel_rfl) (by kernel_rfl) ?_
      repeat (go_big_quiet_step (with_reducible exact rgB HK.out _ _ _))
      refine wpQuiet_nil ?_
      intro w5 hw5
      have b5 := regrownZ hw5
      have B5 := Lib.hid (below2Z B1.out b5)
      have HC5 := Lib.hid (HC1.out.later b5)
      clear hw5 b5 q0 q1 q2 q3 q4 q5 y0 y1
      cases q with
      | true =>
        have HR := seFind_yes hlt HN.out HQ.out
        rw [h.out] at HR
        simp only [Prod.mk.injEq] at HR
        obtain ⟨rfl, rfl⟩ := HR
        go_wp2_with fail
        go_ret2
        exact ⟨rfl, B5.out⟩
      | false =>
        have HN2 : Hid (∀ j, j < k + 1 → seIs (l.getD j Ses.zero) (keyS u id) = false) := by
          show ∀ _, _
          intro j hj
          by_cases e : j = k
          · rw [e]; exact HQ.out
          · exact HN.out j (by omega)
        clear HQ
        go_wp2_with fail
        go_roundw
        case rel => exact ⟨k + 1, by omega, by go_num, B5, HC5, HN2⟩
        case measure => simp [intOf]; omega
    · obtain rfl : k = l.length := by omega
      have HR := seFind_no HN.out
      rw [h.out] at HR
      simp only [Prod.mk.injEq] at HR
      obtain ⟨rfl, rfl⟩ := HR
      go_wp2_with fail
      go_ret2
      exact ⟨rfl, HB.out⟩

theorem place_on {l : List Ses} {x : Ses} {k : Nat} (hr : RiseO seLt l) (hn : ∀ j, j < k → seLt (l.getD j Ses.zero) x = true) (hk : k < l.length) (hs : seLt (l.getD k Ses.zero) x = false) : placeO seLt l x = k := by
  rcases Nat.lt_trichotomy (placeO seLt l x) k with h | h | h
  · have h1 := hn _ h
    rw [sgetD (by omega)] at h1
    have h2 := placeO_behind seOrd hr (x := x) (k := placeO seLt l x) (by omega) (Nat.le_refl _)
    rw [h1] at h2; cases h2
  · exact h
  · have h1 := placeO_ahead h
    rw [← sgetD hk, hs] at h1; cases h1

theorem place_end {l : List Ses} {x : Ses} (hr : RiseO seLt l) (hn : ∀ j, j < l.length → seLt (l.getD j Ses.zero) x = true) : placeO seLt l x = l.length := by
  have hle := placeO_le (lt := seLt) l x
  rcases Nat.lt_or_ge (placeO seLt l x) l.length with h | h
  · have h1 := hn _ h
    rw [sgetD h] at h1
    have h2 := placeO_behind seOrd hr (x := x) h (Nat.le_refl _)
    rw [h1] at h2; cases h2
  · omega

set_option maxHeartbeats 1600000 in
set_option maxRecDepth 100000 in
theorem seplace_any {w : World} {v : Value} {l : List Ses} (hv : Sess w v l) (hr : RiseO seLt l) (u : List UInt8) (id : Int) {i : Nat} (h : Hid (placeO seLt l (keyS u id) = i)) :
    Calls Tryz.prog 74 #[v, .agg #[.string ⟨u.toArray⟩, .int .i64 id]] w fun e w' => e = .returned (.int .i64 i) ∧ Below w.heap.size w w' := by
  have HV := Lib.hid hv
  have HO := Lib.hid hr
  obtain ⟨a, cap, rfl, hm⟩ := hv.open'
  have HX := Lib.hid (cellsAt_made (w := w) (cs := #[.string ⟨u.toArray⟩, .int .i64 id]) (vs := [.string ⟨u.toArray⟩, .int .i64 id]) rfl 115 rfl)
  have B0 := Lib.hid (bl_newZ w (.cells #[.string ⟨u.toArray⟩, .int .i64 id] 115))
  clear hv hr
  go_enter Tryz.func74, Tryz.ntmps74
  go_wp2_with fail
  go_loopw [5] (fun i wr => ∃ k : Nat, k ≤ l.length ∧ i = .int .i64 k ∧ Hid (Below w.heap.size w wr) ∧ Hid (CellsAt wr w.heap.size 0 [.string ⟨u.toArray⟩, .int .i64 id]) ∧ Hid (∀ j, j < k → seLt (l.getD j Ses.zero) (keyS u id) = true)) (fun i _ => l.length - (intOf i).toNat)
  case atStart => exact ⟨0, by omega, rfl, B0, HX, by show ∀ _, _; intro j hj; omega⟩
  case round =>
    obtain ⟨k, hk, rfl, HB, HC, HN⟩ := hrel
    by_cases hlt : k < l.length
    · obtain ⟨bk, off, rfl, hc⟩ := HV.out.row HB.out k hlt
      obtain ⟨⟨eu, ei, ⟨ea, eb, ec, es⟩⟩, hr⟩ : ∃ r, l.getD k Ses.zero = r := ⟨_, rfl⟩
      rw [hr] at hc
      obtain ⟨q0, q1, q2, q3, q4, q5⟩ := cells6_regrown hc
      try simp only at q0 q1 q2 q3 q4 q5
      obtain ⟨y0, y1⟩ := cells2k HC.out
      simp only [Nat.zero_add] at y0 y1
      replace y0 := cell_regrown y0
      replace y1 := cell_regrown y1
      have HK := Lib.hid (keyOf_any eu es ei ea eb ec)
      obtain ⟨q, hq⟩ : ∃ q, seLt ⟨eu, ei, ⟨ea, eb, ec, es⟩⟩ (keyS u id) = q := ⟨_, rfl⟩
      have HA := Lib.hid (isAhead_any eu u ei id (r := q) (Lib.hid (by rw [← hq]; rfl)))
      have HQ : Hid (seLt (l.getD k Ses.zero) (keyS u id) = q) := by show _ = _; rw [hr]; exact hq
      have t0 : decide ((k : Int) < (l.length : Int)) = true := by simp; omega
      have t1 : (0 : Int) ≤ (k : Int) := by omega
      have t2 : (k : Int) < (l.length : Int) := by omega
      clear hr hq hc
      go_wp2_with fail
      refine wp_region_quiet_below (by kernel_rfl) (by kernel_rfl) ?_
      repeat (go_big_quiet_step (first | with_reducible exact rgB HK.out _ _ _ | with_reducible exact rgB HA.out _ _ _))
      refine wpQuiet_nil ?_
      intro w5 hw5
      have b5 := regrownZ hw5
      have B5 := Lib.hid (below2Z HB.out b5)
      have HC5 := Lib.hid (HC.out.later b5)
      clear hw5 b5 q0 q1 q2 q3 q4 q5 y0 y1
      cases q with
      | true =>
        have HN2 : Hid (∀ j, j < k + 1 → seLt (l.getD j Ses.zero) (keyS u id) = true) := by
          show ∀ _, _
          intro j hj
          by_cases e : j = k
          · rw [e]; exact HQ.out
          · exact HN.out j (by omega)
        clear HQ
        go_wp2_with fail
        go_roundw
        case rel => exact ⟨k + 1, by omega, by go_num, B5, HC5, HN2⟩
        case measure => simp [intOf]; omega
      | false =>
        have HR := place_on HO.out HN.out hlt HQ.out
        rw [h.out] at HR
        subst HR
        go_wp2_with fail
        go_ret
        exact ⟨rfl, B5.out⟩
    · obtain rfl : k = l.length := by omega
      have HR := place_end HO.out HN.out
      rw [h.out] at HR
      subst HR
      have t0 : decide ((l.length : Int) < (l.length : Int)) = false := by simp
      go_wp2_with fail
      refine wp_region_quiet_below (by kernel_rfl) (by kernel_rfl) ?_
      repeat (go_big_quiet_step (fail))
      refine wpQuiet_nil ?_
      intro w5 hw5
      have B5 := Lib.hid (below2Z HB.out (regrownZ hw5))
      clear hw5
      go_wp2_with fail
      go_ret
      exact ⟨rfl, B5.out⟩

end Go.Proofs.YthfkfonfiejbmaaGreat

end
