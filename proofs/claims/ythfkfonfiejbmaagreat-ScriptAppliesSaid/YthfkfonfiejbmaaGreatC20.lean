/-
  TEXTS OF THE PROOF, one behind the other: StaSame.
-/
import Derived.Test.YthfkfonfiejbmaaGreatC18
import Derived.Test.YthfkfonfiejbmaaGreatC16
import Derived.Test.YthfkfonfiejbmaaGreatC19

/-
  LAYER 14: Same of the code (slices.Equal) and of the document; Few, Short.
-/
namespace Go.Proofs.YthfkfonfiejbmaaGreat
open Go.RowKit

def entSame (a b : Ent) : Bool := (a.o == b.o) && ((a.c == b.c) && itSame a.it b.it)

theorem entSame_iff {a b : Ent} : entSame a b = true ↔ a = b := by
  obtain ⟨ao, ac, ai⟩ := a
  obtain ⟨bo, bc, bi⟩ := b
  unfold entSame
  simp only [Bool.and_eq_true, beq_iff_eq, itSame_iff, Ent.mk.injEq]

def entsSame (a b : List Ent) : Bool := (a.length == b.length) && (List.range a.length).all fun i => entSame (a.getD i Ent.zero) (b.getD i Ent.zero)

def staSame (t s : Sta) : Bool := entsSame t.e s.e && sessSame t.s s.s

theorem ent_eqG (d : Nat) (xo xc : List UInt8) (x1 x2 x3 x4 x5 : Bool) (yo yc : List UInt8) (y1 y2 y3 y4 y5 : Bool) (w : World) :
    (Op.equalIn (d + 1 + 1 + 1) 68 (.agg #[.string ⟨xo.toArray⟩, .string ⟨xc.toArray⟩, .bool x1, .bool x2, .bool x3, .bool x4, .bool x5]) (.agg #[.string ⟨yo.toArray⟩, .string ⟨yc.toArray⟩, .bool y1, .bool y2, .bool y3, .bool y4, .bool y5])).run Tryz.prog w = .ok (entSame ⟨xo, xc, ⟨x1, x2, x3, x4, x5⟩⟩ ⟨yo, yc, ⟨y1, y2, y3, y4, y5⟩⟩) w := by
  have hS : Tryz.prog.underlying 68 = some (.struct (Tryz.prog.fieldsOf 68)) := by kernel_rfl
  have hp : Tryz.prog.stoodInHeld 68 = false := by kernel_rfl
  have u9 := Tryz.underlying9
  have a9 := Tryz.isAgg9
  have z9 := Tryz.sizeOf9
  have a3 := Tryz.isAgg66
  have z3 := Tryz.sizeOf66
  have hi := fun w => item_eqIn d x1 x2 x3 x4 x5 y1 y2 y3 y4 y5 w
  have e1 : ∀ b : Bool, (xo == yo) = b → (xc == yc) = b → True := fun _ _ _ => trivial
  clear e1
  rw [run_equalIn_agg w (d + 1 + 1) 68 _ _ hS hp]
  simp only [Program.fieldsOf, Tryz.underlying68]
  unfold entSame
  by_cases h1 : xo = yo
  · subst h1
    by_cases h2 : xc = yc
    · subst h2
      go_simp
      generalize itSame ⟨x1, x2, x3, x4, x5⟩ ⟨y1, y2, y3, y4, y5⟩ = q
      cases q <;> simp
    · have t2 : (xc == yc) = false := by rw [beq_eq_false_iff_ne]; exact h2
      go_simp
  · have t1 : (xo == yo) = false := by rw [beq_eq_false_iff_ne]; exact h1
    go_simp

theorem ent_neqG (xo xc : List UInt8) (x1 x2 x3 x4 x5 : Bool) (yo yc : List UInt8) (y1 y2 y3 y4 y5 : Bool) (w : World) :
    (binOp .neq 68 (.agg #[.string ⟨xo.toArray⟩, .string ⟨xc.toArray⟩, .bool x1, .bool x2, .bool x3, .bool x4, .bool x5]) (.agg #[.string ⟨yo.toArray⟩, .string ⟨yc.toArray⟩, .bool y1, .bool y2, .bool y3, .bool y4, .bool y5])).run Tryz.prog w = .ok (.bool (!entSame ⟨xo, xc, ⟨x1, x2, x3, x4, x5⟩⟩ ⟨yo, yc, ⟨y1, y2, y3, y4, y5⟩⟩)) w := by
  rw [run_neq_struct, show (10000 : Nat) = 9997 + 1 + 1 + 1 from rfl, ent_eqG 9997]
  rfl

set_option maxHeartbeats 1600000 in
set_option maxRecDepth 100000 in
theorem eqEnts_any {w : World} {v u : Value} {l m : List Ent} (hv : Ents w v l) (hu : Ents w u m) {r : Bool} (h : Hid (entsSame l m = r)) :
    Calls Tryz.prog 31 #[v, u] w fun e w' => e = .returned (.bool r) ∧ Below w.heap.size w w' := by
  have HV := Lib.hid hv
  have HU := Lib.hid hu
  obtain ⟨a, cap, rfl, _⟩ := hv.open'
  obtain ⟨a2, cap2, rfl, _⟩ := hu.open'
  clear hv hu
  by_cases hln : l.length = m.length
  · have t0 : ((l.length : Int) != (m.length : Int)) = false := by rw [hln]; simp
    go_enter Tryz.func31, Tryz.ntmps31
    go_wp2_with fail
    go_loopw [13] (fun i wr => ∃ k : Nat, k ≤ l.length ∧ i = .int .i64 k ∧ Hid (Below w.heap.size w wr) ∧ Hid ((List.range k).all (fun i => entSame (l.getD i Ent.zero) (m.getD i Ent.zero)) = true)) (fun i _ => l.length - (intOf i).toNat)
    case atStart => exact ⟨0, by omega, rfl, Below.refl _ _, rfl⟩
    case round =>
      obtain ⟨k, hk, rfl, HB, HA⟩ := hrel
      by_cases hlt : k < l.length
      · have hltm : k < m.length := by omega
        obtain ⟨b, off, rfl, hc⟩ := HV.out.row HB.out k hlt
        obtain ⟨b2, off2, rfl, hd⟩ := HU.out.row HB.out k hltm
        obtain ⟨⟨eo, ec, ⟨x1, x2, x3, x4, x5⟩⟩, hr⟩ : ∃ r, l.getD k Ent.zero = r := ⟨_, rfl⟩
        obtain ⟨⟨fo, fc, ⟨y1, y2, y3, y4, y5⟩⟩, hr2⟩ : ∃ r, m.getD k Ent.zero = r := ⟨_, rfl⟩
        rw [hr] at hc
        rw [hr2] at hd
        obtain ⟨p0, p1, p2, p3, p4, p5, p6⟩ := cells7_regrown hc
        obtain ⟨q0, q1, q2, q3, q4, q5, q6⟩ := cells7_regrown hd
        try simp only at p0 p1 p2 p3 p4 p5 p6 q0 q1 q2 q3 q4 q5 q6
        obtain ⟨q, hq⟩ : ∃ q, entSame ⟨eo, ec, ⟨x1, x2, x3, x4, x5⟩⟩ ⟨fo, fc, ⟨y1, y2, y3, y4, y5⟩⟩ = q := ⟨_, rfl⟩
        have he := fun w => ent_neqG eo ec x1 x2 x3 x4 x5 fo fc y1 y2 y3 y4 y5 w
        rw [hq] at he
        have HQ : Hid (entSame (l.getD k Ent.zero) (m.getD k Ent.zero) = q) := by show _ = _; rw [hr, hr2]; exact hq
        have hnn : (0 : Int) ≤ (k : Int) := by omega
        have hli : (k : Int) < (l.length : Int) := by omega
        have hlm : (k : Int) < (m.length : Int) := by omega
        clear hr hr2 hq hc hd
        go_wp2_with fail
        refine wp_region_quiet_below (by kernel_rfl) (by kernel_rfl) ?_
        repeat (go_big_quiet_step (fail))
        refine wpQuiet_nil ?_
        intro w5 hw5
        have B5 := Lib.hid (below2Z HB.out (regrownZ hw5))
        clear hw5 p0 p1 p2 p3 p4 p5 p6 q0 q1 q2 q3 q4 q5 q6
        cases q with
        | false =>
          have HR : entsSame l m = false := by
            unfold entsSame
            rw [show (List.range l.length).all (fun i => entSame (l.getD i Ent.zero) (m.getD i Ent.zero)) = false from all_off hlt HQ.out, Bool.and_false]
          rw [h.out] at HR
          subst HR
          go_wp2_with fail
          go_ret
          exact ⟨rfl, B5.out⟩
        | true =>
          have HA2 : Hid ((List.range (k + 1)).all (fun i => entSame (l.getD i Ent.zero) (m.getD i Ent.zero)) = true) := all_next HA.out HQ.out
          clear HQ
          go_wp2_with fail
          go_roundw
          case rel => exact ⟨k + 1, by omega, by go_num, B5, HA2⟩
          case measure => simp [intOf]; omega
      · obtain rfl : k = l.length := by omega
        have HR : entsSame l m = true := by
          unfold entsSame
          rw [show (List.range l.length).all (fun i => entSame (l.getD i Ent.zero) (m.getD i Ent.zero)) = true from HA.out]
          simp [hln]
        rw [h.out] at HR
        subst HR
        go_wp2_with fail
        go_ret
        exact ⟨rfl, HB.out⟩
  · have t0 : ((l.length : Int) != (m.length : Int)) = true := by rw [bne_iff_ne]; omega
    have HR : entsSame l m = false := by
      unfold entsSame
      simp [hln]
    rw [h.out] at HR
    subst HR
    go_enter Tryz.func31, Tryz.ntmps31
    go_wp2_with fail
    go_ret
    exact ⟨rfl, Below.refl _ _⟩

set_option maxHeartbeats 1600000 in
set_option maxRecDepth 100000 in
theorem eqSess_any {w : World} {v u : Value} {l m : List Ses} (hv : Sess w v l) (hu : Sess w u m) {r : Bool} (h : Hid (sessSame l m = r)) :
    Calls Tryz.prog 32 #[v, u] w fun e w' => e = .returned (.bool r) ∧ Below w.heap.size w w' := by
  have HV := Lib.hid hv
  have HU := Lib.hid hu
  obtain ⟨a, cap, rfl, _⟩ := hv.open'
  obtain ⟨a2, cap2, rfl, _⟩ := hu.open'
  clear hv hu
  by_cases hln : l.length = m.length
  · have t0 : ((l.length : Int) != (m.length : Int)) = false := by rw [hln]; simp
    go_enter Tryz.func32, Tryz.ntmps32
    go_wp2_with fail
    go_loopw [13] (fun i wr => ∃ k : Nat, k ≤ l.length ∧ i = .int .i64 k ∧ Hid (Below w.heap.size w wr) ∧ Hid ((List.range k).all (fun i => sesSame (l.getD i Ses.zero) (m.getD i Ses.zero)) = true)) (fun i _ => l.length - (intOf i).toNat)
    case atStart => exact ⟨0, by omega, rfl, Below.refl _ _, rfl⟩
    case round =>
      obtain ⟨k, hk, rfl, HB, HA⟩ := hrel
      by_cases hlt : k < l.length
      · have hltm : k < m.length := by omega
        obtain ⟨b, off, rfl, hc⟩ := HV.out.row HB.out k hlt
        obtain ⟨b2, off2, rfl, hd⟩ := HU.out.row HB.out k hltm
        obtain ⟨⟨eu, ei, ⟨ea, eb, ec, es⟩⟩, hr⟩ : ∃ r, l.getD k Ses.zero = r := ⟨_, rfl⟩
        obtain ⟨⟨fu, fi, ⟨fa, fb, fc, fs⟩⟩, hr2⟩ : ∃ r, m.getD k Ses.zero = r := ⟨_, rfl⟩
        rw [hr] at hc
        rw [hr2] at hd
        obtain ⟨p0, p1, p2, p3, p4, p5⟩ := cells6_regrown hc
        obtain ⟨q0, q1, q2, q3, q4, q5⟩ := cells6_regrown hd
        try simp only at p0 p1 p2 p3 p4 p5 q0 q1 q2 q3 q4 q5
        obtain ⟨q, hq⟩ : ∃ q, sesSame ⟨eu, ei, ⟨ea, eb, ec, es⟩⟩ ⟨fu, fi, ⟨fa, fb, fc, fs⟩⟩ = q := ⟨_, rfl⟩
        have he := fun w => ses_neq eu fu ei ea eb ec fi fa fb fc es fs w
        rw [hq] at he
        have HQ : Hid (sesSame (l.getD k Ses.zero) (m.getD k Ses.zero) = q) := by show _ = _; rw [hr, hr2]; exact hq
        have hnn : (0 : Int) ≤ (k : Int) := by omega
        have hli : (k : Int) < (l.length : Int) := by omega
        have hlm : (k : Int) < (m.length : Int) := by omega
        clear hr hr2 hq hc hd
        go_wp2_with fail
        refine wp_region_quiet_below (by kernel_rfl) (by kernel_rfl) ?_
        repeat (go_big_quiet_step (fail))
        refine wpQuiet_nil ?_
        intro w5 hw5
        have B5 := Lib.hid (below2Z HB.out (regrownZ hw5))
        clear hw5 p0 p1 p2 p3 p4 p5 q0 q1 q2 q3 q4 q5
        cases q with
        | false =>
          have HR : sessSame l m = false := by
            unfold sessSame
            rw [show (List.range l.length).all (fun i => sesSame (l.getD i Ses.zero) (m.getD i Ses.zero)) = false from all_off hlt HQ.out, Bool.and_false]
          rw [h.out] at HR
          subst HR
          go_wp2_with fail
          go_ret
          exact ⟨rfl, B5.out⟩
        | true =>
          have HA2 : Hid ((List.range (k + 1)).all (fun i => sesSame (l.getD i Ses.zero) (m.getD i Ses.zero)) = true) := all_next HA.out HQ.out
          clear HQ
          go_wp2_with fail
          go_roundw
          case rel => exact ⟨k + 1, by omega, by go_num, B5, HA2⟩
          case measure => simp [intOf]; omega
      · obtain rfl : k = l.length := by omega
        have HR : sessSame l m = true := by
          unfold sessSame
          rw [show (List.range l.length).all (fun i => sesSame (l.getD i Ses.zero) (m.getD i Ses.zero)) = true from HA.out]
          simp [hln]
        rw [h.out] at HR
        subst HR
        go_wp2_with fail
        go_ret
        exact ⟨rfl, HB.out⟩
  · have t0 : ((l.length : Int) != (m.length : Int)) = true := by rw [bne_iff_ne]; omega
    have HR : sessSame l m = false := by
      unfold sessSame
      simp [hln]
    rw [h.out] at HR
    subst HR
    go_enter Tryz.func32, Tryz.ntmps32
    go_wp2_with fail
    go_ret
    exact ⟨rfl, Below.refl _ _⟩

set_option maxHeartbeats 1600000 in
set_option maxRecDepth 100000 in
theorem stsame_any {w : World} {x y x2 y2 : Value} {t s : Sta} (h : StAt w x y t) (h2 : StAt w x2 y2 s) {r : Bool} (hr : Hid (staSame t s = r)) :
    Calls Tryz.prog 12 #[.agg #[x, y], .agg #[x2, y2]] w fun e w' => e = .returned (.bool r) ∧ Below w.heap.size w w' := by
  have hr := hr.out
  unfold staSame at hr
  have b1 := bl_newZ w (.cells #[x, y] 25)
  have b2 := bl_newZ (w.alloc (.cells #[x, y] 25)) (.cells #[x2, y2] 25)
  have b12 := below2Z b1 b2
  have HB := Lib.hid b12
  have H := Lib.hid (h.later b12)
  have K := Lib.hid (h2.later b12)
  have FA := Lib.hid (upT (heap_newT w (.cells #[x, y] 25)) b2)
  have FB : Hid (((w.alloc (.cells #[x, y] 25)).alloc (.cells #[x2, y2] 25)).heap[w.heap.size + 1]? = some (.cells #[x2, y2] 25 (0, 0))) := by
    have hz := heap_newT (w.alloc (.cells #[x, y] 25)) (.cells #[x2, y2] 25)
    simp only [World.size_alloc] at hz
    exact hz
  obtain ⟨a0, a1, -, -⟩ := two_T FA.out
  obtain ⟨d0, d1, -, -⟩ := two_T FB.out
  obtain ⟨p, hp⟩ : ∃ p, entsSame t.e s.e = p := ⟨_, rfl⟩
  obtain ⟨q, hq⟩ : ∃ q, sessSame t.s s.s = q := ⟨_, rfl⟩
  rw [hp, hq] at hr
  have HP := Lib.hid hp
  have HQ := Lib.hid hq
  clear hp hq b1 b2 b12 h h2
  cases p with
  | false =>
    rw [Bool.false_and] at hr
    subst hr
    go_enter Tryz.func12, Tryz.ntmps12
    go_wp2_with fail
    refine (eqEnts_any H.out.1 K.out.1 HP).mono ?_
    rintro e w1 ⟨rfl, c1⟩
    replace HB := Lib.hid (below2Z HB.out c1)
    replace H := Lib.hid (H.out.later c1)
    replace K := Lib.hid (K.out.later c1)
    replace FA := Lib.hid (upT FA.out c1)
    replace FB := Lib.hid (upT FB.out c1)
    clear c1 a0 a1 d0 d1
    obtain ⟨a0, a1, -, -⟩ := two_T FA.out
    obtain ⟨d0, d1, -, -⟩ := two_T FB.out
    go_wp2_with fail
    go_ret
    exact ⟨rfl, HB.out⟩
  | true =>
    rw [Bool.true_and] at hr
    subst hr
    go_enter Tryz.func12, Tryz.ntmps12
    go_wp2_with fail
    refine (eqEnts_any H.out.1 K.out.1 HP).mono ?_
    rintro e w1 ⟨rfl, c1⟩
    replace HB := Lib.hid (below2Z HB.out c1)
    replace H := Lib.hid (H.out.later c1)
    replace K := Lib.hid (K.out.later c1)
    replace FA := Lib.hid (upT FA.out c1)
    replace FB := Lib.hid (upT FB.out c1)
    clear c1 a0 a1 d0 d1
    obtain ⟨a0, a1, -, -⟩ := two_T FA.out
    obtain ⟨d0, d1, -, -⟩ := two_T FB.out
    go_wp2_with fail
    refine (eqSess_any H.out.2 K.out.2 HQ).mono ?_
    rintro e w2 ⟨rfl, c2⟩
    replace HB := Lib.hid (below2Z HB.out c2)
    clear c2 a0 a1 d0 d1
    go_wp2_with fail
    go_ret
    exact ⟨rfl, HB.out⟩

theorem entsSame_self (l : List Ent) : entsSame l l = true := by
  unfold entsSame
  simp only [beq_self_eq_true, Bool.true_and, List.all_eq_true]
  intro i _
  exact entSame_iff.2 rfl

theorem staSame_self (t : Sta) : staSame t t = true := by
  unfold staSame
  rw [entsSame_self, sessSame_self]
  rfl

/-- Few entries and sessions. -/
def fewSta (t : Sta) : Bool := fewR t.e && fewSes t.s

set_option maxHeartbeats 1600000 in
set_option maxRecDepth 100000 in
theorem fewst_any {w : World} {x y : Value} {t : Sta} (h : StAt w x y t) {r : Bool} (hr : Hid (fewSta t = r)) :
    Calls Tryz.prog 4 #[.agg #[x, y]] w fun e w' => e = .returned (.bool r) ∧ Below w.heap.size w w' := by
  have hr := hr.out
  unfold fewSta at hr
  have b0 := bl_newZ w (.cells #[x, y] 25)
  have HB := Lib.hid b0
  have H := Lib.hid (h.later b0)
  have F := Lib.hid (heap_newT w (.cells #[x, y] 25))
  obtain ⟨c0, c1, -, -⟩ := two_T F.out
  obtain ⟨a, ha⟩ : ∃ a, fewR t.e = a := ⟨_, rfl⟩
  obtain ⟨b, hb⟩ : ∃ b, fewSes t.s = b := ⟨_, rfl⟩
  rw [ha, hb] at hr
  have HA := Lib.hid ha
  have HC := Lib.hid (few09_eq H.out.2 hb)
  clear ha hb b0 h
  cases a with
  | false =>
    rw [Bool.false_and] at hr
    subst hr
    go_enter Tryz.func4, Tryz.ntmps4
    go_wp2_with fail
    refine (few8_any H.out.1 HA).mono ?_
    rintro e w1 ⟨rfl, rfl⟩
    go_wp2_with fail
    go_ret
    exact ⟨rfl, HB.out⟩
  | true =>
    rw [Bool.true_and] at hr
    subst hr
    go_enter Tryz.func4, Tryz.ntmps4
    go_wp2_with fail
    refine (few8_any H.out.1 HA).mono ?_
    rintro e w1 ⟨rfl, rfl⟩
    go_wp2_with fail
    refine HC.out.mono ?_
    rintro e w1 ⟨rfl, rfl⟩
    go_wp2_with fail
    go_ret
    exact ⟨rfl, HB.out⟩

end Go.Proofs.YthfkfonfiejbmaaGreat
