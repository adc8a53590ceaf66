/-
  TEXTS OF THE PROOF, one behind the other: BesWor, StaSame, StaEvs, StaPartP, StaTouch, IdLive, StaLive, StaPartW, Blk.
-/
import Derived.Test.YtndicdomdndjaaaP07
import Derived.Test.YtndicdomdndjaaaP10
import Derived.Test.YtndicdomdndjaaaP09
import Derived.Test.YtndicdomdndjaaaP11
import Derived.Test.YtndicdomdndjaaaP01
import Derived.BigRegion
import Derived.Deep.DeepCutAuto
import Derived.Deep.CutBlock
import Derived.Deep.RegionHeld
import Derived.Test.YtndicdomdndjaaaP06
import Derived.MapKept

section

/-
  LAYER 11, THE DOCUMENT's: which of two values is worth more. Few sessions.
-/
namespace Go.Proofs.Ytndicdomdndjaaa
open Go.RowKit

/-- At most n sessions, of few bytes. -/
def fewOne (s : Ses) : Bool := decide (s.u.length ≤ 40) && decide (s.v.st.length ≤ 60)

def fewSes (l : List Ses) : Bool := decide (l.length ≤ 50) && l.all fewOne

end Go.Proofs.Ytndicdomdndjaaa

end

section

/-
  LAYER 14: Same of the code (slices.Equal) and of the document; Few, Short.
-/
namespace Go.Proofs.Ytndicdomdndjaaa
open Go.RowKit

def entSame (a b : Ent) : Bool := (a.o == b.o) && ((a.c == b.c) && itSame a.it b.it)

theorem entSame_iff {a b : Ent} : entSame a b = true ↔ a = b := by
  obtain ⟨ao, ac, ai⟩ := a
  obtain ⟨bo, bc, bi⟩ := b
  unfold entSame
  simp only [Bool.and_eq_true, beq_iff_eq, itSame_iff, Ent.mk.injEq]

def entsSame (a b : List Ent) : Bool := (a.length == b.length) && (List.range a.length).all fun i => entSame (a.getD i Ent.zero) (b.getD i Ent.zero)

def staSame (t s : Sta) : Bool := entsSame t.e s.e && sessSame t.s s.s

theorem ent_eqG (d : Nat) (xo xc : List UInt8) (x1 x2 x3 x4 x5 : Bool) (yo yc : List UInt8) (y1 y2 y3 y4 y5 : Bool) (w : World) :
    (Op.equalIn (d + 1 + 1 + 1) 78 (.agg #[.string ⟨xo.toArray⟩, .string ⟨xc.toArray⟩, .bool x1, .bool x2, .bool x3, .bool x4, .bool x5]) (.agg #[.string ⟨yo.toArray⟩, .string ⟨yc.toArray⟩, .bool y1, .bool y2, .bool y3, .bool y4, .bool y5])).run Try.prog w = .ok (entSame ⟨xo, xc, ⟨x1, x2, x3, x4, x5⟩⟩ ⟨yo, yc, ⟨y1, y2, y3, y4, y5⟩⟩) w := by
  have hS : Try.prog.underlying 78 = some (.struct (Try.prog.fieldsOf 78)) := by kernel_rfl
  have hp : Try.prog.stoodInHeld 78 = false := by kernel_rfl
  have u9 := Try.underlying9
  have a9 := Try.isAgg9
  have z9 := Try.sizeOf9
  have a3 := Try.isAgg76
  have z3 := Try.sizeOf76
  have hi := fun w => item_eqIn d x1 x2 x3 x4 x5 y1 y2 y3 y4 y5 w
  have e1 : ∀ b : Bool, (xo == yo) = b → (xc == yc) = b → True := fun _ _ _ => trivial
  clear e1
  rw [run_equalIn_agg w (d + 1 + 1) 78 _ _ hS hp]
  simp only [Program.fieldsOf, Try.underlying78]
  unfold entSame
  by_cases h1 : xo = yo
  · subst h1
    by_cases h2 : xc = yc
    · subst h2
      go_simp
      generalize itSame ⟨x1, x2, x3, x4, x5⟩ ⟨y1, y2, y3, y4, y5⟩ = q
      cases q <;> simp
    · have t2 : (xc == yc) = false := by rw [beq_eq_false_iff_ne]; exact h2
      go_simp
  · have t1 : (xo == yo) = false := by rw [beq_eq_false_iff_ne]; exact h1
    go_simp

theorem ent_neqG (xo xc : List UInt8) (x1 x2 x3 x4 x5 : Bool) (yo yc : List UInt8) (y1 y2 y3 y4 y5 : Bool) (w : World) :
    (binOp .neq 78 (.agg #[.string ⟨xo.toArray⟩, .string ⟨xc.toArray⟩, .bool x1, .bool x2, .bool x3, .bool x4, .bool x5]) (.agg #[.string ⟨yo.toArray⟩, .string ⟨yc.toArray⟩, .bool y1, .bool y2, .bool y3, .bool y4, .bool y5])).run Try.prog w = .ok (.bool (!entSame ⟨xo, xc, ⟨x1, x2, x3, x4, x5⟩⟩ ⟨yo, yc, ⟨y1, y2, y3, y4, y5⟩⟩)) w := by
  rw [run_neq_struct, show (10000 : Nat) = 9997 + 1 + 1 + 1 from rfl, ent_eqG 9997]
  rfl

set_option maxHeartbeats 1600000 in
set_option maxRecDepth 100000 in
theorem eqEnts_any {w : World} {v u : Value} {l m : List Ent} (hv : Ents w v l) (hu : Ents w u m) {r : Bool} (h : Hid (entsSame l m = r)) :
    Calls Try.prog 22 #[v, u] w fun e w' => e = .returned (.bool r) ∧ Below w.heap.size w w' := by
  have HV := Lib.hid hv
  have HU := Lib.hid hu
  obtain ⟨a, cap, rfl, _⟩ := hv.open'
  obtain ⟨a2, cap2, rfl, _⟩ := hu.open'
  clear hv hu
  by_cases hln : l.length = m.length
  · have t0 : ((l.length : Int) != (m.length : Int)) = false := by rw [hln]; simp
    go_enter Try.func22, Try.ntmps22
    go_wp2_with fail
    go_loopw [13] (fun i wr => ∃ k : Nat, k ≤ l.length ∧ i = .int .i64 k ∧ Hid (Below w.heap.size w wr) ∧ Hid ((List.range k).all (fun i => entSame (l.getD i Ent.zero) (m.getD i Ent.zero)) = true)) (fun i _ => l.length - (intOf i).toNat)
    case atStart => exact ⟨0, by omega, rfl, Below.refl _ _, rfl⟩
    case round =>
      obtain ⟨k, hk, rfl, HB, HA⟩ := hrel
      by_cases hlt : k < l.length
      · have hltm : k < m.length := by omega
        obtain ⟨b, off, rfl, hc⟩ := HV.out.row HB.out k hlt
        obtain ⟨b2, off2, rfl, hd⟩ := HU.out.row HB.out k hltm
        obtain ⟨⟨eo, ec, ⟨x1, x2, x3, x4, x5⟩⟩, hr⟩ : ∃ r, l.getD k Ent.zero = r := ⟨_, rfl⟩
        obtain ⟨⟨fo, fc, ⟨y1, y2, y3, y4, y5⟩⟩, hr2⟩ : ∃ r, m.getD k Ent.zero = r := ⟨_, rfl⟩
        rw [hr] at hc
        rw [hr2] at hd
        obtain ⟨p0, p1, p2, p3, p4, p5, p6⟩ := cells7_regrown hc
        obtain ⟨q0, q1, q2, q3, q4, q5, q6⟩ := cells7_regrown hd
        try simp only at p0 p1 p2 p3 p4 p5 p6 q0 q1 q2 q3 q4 q5 q6
        obtain ⟨q, hq⟩ : ∃ q, entSame ⟨eo, ec, ⟨x1, x2, x3, x4, x5⟩⟩ ⟨fo, fc, ⟨y1, y2, y3, y4, y5⟩⟩ = q := ⟨_, rfl⟩
        have he := fun w => ent_neqG eo ec x1 x2 x3 x4 x5 fo fc y1 y2 y3 y4 y5 w
        rw [hq] at he
        have HQ : Hid (entSame (l.getD k Ent.zero) (m.getD k Ent.zero) = q) := by show _ = _; rw [hr, hr2]; exact hq
        have hnn : (0 : Int) ≤ (k : Int) := by omega
        have hli : (k : Int) < (l.length : Int) := by omega
        have hlm : (k : Int) < (m.length : Int) := by omega
        clear hr hr2 hq hc hd
        go_wp2_with fail
        refine wp_region_quiet_below (by kernel_rfl) (by kernel_rfl) ?_
        repeat (go_big_quiet_step (fail))
        refine wpQuiet_nil ?_
        intro w5 hw5
        have B5 := Lib.hid (below2Z HB.out (regrownZ hw5))
        clear hw5 p0 p1 p2 p3 p4 p5 p6 q0 q1 q2 q3 q4 q5 q6
        cases q with
        | false =>
          have HR : entsSame l m = false := by
            unfold entsSame
            rw [show (List.range l.length).all (fun i => entSame (l.getD i Ent.zero) (m.getD i Ent.zero)) = false from all_off hlt HQ.out, Bool.and_false]
          rw [h.out] at HR
          subst HR
          go_wp2_with fail
          go_ret
          exact ⟨rfl, B5.out⟩
        | true =>
          have HA2 : Hid ((List.range (k + 1)).all (fun i => entSame (l.getD i Ent.zero) (m.getD i Ent.zero)) = true) := all_next HA.out HQ.out
          clear HQ
          go_wp2_with fail
          go_roundw
          case rel => exact ⟨k + 1, by omega, by go_num, B5, HA2⟩
          case measure => simp [intOf]; omega
      · obtain rfl : k = l.length := by omega
        have HR : entsSame l m = true := by
          unfold entsSame
          rw [show (List.range l.length).all (fun i => entSame (l.getD i Ent.zero) (m.getD i Ent.zero)) = true from HA.out]
          simp [hln]
        rw [h.out] at HR
        subst HR
        go_wp2_with fail
        go_ret
        exact ⟨rfl, HB.out⟩
  · have t0 : ((l.length : Int) != (m.length : Int)) = true := by rw [bne_iff_ne]; omega
    have HR : entsSame l m = false := by
      unfold entsSame
      simp [hln]
    rw [h.out] at HR
    subst HR
    go_enter Try.func22, Try.ntmps22
    go_wp2_with fail
    go_ret
    exact ⟨rfl, Below.refl _ _⟩

set_option maxHeartbeats 1600000 in
set_option maxRecDepth 100000 in
theorem eqSess_any {w : World} {v u : Value} {l m : List Ses} (hv : Sess w v l) (hu : Sess w u m) {r : Bool} (h : Hid (sessSame l m = r)) :
    Calls Try.prog 23 #[v, u] w fun e w' => e = .returned (.bool r) ∧ Below w.heap.size w w' := by
  have HV := Lib.hid hv
  have HU := Lib.hid hu
  obtain ⟨a, cap, rfl, _⟩ := hv.open'
  obtain ⟨a2, cap2, rfl, _⟩ := hu.open'
  clear hv hu
  by_cases hln : l.length = m.length
  · have t0 : ((l.length : Int) != (m.length : Int)) = false := by rw [hln]; simp
    go_enter Try.func23, Try.ntmps23
    go_wp2_with fail
    go_loopw [13] (fun i wr => ∃ k : Nat, k ≤ l.length ∧ i = .int .i64 k ∧ Hid (Below w.heap.size w wr) ∧ Hid ((List.range k).all (fun i => sesSame (l.getD i Ses.zero) (m.getD i Ses.zero)) = true)) (fun i _ => l.length - (intOf i).toNat)
    case atStart => exact ⟨0, by omega, rfl, Below.refl _ _, rfl⟩
    case round =>
      obtain ⟨k, hk, rfl, HB, HA⟩ := hrel
      by_cases hlt : k < l.length
      · have hltm : k < m.length := by omega
        obtain ⟨b, off, rfl, hc⟩ := HV.out.row HB.out k hlt
        obtain ⟨b2, off2, rfl, hd⟩ := HU.out.row HB.out k hltm
        obtain ⟨⟨eu, ei, ⟨ea, eb, ec, es⟩⟩, hr⟩ : ∃ r, l.getD k Ses.zero = r := ⟨_, rfl⟩
        obtain ⟨⟨fu, fi, ⟨fa, fb, fc, fs⟩⟩, hr2⟩ : ∃ r, m.getD k Ses.zero = r := ⟨_, rfl⟩
        rw [hr] at hc
        rw [hr2] at hd
        obtain ⟨p0, p1, p2, p3, p4, p5⟩ := cells6_regrown hc
        obtain ⟨q0, q1, q2, q3, q4, q5⟩ := cells6_regrown hd
        try simp only at p0 p1 p2 p3 p4 p5 q0 q1 q2 q3 q4 q5
        obtain ⟨q, hq⟩ : ∃ q, sesSame ⟨eu, ei, ⟨ea, eb, ec, es⟩⟩ ⟨fu, fi, ⟨fa, fb, fc, fs⟩⟩ = q := ⟨_, rfl⟩
        have he := fun w => ses_neq eu fu ei ea eb ec fi fa fb fc es fs w
        rw [hq] at he
        have HQ : Hid (sesSame (l.getD k Ses.zero) (m.getD k Ses.zero) = q) := by show _ = _; rw [hr, hr2]; exact hq
        have hnn : (0 : Int) ≤ (k : Int) := by omega
        have hli : (k : Int) < (l.length : Int) := by omega
        have hlm : (k : Int) < (m.length : Int) := by omega
        clear hr hr2 hq hc hd
        go_wp2_with fail
        refine wp_region_quiet_below (by kernel_rfl) (by kernel_rfl) ?_
        repeat (go_big_quiet_step (fail))
        refine wpQuiet_nil ?_
        intro w5 hw5
        have B5 := Lib.hid (below2Z HB.out (regrownZ hw5))
        clear hw5 p0 p1 p2 p3 p4 p5 q0 q1 q2 q3 q4 q5
        cases q with
        | false =>
          have HR : sessSame l m = false := by
            unfold sessSame
            rw [show (List.range l.length).all (fun i => sesSame (l.getD i Ses.zero) (m.getD i Ses.zero)) = false from all_off hlt HQ.out, Bool.and_false]
          rw [h.out] at HR
          subst HR
          go_wp2_with fail
          go_ret
          exact ⟨rfl, B5.out⟩
        | true =>
          have HA2 : Hid ((List.range (k + 1)).all (fun i => sesSame (l.getD i Ses.zero) (m.getD i Ses.zero)) = true) := all_next HA.out HQ.out
          clear HQ
          go_wp2_with fail
          go_roundw
          case rel => exact ⟨k + 1, by omega, by go_num, B5, HA2⟩
          case measure => simp [intOf]; omega
      · obtain rfl : k = l.length := by omega
        have HR : sessSame l m = true := by
          unfold sessSame
          rw [show (List.range l.length).all (fun i => sesSame (l.getD i Ses.zero) (m.getD i Ses.zero)) = true from HA.out]
          simp [hln]
        rw [h.out] at HR
        subst HR
        go_wp2_with fail
        go_ret
        exact ⟨rfl, HB.out⟩
  · have t0 : ((l.length : Int) != (m.length : Int)) = true := by rw [bne_iff_ne]; omega
    have HR : sessSame l m = false := by
      unfold sessSame
      simp [hln]
    rw [h.out] at HR
    subst HR
    go_enter Try.func23, Try.ntmps23
    go_wp2_with fail
    go_ret
    exact ⟨rfl, Below.refl _ _⟩

set_option maxHeartbeats 1600000 in
set_option maxRecDepth 100000 in
theorem stsame_any {w : World} {x y x2 y2 : Value} {t s : Sta} (h : StAt w x y t) (h2 : StAt w x2 y2 s) {r : Bool} (hr : Hid (staSame t s = r)) :
    Calls Try.prog 8 #[.agg #[x, y], .agg #[x2, y2]] w fun e w' => e = .returned (.bool r) ∧ Below w.heap.size w w' := by
  have hr := hr.out
  unfold staSame at hr
  have b1 := bl_newZ w (.cells #[x, y] 28)
  have b2 := bl_newZ (w.alloc (.cells #[x, y] 28)) (.cells #[x2, y2] 28)
  have b12 := below2Z b1 b2
  have HB := Lib.hid b12
  have H := Lib.hid (h.later b12)
  have K := Lib.hid (h2.later b12)
  have FA := Lib.hid (upT (heap_newT w (.cells #[x, y] 28)) b2)
  have FB : Hid (((w.alloc (.cells #[x, y] 28)).alloc (.cells #[x2, y2] 28)).heap[w.heap.size + 1]? = some (.cells #[x2, y2] 28 (0, 0))) := by
    have hz := heap_newT (w.alloc (.cells #[x, y] 28)) (.cells #[x2, y2] 28)
    simp only [World.size_alloc] at hz
    exact hz
  obtain ⟨a0, a1, -, -⟩ := two_T FA.out
  obtain ⟨d0, d1, -, -⟩ := two_T FB.out
  obtain ⟨p, hp⟩ : ∃ p, entsSame t.e s.e = p := ⟨_, rfl⟩
  obtain ⟨q, hq⟩ : ∃ q, sessSame t.s s.s = q := ⟨_, rfl⟩
  rw [hp, hq] at hr
  have HP := Lib.hid hp
  have HQ := Lib.hid hq
  clear hp hq b1 b2 b12 h h2
  cases p with
  | false =>
    rw [Bool.false_and] at hr
    subst hr
    go_enter Try.func8, Try.ntmps8
    go_wp2_with fail
    refine (eqEnts_any H.out.1 K.out.1 HP).mono ?_
    rintro e w1 ⟨rfl, c1⟩
    replace HB := Lib.hid (below2Z HB.out c1)
    replace H := Lib.hid (H.out.later c1)
    replace K := Lib.hid (K.out.later c1)
    replace FA := Lib.hid (upT FA.out c1)
    replace FB := Lib.hid (upT FB.out c1)
    clear c1 a0 a1 d0 d1
    obtain ⟨a0, a1, -, -⟩ := two_T FA.out
    obtain ⟨d0, d1, -, -⟩ := two_T FB.out
    go_wp2_with fail
    go_ret
    exact ⟨rfl, HB.out⟩
  | true =>
    rw [Bool.true_and] at hr
    subst hr
    go_enter Try.func8, Try.ntmps8
    go_wp2_with fail
    refine (eqEnts_any H.out.1 K.out.1 HP).mono ?_
    rintro e w1 ⟨rfl, c1⟩
    replace HB := Lib.hid (below2Z HB.out c1)
    replace H := Lib.hid (H.out.later c1)
    replace K := Lib.hid (K.out.later c1)
    replace FA := Lib.hid (upT FA.out c1)
    replace FB := Lib.hid (upT FB.out c1)
    clear c1 a0 a1 d0 d1
    obtain ⟨a0, a1, -, -⟩ := two_T FA.out
    obtain ⟨d0, d1, -, -⟩ := two_T FB.out
    go_wp2_with fail
    refine (eqSess_any H.out.2 K.out.2 HQ).mono ?_
    rintro e w2 ⟨rfl, c2⟩
    replace HB := Lib.hid (below2Z HB.out c2)
    clear c2 a0 a1 d0 d1
    go_wp2_with fail
    go_ret
    exact ⟨rfl, HB.out⟩

theorem entsSame_self (l : List Ent) : entsSame l l = true := by
  unfold entsSame
  simp only [beq_self_eq_true, Bool.true_and, List.all_eq_true]
  intro i _
  exact entSame_iff.2 rfl

theorem staSame_self (t : Sta) : staSame t t = true := by
  unfold staSame
  rw [entsSame_self, sessSame_self]
  rfl

/-- Few entries and sessions. -/
def fewSta (t : Sta) : Bool := fewR t.e && fewSes t.s

/-- Short texts. -/
def shortEv (e : Ev) : Bool := decide (e.u.length ≤ 40) && (decide (e.o.length ≤ 40) && decide (e.v.st.length ≤ 60))

theorem shortEv_get {e : Ev} (h : shortEv e = true) : e.u.length ≤ 40 ∧ e.o.length ≤ 40 ∧ e.v.st.length ≤ 60 := by
  unfold shortEv at h
  simpa only [Bool.and_eq_true, decide_eq_true_eq] using h

set_option maxHeartbeats 1600000 in
set_option maxRecDepth 100000 in
theorem short14_any (k : Int) (u o st : List UInt8) (id a b c : Int) {r : Bool} (hr : Hid (shortEv ⟨k, u, o, id, ⟨a, b, c, st⟩⟩ = r)) (w : World) :
    Calls Try.prog 17 #[.agg #[.int .i64 k, .string ⟨u.toArray⟩, .string ⟨o.toArray⟩, .int .i64 id, .int .i64 a, .int .i64 b, .int .i64 c, .string ⟨st.toArray⟩]] w fun e w' => e = .returned (.bool r) ∧ Below w.heap.size w w' := by
  have hr := hr.out
  unfold shortEv at hr
  simp only at hr
  have HB := Lib.hid (bl_newZ w (.cells #[.int .i64 k, .string ⟨u.toArray⟩, .string ⟨o.toArray⟩, .int .i64 id, .int .i64 a, .int .i64 b, .int .i64 c, .string ⟨st.toArray⟩] 37))
  by_cases h1 : u.length ≤ 40
  · have t1 : decide ((u.length : Int) ≤ 40) = true := by rw [decide_eq_true_eq]; omega
    rw [decide_eq_true h1, Bool.true_and] at hr
    by_cases h2 : o.length ≤ 40
    · have t2 : decide ((o.length : Int) ≤ 40) = true := by rw [decide_eq_true_eq]; omega
      rw [decide_eq_true h2, Bool.true_and] at hr
      have t3 : decide ((st.length : Int) ≤ 60) = r := by rw [← hr]; congr 1; rw [eq_iff_iff]; omega
      clear hr
      go_enter Try.func17, Try.ntmps17
      go_wp2_with fail
      go_ret
      exact ⟨rfl, HB.out⟩
    · have t2 : decide ((o.length : Int) ≤ 40) = false := by rw [decide_eq_false_iff_not]; omega
      rw [decide_eq_false h2, Bool.false_and] at hr
      subst hr
      go_enter Try.func17, Try.ntmps17
      go_wp2_with fail
      go_ret
      exact ⟨rfl, HB.out⟩
  · have t1 : decide ((u.length : Int) ≤ 40) = false := by rw [decide_eq_false_iff_not]; omega
    rw [decide_eq_false h1, Bool.false_and] at hr
    subst hr
    go_enter Try.func17, Try.ntmps17
    go_wp2_with fail
    go_ret
    exact ⟨rfl, HB.out⟩

end Go.Proofs.Ytndicdomdndjaaa

end

section

/-
  LAYER 14: few events, of short texts.
-/
namespace Go.Proofs.Ytndicdomdndjaaa
open Go.RowKit

def evsShort (n : Nat) (l : List Ev) : Bool := decide (l.length ≤ n) && l.all shortEv

theorem evsShort_get {n : Nat} {l : List Ev} (h : evsShort n l = true) : l.length ≤ n ∧ ∀ e ∈ l, shortEv e = true := by
  unfold evsShort at h
  simpa only [Bool.and_eq_true, decide_eq_true_eq, List.all_eq_true] using h

theorem evsShort_ev {n : Nat} {l : List Ev} (h : evsShort n l = true) : ∀ e ∈ l, evShort e := fun e he => by
  obtain ⟨h1, h2, h3⟩ := shortEv_get ((evsShort_get h).2 e he)
  exact ⟨Nat.le_trans h1 (by decide), Nat.le_trans h2 (by decide), Nat.le_trans h3 (by decide)⟩

set_option maxHeartbeats 3200000 in
set_option maxRecDepth 100000 in
theorem events_any {w : World} {v : Value} {l : List Ev} (hv : Evs w v l) (n : Nat) (hn9 : n ≤ 1000) {r : Bool} (hr : Hid (evsShort n l = r)) :
    Calls Try.prog 5 #[v, .int .i64 n] w fun e w' => e = .returned (.bool r) ∧ Below w.heap.size w w' := by
  have HV := Lib.hid hv
  obtain ⟨av, cv, rfl, -⟩ := RdS.open' hv
  clear hv
  by_cases hn : l.length ≤ n
  · have t1 : decide ((n : Int) < (l.length : Int)) = false := by rw [decide_eq_false_iff_not]; omega
    have t1' : decide (n < l.length) = false := by rw [decide_eq_false_iff_not]; omega
    have hr2 : l.all shortEv = r := by have := hr.out; unfold evsShort at this; rw [decide_eq_true hn, Bool.true_and] at this; exact this
    have HR := Lib.hid hr2
    clear hr hr2
    go_enter Try.func5, Try.ntmps5
    go_wp2_with fail
    go_loopw [5] (fun i wr => ∃ k : Nat, k ≤ l.length ∧ i = .int .i64 k ∧ Hid (∀ n, n < k → shortEv (l.getD n Ev.zero) = true) ∧ Hid (Below w.heap.size w wr)) (fun i _ => l.length - (intOf i).toNat)
    case atStart => exact ⟨0, by omega, rfl, Lib.hid (fun i h => absurd h (by omega)), Below.refl _ _⟩
    case round =>
      obtain ⟨k, hk, rfl, HA, HB⟩ := hrel
      by_cases hlt : k < l.length
      · obtain ⟨vb, vo, rfl, hc⟩ := RdS.row HV.out HB.out k hlt
        obtain ⟨⟨kk, u, o, id, ⟨a, b, c, st⟩⟩, he⟩ : ∃ r, l.getD k Ev.zero = r := ⟨_, rfl⟩
        rw [he] at hc
        obtain ⟨m0, m1, m2, m3, m4, m5, m6, m7⟩ := eightAt hc
        obtain ⟨q, hq⟩ : ∃ q, shortEv ⟨kk, u, o, id, ⟨a, b, c, st⟩⟩ = q := ⟨_, rfl⟩
        have HQ := Lib.hid hq
        have HE := Lib.hid he
        have hnn : (0 : Int) ≤ (k : Int) := by omega
        have hli : (k : Int) < (l.length : Int) := by omega
        clear hc he hq
        go_wp2_with fail
        refine (short14_any kk u o st id a b c HQ _).mono ?_
        rintro e w1 ⟨rfl, b1⟩
        have HB1 := Lib.hid (below2Z HB.out b1)
        clear b1 m0 m1 m2 m3 m4 m5 m6 m7
        cases q with
        | false =>
          have hf : l.all shortEv = false := by
            rw [Bool.eq_false_iff]
            intro h
            have := List.all_eq_true.1 h _ (show l.getD k Ev.zero ∈ l by rw [evgetD hlt]; exact List.getElem_mem hlt)
            rw [HE.out, HQ.out] at this
            cases this
          rw [HR.out] at hf
          subst hf
          go_wp2_with fail
          go_ret
          exact ⟨rfl, HB1.out⟩
        | true =>
          have HA2 : Hid (∀ i, i < k + 1 → shortEv (l.getD i Ev.zero) = true) := Lib.hid (fun i hi => by
            by_cases h : i < k
            · exact HA.out i h
            · obtain rfl : i = k := by omega
              rw [HE.out]; exact HQ.out)
          go_wp2_with fail
          go_roundw
          case rel => exact ⟨k + 1, by omega, by go_num, HA2, HB1⟩
          case measure => simp [intOf]; omega
      · obtain rfl : k = l.length := by omega
        have hf : l.all shortEv = true := by
          rw [List.all_eq_true]
          intro e he
          obtain ⟨i, hi, e1⟩ := List.getElem_of_mem he
          have := HA.out i hi
          rw [evgetD hi, e1] at this
          exact this
        rw [HR.out] at hf
        subst hf
        go_wp2_with fail
        go_ret
        exact ⟨rfl, HB.out⟩
  · have t1 : decide ((n : Int) < (l.length : Int)) = true := by rw [decide_eq_true_eq]; omega
    have hr2 := hr.out
    unfold evsShort at hr2
    rw [decide_eq_false hn, Bool.false_and] at hr2
    subst hr2
    clear hr
    go_enter Try.func5, Try.ntmps5
    go_wp2_with fail
    go_ret
    exact ⟨rfl, Below.refl _ _⟩

end Go.Proofs.Ytndicdomdndjaaa

end

section

/-
  LAYER 14, PLAIN: without those that were refused events come to the same.
-/
namespace Go.Proofs.Ytndicdomdndjaaa

/-- Those that are not refused, one behind the other. -/
def stGood (t : Sta) : List Ev → List Ev
  | [] => []
  | e :: l => (if (stApply t e).2 = 0 then [e] else []) ++ stGood (stApply t e).1 l

theorem stGood_snoc : ∀ (t : Sta) (l : List Ev) (e : Ev), stGood t (l ++ [e]) = stGood t l ++ (if (stApply (stAll t l).1 e).2 = 0 then [e] else [])
  | t, [], e => by
    show (if (stApply t e).2 = 0 then [e] else []) ++ [] = [] ++ (if (stApply t e).2 = 0 then [e] else [])
    rw [List.append_nil, List.nil_append]
  | t, x :: l, e => by
    show (if (stApply t x).2 = 0 then [x] else []) ++ stGood (stApply t x).1 (l ++ [e]) = (if (stApply t x).2 = 0 then [x] else []) ++ stGood (stApply t x).1 l ++ _
    rw [stGood_snoc, List.append_assoc]
    rfl

/-- They come to the same, and none of them is refused. -/
theorem stGood_all : ∀ (t : Sta) (l : List Ev), (stAll t (stGood t l)).1 = (stAll t l).1 ∧ ∀ n ∈ (stAll t (stGood t l)).2, n = 0
  | t, [] => ⟨rfl, fun n h => by cases h⟩
  | t, e :: l => by
    obtain ⟨t', n, hd⟩ : ∃ t' n, stApply t e = (t', n) := ⟨_, _, rfl⟩
    have ih := stGood_all t' l
    have e1 : (stAll t (e :: l)).1 = (stAll t' l).1 := by show (stAll (stApply t e).1 l).1 = _; rw [hd]
    have e2 : stGood t (e :: l) = (if n = 0 then [e] else []) ++ stGood t' l := by show (if (stApply t e).2 = 0 then [e] else []) ++ stGood (stApply t e).1 l = _; rw [hd]
    rw [e1, e2]
    by_cases hn : n = 0
    · subst hn
      rw [if_pos rfl]
      show (stAll (stApply t e).1 (stGood t' l)).1 = _ ∧ ∀ n ∈ (stApply t e).2 :: (stAll (stApply t e).1 (stGood t' l)).2, n = 0
      rw [hd]
      refine ⟨ih.1, fun n hn => ?_⟩
      rcases List.mem_cons.1 hn with rfl | hn
      · rfl
      · exact ih.2 n hn
    · have := stApply_err hd hn
      subst this
      rw [if_neg hn, List.nil_append]
      exact ih

theorem stGood_len : ∀ (t : Sta) (l : List Ev), (stGood t l).length ≤ l.length
  | _, [] => Nat.le_refl _
  | t, e :: l => by
    show ((if (stApply t e).2 = 0 then [e] else []) ++ stGood (stApply t e).1 l).length ≤ l.length + 1
    rw [List.length_append]
    have := stGood_len (stApply t e).1 l
    split
    · simp only [List.length_cons, List.length_nil]; omega
    · simp only [List.length_nil]; omega

theorem stGood_mem : ∀ (t : Sta) (l : List Ev), ∀ e ∈ stGood t l, e ∈ l
  | _, [], e, h => h
  | t, x :: l, e, h => by
    have h' : e ∈ (if (stApply t x).2 = 0 then [x] else []) ++ stGood (stApply t x).1 l := h
    rw [List.mem_append] at h'
    rcases h' with h' | h'
    · split at h'
      · exact List.mem_cons.2 (.inl (by simpa using h'))
      · cases h'
    · exact List.mem_cons.2 (.inr (stGood_mem _ l e h'))

/-- A prefix's good ones, one event more. -/
theorem stGood_take {t : Sta} {l : List Ev} {k : Nat} (hk : k < l.length) : stGood t (l.take (k + 1)) = stGood t (l.take k) ++ (if (stApply (stAll t (l.take k)).1 (l.getD k Ev.zero)).2 = 0 then [l.getD k Ev.zero] else []) := by
  rw [List.take_add_one, List.getElem?_eq_getElem hk, List.getD_eq_getElem?_getD, List.getElem?_eq_getElem hk, Option.toList_some, stGood_snoc]
  rfl

theorem numsOf_append (t : Sta) (l m : List Ev) : numsOf t (l ++ m) = numsOf t l ++ numsOf (stAll t l).1 m := by
  unfold numsOf
  rw [stAll_append, List.map_append]

/-- All numbers of the good ones are noughts. -/
theorem numsOf_good (t : Sta) (l : List Ev) {k : Nat} (hk : k < (stGood t l).length) : (numsOf t (stGood t l)).getD k 0 = 0 := by
  unfold numsOf
  have h2 : k < (stAll t (stGood t l)).2.length := by rw [stAll_len]; exact hk
  rw [List.getD_eq_getElem?_getD, List.getElem?_map, List.getElem?_eq_getElem h2]
  have := (stGood_all t l).2 _ (List.getElem_mem h2)
  rw [this]
  rfl

end Go.Proofs.Ytndicdomdndjaaa

end

section

/-
  LAYER 14: Touches of the code and of the document.
-/
namespace Go.Proofs.Ytndicdomdndjaaa
open Go.RowKit

theorem cells_up {A : Nat} {W X : World} {B : Nat} {vs : List Value} (h : CellsAt W B 0 vs) (hb : Below A W X) (hA : B < A) : CellsAt X B 0 vs := fun j u hu =>
  (hb.cell (p := ⟨B, 0 + j, none⟩) hA).trans (h j u hu)

set_option maxHeartbeats 1600000 in
set_option maxRecDepth 100000 in
theorem touch_c1 (u o st : List UInt8) (id a b c : Int)  (w : World) :
    Calls Try.prog 21 #[.agg #[.int .i64 1, .string ⟨u.toArray⟩, .string ⟨o.toArray⟩, .int .i64 id, .int .i64 a, .int .i64 b, .int .i64 c, .string ⟨st.toArray⟩]] w fun e w' => ∃ v, e = .returned v ∧ Texts w' v (mrg ([o] ++ [u] ++ [])) ∧ Below w.heap.size w w' := by
  obtain ⟨i0, hi, hz0, hz1, hz2⟩ := info_parts Try.infoTxt
  have b1 := bl_newZ w (.cells #[.int .i64 1, .string ⟨u.toArray⟩, .string ⟨o.toArray⟩, .int .i64 id, .int .i64 a, .int .i64 b, .int .i64 c, .string ⟨st.toArray⟩] 37)
  have HB := Lib.hid b1
  have FE := Lib.hid (cellsAt_made (w := w) (cs := #[.int .i64 1, .string ⟨u.toArray⟩, .string ⟨o.toArray⟩, .int .i64 id, .int .i64 a, .int .i64 b, .int .i64 c, .string ⟨st.toArray⟩]) (vs := evVals ⟨1, u, o, id, ⟨a, b, c, st⟩⟩) rfl 37 rfl)
  have hz := b1.size
  have hz1w : w.heap.size + 1 ≤ (w.alloc (.cells #[.int .i64 1, .string ⟨u.toArray⟩, .string ⟨o.toArray⟩, .int .i64 id, .int .i64 a, .int .i64 b, .int .i64 c, .string ⟨st.toArray⟩] 37)).heap.size := by simp
  have yy0 := hz1w
  obtain ⟨e0, e1, e2, e3, e4, e5, e6, e7⟩ := eightT FE.out
  clear b1
  have B0 : Hid (Below (w.heap.size + 1) (w.alloc (.cells #[.int .i64 1, .string ⟨u.toArray⟩, .string ⟨o.toArray⟩, .int .i64 id, .int .i64 a, .int .i64 b, .int .i64 c, .string ⟨st.toArray⟩] 37)) (w.alloc (.cells #[.int .i64 1, .string ⟨u.toArray⟩, .string ⟨o.toArray⟩, .int .i64 id, .int .i64 a, .int .i64 b, .int .i64 c, .string ⟨st.toArray⟩] 37))) := Lib.hid (Below.refl _ _)
  go_enter Try.func21, Try.ntmps21
  have O1 : Hid (OwnT _ (w.heap.size + 1) 9 (.slice none 0 0) []) := Lib.hid ((World.ownsRow_nil (w.alloc (.cells #[.int .i64 1, .string ⟨u.toArray⟩, .string ⟨o.toArray⟩, .int .i64 id, .int .i64 a, .int .i64 b, .int .i64 c, .string ⟨st.toArray⟩] 37)) _ _ _).alloc (.cells #[.string ⟨o.toArray⟩] 9))
  have M1 := Lib.hid (B0.out.alloc yy0 (.cells #[.string ⟨o.toArray⟩] 9))
  go_wp2_with (at_builtin; go_must (refine wpList_append_texts rfl _ _ 72 rfl (w.heap.size + 1) 9 i0 _ 16 Try.underlying72 hi hz0 hz1 hz2 rfl _ [] rfl (by exact O1.out) _ 1 1 [o] rfl rfl (fun e => nomatch e) ?c1 (by simp only [List.length_cons, List.length_nil]; omega) (by decide) (Nat.le_trans yy0 (bl_newZ _ _).size) ?_))
  case c1 => exact new_cellN (by simp)
  intro v1 W1 ho1 hb1
  have R1 := Lib.hid ho1
  have B1 := Lib.hid (M1.out.trans hb1)
  have yy1 := Nat.le_trans hz1w B1.out.size
  clear ho1 hb1 O1 M1 e0 e1 e2 e3 e4 e5 e6 e7
  obtain ⟨e0, e1, e2, e3, e4, e5, e6, e7⟩ := eightT (cells_up FE.out B1.out (by simp))
  have O2 := Lib.hid ((R1.out).alloc (.cells #[.string ⟨u.toArray⟩] 9))
  have M2 := Lib.hid (B1.out.alloc yy1 (.cells #[.string ⟨u.toArray⟩] 9))
  go_wp2_with (at_builtin; go_must (refine wpList_append_texts rfl _ _ 72 rfl (w.heap.size + 1) 9 i0 _ 16 Try.underlying72 hi hz0 hz1 hz2 rfl _ [o] rfl (by exact O2.out) _ 1 1 [u] rfl rfl (fun e => nomatch e) ?c1 (by simp only [List.length_cons, List.length_nil]; omega) (by decide) (Nat.le_trans yy1 (bl_newZ _ _).size) ?_))
  case c1 => exact new_cellN (by simp)
  intro v2 W2 ho2 hb2
  have R2 := Lib.hid ho2
  have B2 := Lib.hid (M2.out.trans hb2)
  have yy2 := Nat.le_trans hz1w B2.out.size
  clear ho2 hb2 O2 M2 e0 e1 e2 e3 e4 e5 e6 e7
  obtain ⟨e0, e1, e2, e3, e4, e5, e6, e7⟩ := eightT (cells_up FE.out B2.out (by simp))
  go_wp2_with fail
  refine (merge_any R2.out.texts (texts_nil _) (by simp) (by simp)).mono ?_
  rintro e w9 ⟨v9, rfl, h9, b9⟩
  have T9 := Lib.hid h9
  have N9 := Lib.hid (below2Z (HB.out.trans (B2.out.mono (Nat.le_succ _))) b9)
  clear h9 b9 e0 e1 e2 e3 e4 e5 e6 e7
  go_wp2_with fail
  go_ret
  exact ⟨_, rfl, T9.out, N9.out⟩

set_option maxHeartbeats 1600000 in
set_option maxRecDepth 100000 in
theorem touch_c2 (u o st : List UInt8) (id a b c : Int)  (w : World) :
    Calls Try.prog 21 #[.agg #[.int .i64 2, .string ⟨u.toArray⟩, .string ⟨o.toArray⟩, .int .i64 id, .int .i64 a, .int .i64 b, .int .i64 c, .string ⟨st.toArray⟩]] w fun e w' => ∃ v, e = .returned v ∧ Texts w' v (mrg ([o] ++ [u] ++ [])) ∧ Below w.heap.size w w' := by
  obtain ⟨i0, hi, hz0, hz1, hz2⟩ := info_parts Try.infoTxt
  have b1 := bl_newZ w (.cells #[.int .i64 2, .string ⟨u.toArray⟩, .string ⟨o.toArray⟩, .int .i64 id, .int .i64 a, .int .i64 b, .int .i64 c, .string ⟨st.toArray⟩] 37)
  have HB := Lib.hid b1
  have FE := Lib.hid (cellsAt_made (w := w) (cs := #[.int .i64 2, .string ⟨u.toArray⟩, .string ⟨o.toArray⟩, .int .i64 id, .int .i64 a, .int .i64 b, .int .i64 c, .string ⟨st.toArray⟩]) (vs := evVals ⟨2, u, o, id, ⟨a, b, c, st⟩⟩) rfl 37 rfl)
  have hz := b1.size
  have hz1w : w.heap.size + 1 ≤ (w.alloc (.cells #[.int .i64 2, .string ⟨u.toArray⟩, .string ⟨o.toArray⟩, .int .i64 id, .int .i64 a, .int .i64 b, .int .i64 c, .string ⟨st.toArray⟩] 37)).heap.size := by simp
  have yy0 := hz1w
  obtain ⟨e0, e1, e2, e3, e4, e5, e6, e7⟩ := eightT FE.out
  clear b1
  have B0 : Hid (Below (w.heap.size + 1) (w.alloc (.cells #[.int .i64 2, .string ⟨u.toArray⟩, .string ⟨o.toArray⟩, .int .i64 id, .int .i64 a, .int .i64 b, .int .i64 c, .string ⟨st.toArray⟩] 37)) (w.alloc (.cells #[.int .i64 2, .string ⟨u.toArray⟩, .string ⟨o.toArray⟩, .int .i64 id, .int .i64 a, .int .i64 b, .int .i64 c, .string ⟨st.toArray⟩] 37))) := Lib.hid (Below.refl _ _)
  go_enter Try.func21, Try.ntmps21
  have O1 : Hid (OwnT _ (w.heap.size + 1) 9 (.slice none 0 0) []) := Lib.hid ((World.ownsRow_nil (w.alloc (.cells #[.int .i64 2, .string ⟨u.toArray⟩, .string ⟨o.toArray⟩, .int .i64 id, .int .i64 a, .int .i64 b, .int .i64 c, .string ⟨st.toArray⟩] 37)) _ _ _).alloc (.cells #[.string ⟨o.toArray⟩] 9))
  have M1 := Lib.hid (B0.out.alloc yy0 (.cells #[.string ⟨o.toArray⟩] 9))
  go_wp2_with (at_builtin; go_must (refine wpList_append_texts rfl _ _ 72 rfl (w.heap.size + 1) 9 i0 _ 16 Try.underlying72 hi hz0 hz1 hz2 rfl _ [] rfl (by exact O1.out) _ 1 1 [o] rfl rfl (fun e => nomatch e) ?c1 (by simp only [List.length_cons, List.length_nil]; omega) (by decide) (Nat.le_trans yy0 (bl_newZ _ _).size) ?_))
  case c1 => exact new_cellN (by simp)
  intro v1 W1 ho1 hb1
  have R1 := Lib.hid ho1
  have B1 := Lib.hid (M1.out.trans hb1)
  have yy1 := Nat.le_trans hz1w B1.out.size
  clear ho1 hb1 O1 M1 e0 e1 e2 e3 e4 e5 e6 e7
  obtain ⟨e0, e1, e2, e3, e4, e5, e6, e7⟩ := eightT (cells_up FE.out B1.out (by simp))
  have O2 := Lib.hid ((R1.out).alloc (.cells #[.string ⟨u.toArray⟩] 9))
  have M2 := Lib.hid (B1.out.alloc yy1 (.cells #[.string ⟨u.toArray⟩] 9))
  go_wp2_with (at_builtin; go_must (refine wpList_append_texts rfl _ _ 72 rfl (w.heap.size + 1) 9 i0 _ 16 Try.underlying72 hi hz0 hz1 hz2 rfl _ [o] rfl (by exact O2.out) _ 1 1 [u] rfl rfl (fun e => nomatch e) ?c1 (by simp only [List.length_cons, List.length_nil]; omega) (by decide) (Nat.le_trans yy1 (bl_newZ _ _).size) ?_))
  case c1 => exact new_cellN (by simp)
  intro v2 W2 ho2 hb2
  have R2 := Lib.hid ho2
  have B2 := Lib.hid (M2.out.trans hb2)
  have yy2 := Nat.le_trans hz1w B2.out.size
  clear ho2 hb2 O2 M2 e0 e1 e2 e3 e4 e5 e6 e7
  obtain ⟨e0, e1, e2, e3, e4, e5, e6, e7⟩ := eightT (cells_up FE.out B2.out (by simp))
  go_wp2_with fail
  refine (merge_any R2.out.texts (texts_nil _) (by simp) (by simp)).mono ?_
  rintro e w9 ⟨v9, rfl, h9, b9⟩
  have T9 := Lib.hid h9
  have N9 := Lib.hid (below2Z (HB.out.trans (B2.out.mono (Nat.le_succ _))) b9)
  clear h9 b9 e0 e1 e2 e3 e4 e5 e6 e7
  go_wp2_with fail
  go_ret
  exact ⟨_, rfl, T9.out, N9.out⟩

set_option maxHeartbeats 1600000 in
set_option maxRecDepth 100000 in
theorem touch_c3 (u o st : List UInt8) (id a b c : Int)  (w : World) :
    Calls Try.prog 21 #[.agg #[.int .i64 3, .string ⟨u.toArray⟩, .string ⟨o.toArray⟩, .int .i64 id, .int .i64 a, .int .i64 b, .int .i64 c, .string ⟨st.toArray⟩]] w fun e w' => ∃ v, e = .returned v ∧ Texts w' v (mrg ([o] ++ [u] ++ [])) ∧ Below w.heap.size w w' := by
  obtain ⟨i0, hi, hz0, hz1, hz2⟩ := info_parts Try.infoTxt
  have b1 := bl_newZ w (.cells #[.int .i64 3, .string ⟨u.toArray⟩, .string ⟨o.toArray⟩, .int .i64 id, .int .i64 a, .int .i64 b, .int .i64 c, .string ⟨st.toArray⟩] 37)
  have HB := Lib.hid b1
  have FE := Lib.hid (cellsAt_made (w := w) (cs := #[.int .i64 3, .string ⟨u.toArray⟩, .string ⟨o.toArray⟩, .int .i64 id, .int .i64 a, .int .i64 b, .int .i64 c, .string ⟨st.toArray⟩]) (vs := evVals ⟨3, u, o, id, ⟨a, b, c, st⟩⟩) rfl 37 rfl)
  have hz := b1.size
  have hz1w : w.heap.size + 1 ≤ (w.alloc (.cells #[.int .i64 3, .string ⟨u.toArray⟩, .string ⟨o.toArray⟩, .int .i64 id, .int .i64 a, .int .i64 b, .int .i64 c, .string ⟨st.toArray⟩] 37)).heap.size := by simp
  have yy0 := hz1w
  obtain ⟨e0, e1, e2, e3, e4, e5, e6, e7⟩ := eightT FE.out
  clear b1
  have B0 : Hid (Below (w.heap.size + 1) (w.alloc (.cells #[.int .i64 3, .string ⟨u.toArray⟩, .string ⟨o.toArray⟩, .int .i64 id, .int .i64 a, .int .i64 b, .int .i64 c, .string ⟨st.toArray⟩] 37)) (w.alloc (.cells #[.int .i64 3, .string ⟨u.toArray⟩, .string ⟨o.toArray⟩, .int .i64 id, .int .i64 a, .int .i64 b, .int .i64 c, .string ⟨st.toArray⟩] 37))) := Lib.hid (Below.refl _ _)
  go_enter Try.func21, Try.ntmps21
  have O1 : Hid (OwnT _ (w.heap.size + 1) 9 (.slice none 0 0) []) := Lib.hid ((World.ownsRow_nil (w.alloc (.cells #[.int .i64 3, .string ⟨u.toArray⟩, .string ⟨o.toArray⟩, .int .i64 id, .int .i64 a, .int .i64 b, .int .i64 c, .string ⟨st.toArray⟩] 37)) _ _ _).alloc (.cells #[.string ⟨o.toArray⟩] 9))
  have M1 := Lib.hid (B0.out.alloc yy0 (.cells #[.string ⟨o.toArray⟩] 9))
  go_wp2_with (at_builtin; go_must (refine wpList_append_texts rfl _ _ 72 rfl (w.heap.size + 1) 9 i0 _ 16 Try.underlying72 hi hz0 hz1 hz2 rfl _ [] rfl (by exact O1.out) _ 1 1 [o] rfl rfl (fun e => nomatch e) ?c1 (by simp only [List.length_cons, List.length_nil]; omega) (by decide) (Nat.le_trans yy0 (bl_newZ _ _).size) ?_))
  case c1 => exact new_cellN (by simp)
  intro v1 W1 ho1 hb1
  have R1 := Lib.hid ho1
  have B1 := Lib.hid (M1.out.trans hb1)
  have yy1 := Nat.le_trans hz1w B1.out.size
  clear ho1 hb1 O1 M1 e0 e1 e2 e3 e4 e5 e6 e7
  obtain ⟨e0, e1, e2, e3, e4, e5, e6, e7⟩ := eightT (cells_up FE.out B1.out (by simp))
  have O2 := Lib.hid ((R1.out).alloc (.cells #[.string ⟨u.toArray⟩] 9))
  have M2 := Lib.hid (B1.out.alloc yy1 (.cells #[.string ⟨u.toArray⟩] 9))
  go_wp2_with (at_builtin; go_must (refine wpList_append_texts rfl _ _ 72 rfl (w.heap.size + 1) 9 i0 _ 16 Try.underlying72 hi hz0 hz1 hz2 rfl _ [o] rfl (by exact O2.out) _ 1 1 [u] rfl rfl (fun e => nomatch e) ?c1 (by simp only [List.length_cons, List.length_nil]; omega) (by decide) (Nat.le_trans yy1 (bl_newZ _ _).size) ?_))
  case c1 => exact new_cellN (by simp)
  intro v2 W2 ho2 hb2
  have R2 := Lib.hid ho2
  have B2 := Lib.hid (M2.out.trans hb2)
  have yy2 := Nat.le_trans hz1w B2.out.size
  clear ho2 hb2 O2 M2 e0 e1 e2 e3 e4 e5 e6 e7
  obtain ⟨e0, e1, e2, e3, e4, e5, e6, e7⟩ := eightT (cells_up FE.out B2.out (by simp))
  go_wp2_with fail
  refine (merge_any R2.out.texts (texts_nil _) (by simp) (by simp)).mono ?_
  rintro e w9 ⟨v9, rfl, h9, b9⟩
  have T9 := Lib.hid h9
  have N9 := Lib.hid (below2Z (HB.out.trans (B2.out.mono (Nat.le_succ _))) b9)
  clear h9 b9 e0 e1 e2 e3 e4 e5 e6 e7
  go_wp2_with fail
  go_ret
  exact ⟨_, rfl, T9.out, N9.out⟩

set_option maxHeartbeats 1600000 in
set_option maxRecDepth 100000 in
theorem touch_c4 (u o st : List UInt8) (id a b c : Int)  (w : World) :
    Calls Try.prog 21 #[.agg #[.int .i64 4, .string ⟨u.toArray⟩, .string ⟨o.toArray⟩, .int .i64 id, .int .i64 a, .int .i64 b, .int .i64 c, .string ⟨st.toArray⟩]] w fun e w' => ∃ v, e = .returned v ∧ Texts w' v (mrg ([o] ++ [u] ++ [])) ∧ Below w.heap.size w w' := by
  obtain ⟨i0, hi, hz0, hz1, hz2⟩ := info_parts Try.infoTxt
  have b1 := bl_newZ w (.cells #[.int .i64 4, .string ⟨u.toArray⟩, .string ⟨o.toArray⟩, .int .i64 id, .int .i64 a, .int .i64 b, .int .i64 c, .string ⟨st.toArray⟩] 37)
  have HB := Lib.hid b1
  have FE := Lib.hid (cellsAt_made (w := w) (cs := #[.int .i64 4, .string ⟨u.toArray⟩, .string ⟨o.toArray⟩, .int .i64 id, .int .i64 a, .int .i64 b, .int .i64 c, .string ⟨st.toArray⟩]) (vs := evVals ⟨4, u, o, id, ⟨a, b, c, st⟩⟩) rfl 37 rfl)
  have hz := b1.size
  have hz1w : w.heap.size + 1 ≤ (w.alloc (.cells #[.int .i64 4, .string ⟨u.toArray⟩, .string ⟨o.toArray⟩, .int .i64 id, .int .i64 a, .int .i64 b, .int .i64 c, .string ⟨st.toArray⟩] 37)).heap.size := by simp
  have yy0 := hz1w
  obtain ⟨e0, e1, e2, e3, e4, e5, e6, e7⟩ := eightT FE.out
  clear b1
  have B0 : Hid (Below (w.heap.size + 1) (w.alloc (.cells #[.int .i64 4, .string ⟨u.toArray⟩, .string ⟨o.toArray⟩, .int .i64 id, .int .i64 a, .int .i64 b, .int .i64 c, .string ⟨st.toArray⟩] 37)) (w.alloc (.cells #[.int .i64 4, .string ⟨u.toArray⟩, .string ⟨o.toArray⟩, .int .i64 id, .int .i64 a, .int .i64 b, .int .i64 c, .string ⟨st.toArray⟩] 37))) := Lib.hid (Below.refl _ _)
  go_enter Try.func21, Try.ntmps21
  have O1 : Hid (OwnT _ (w.heap.size + 1) 9 (.slice none 0 0) []) := Lib.hid ((World.ownsRow_nil (w.alloc (.cells #[.int .i64 4, .string ⟨u.toArray⟩, .string ⟨o.toArray⟩, .int .i64 id, .int .i64 a, .int .i64 b, .int .i64 c, .string ⟨st.toArray⟩] 37)) _ _ _).alloc (.cells #[.string ⟨o.toArray⟩] 9))
  have M1 := Lib.hid (B0.out.alloc yy0 (.cells #[.string ⟨o.toArray⟩] 9))
  go_wp2_with (at_builtin; go_must (refine wpList_append_texts rfl _ _ 72 rfl (w.heap.size + 1) 9 i0 _ 16 Try.underlying72 hi hz0 hz1 hz2 rfl _ [] rfl (by exact O1.out) _ 1 1 [o] rfl rfl (fun e => nomatch e) ?c1 (by simp only [List.length_cons, List.length_nil]; omega) (by decide) (Nat.le_trans yy0 (bl_newZ _ _).size) ?_))
  case c1 => exact new_cellN (by simp)
  intro v1 W1 ho1 hb1
  have R1 := Lib.hid ho1
  have B1 := Lib.hid (M1.out.trans hb1)
  have yy1 := Nat.le_trans hz1w B1.out.size
  clear ho1 hb1 O1 M1 e0 e1 e2 e3 e4 e5 e6 e7
  obtain ⟨e0, e1, e2, e3, e4, e5, e6, e7⟩ := eightT (cells_up FE.out B1.out (by simp))
  have O2 := Lib.hid ((R1.out).alloc (.cells #[.string ⟨u.toArray⟩] 9))
  have M2 := Lib.hid (B1.out.alloc yy1 (.cells #[.string ⟨u.toArray⟩] 9))
  go_wp2_with (at_builtin; go_must (refine wpList_append_texts rfl _ _ 72 rfl (w.heap.size + 1) 9 i0 _ 16 Try.underlying72 hi hz0 hz1 hz2 rfl _ [o] rfl (by exact O2.out) _ 1 1 [u] rfl rfl (fun e => nomatch e) ?c1 (by simp only [List.length_cons, List.length_nil]; omega) (by decide) (Nat.le_trans yy1 (bl_newZ _ _).size) ?_))
  case c1 => exact new_cellN (by simp)
  intro v2 W2 ho2 hb2
  have R2 := Lib.hid ho2
  have B2 := Lib.hid (M2.out.trans hb2)
  have yy2 := Nat.le_trans hz1w B2.out.size
  clear ho2 hb2 O2 M2 e0 e1 e2 e3 e4 e5 e6 e7
  obtain ⟨e0, e1, e2, e3, e4, e5, e6, e7⟩ := eightT (cells_up FE.out B2.out (by simp))
  go_wp2_with fail
  refine (merge_any R2.out.texts (texts_nil _) (by simp) (by simp)).mono ?_
  rintro e w9 ⟨v9, rfl, h9, b9⟩
  have T9 := Lib.hid h9
  have N9 := Lib.hid (below2Z (HB.out.trans (B2.out.mono (Nat.le_succ _))) b9)
  clear h9 b9 e0 e1 e2 e3 e4 e5 e6 e7
  go_wp2_with fail
  go_ret
  exact ⟨_, rfl, T9.out, N9.out⟩

set_option maxHeartbeats 1600000 in
set_option maxRecDepth 100000 in
theorem touch_c5 (u o st : List UInt8) (id a b c : Int)  (w : World) :
    Calls Try.prog 21 #[.agg #[.int .i64 5, .string ⟨u.toArray⟩, .string ⟨o.toArray⟩, .int .i64 id, .int .i64 a, .int .i64 b, .int .i64 c, .string ⟨st.toArray⟩]] w fun e w' => ∃ v, e = .returned v ∧ Texts w' v (mrg ([o] ++ [u] ++ [])) ∧ Below w.heap.size w w' := by
  obtain ⟨i0, hi, hz0, hz1, hz2⟩ := info_parts Try.infoTxt
  have b1 := bl_newZ w (.cells #[.int .i64 5, .string ⟨u.toArray⟩, .string ⟨o.toArray⟩, .int .i64 id, .int .i64 a, .int .i64 b, .int .i64 c, .string ⟨st.toArray⟩] 37)
  have HB := Lib.hid b1
  have FE := Lib.hid (cellsAt_made (w := w) (cs := #[.int .i64 5, .string ⟨u.toArray⟩, .string ⟨o.toArray⟩, .int .i64 id, .int .i64 a, .int .i64 b, .int .i64 c, .string ⟨st.toArray⟩]) (vs := evVals ⟨5, u, o, id, ⟨a, b, c, st⟩⟩) rfl 37 rfl)
  have hz := b1.size
  have hz1w : w.heap.size + 1 ≤ (w.alloc (.cells #[.int .i64 5, .string ⟨u.toArray⟩, .string ⟨o.toArray⟩, .int .i64 id, .int .i64 a, .int .i64 b, .int .i64 c, .string ⟨st.toArray⟩] 37)).heap.size := by simp
  have yy0 := hz1w
  obtain ⟨e0, e1, e2, e3, e4, e5, e6, e7⟩ := eightT FE.out
  clear b1
  have B0 : Hid (Below (w.heap.size + 1) (w.alloc (.cells #[.int .i64 5, .string ⟨u.toArray⟩, .string ⟨o.toArray⟩, .int .i64 id, .int .i64 a, .int .i64 b, .int .i64 c, .string ⟨st.toArray⟩] 37)) (w.alloc (.cells #[.int .i64 5, .string ⟨u.toArray⟩, .string ⟨o.toArray⟩, .int .i64 id, .int .i64 a, .int .i64 b, .int .i64 c, .string ⟨st.toArray⟩] 37))) := Lib.hid (Below.refl _ _)
  go_enter Try.func21, Try.ntmps21
  have O1 : Hid (OwnT _ (w.heap.size + 1) 9 (.slice none 0 0) []) := Lib.hid ((World.ownsRow_nil (w.alloc (.cells #[.int .i64 5, .string ⟨u.toArray⟩, .string ⟨o.toArray⟩, .int .i64 id, .int .i64 a, .int .i64 b, .int .i64 c, .string ⟨st.toArray⟩] 37)) _ _ _).alloc (.cells #[.string ⟨o.toArray⟩] 9))
  have M1 := Lib.hid (B0.out.alloc yy0 (.cells #[.string ⟨o.toArray⟩] 9))
  go_wp2_with (at_builtin; go_must (refine wpList_append_texts rfl _ _ 72 rfl (w.heap.size + 1) 9 i0 _ 16 Try.underlying72 hi hz0 hz1 hz2 rfl _ [] rfl (by exact O1.out) _ 1 1 [o] rfl rfl (fun e => nomatch e) ?c1 (by simp only [List.length_cons, List.length_nil]; omega) (by decide) (Nat.le_trans yy0 (bl_newZ _ _).size) ?_))
  case c1 => exact new_cellN (by simp)
  intro v1 W1 ho1 hb1
  have R1 := Lib.hid ho1
  have B1 := Lib.hid (M1.out.trans hb1)
  have yy1 := Nat.le_trans hz1w B1.out.size
  clear ho1 hb1 O1 M1 e0 e1 e2 e3 e4 e5 e6 e7
  obtain ⟨e0, e1, e2, e3, e4, e5, e6, e7⟩ := eightT (cells_up FE.out B1.out (by simp))
  have O2 := Lib.hid ((R1.out).alloc (.cells #[.string ⟨u.toArray⟩] 9))
  have M2 := Lib.hid (B1.out.alloc yy1 (.cells #[.string ⟨u.toArray⟩] 9))
  go_wp2_with (at_builtin; go_must (refine wpList_append_texts rfl _ _ 72 rfl (w.heap.size + 1) 9 i0 _ 16 Try.underlying72 hi hz0 hz1 hz2 rfl _ [o] rfl (by exact O2.out) _ 1 1 [u] rfl rfl (fun e => nomatch e) ?c1 (by simp only [List.length_cons, List.length_nil]; omega) (by decide) (Nat.le_trans yy1 (bl_newZ _ _).size) ?_))
  case c1 => exact new_cellN (by simp)
  intro v2 W2 ho2 hb2
  have R2 := Lib.hid ho2
  have B2 := Lib.hid (M2.out.trans hb2)
  have yy2 := Nat.le_trans hz1w B2.out.size
  clear ho2 hb2 O2 M2 e0 e1 e2 e3 e4 e5 e6 e7
  obtain ⟨e0, e1, e2, e3, e4, e5, e6, e7⟩ := eightT (cells_up FE.out B2.out (by simp))
  go_wp2_with fail
  refine (merge_any R2.out.texts (texts_nil _) (by simp) (by simp)).mono ?_
  rintro e w9 ⟨v9, rfl, h9, b9⟩
  have T9 := Lib.hid h9
  have N9 := Lib.hid (below2Z (HB.out.trans (B2.out.mono (Nat.le_succ _))) b9)
  clear h9 b9 e0 e1 e2 e3 e4 e5 e6 e7
  go_wp2_with fail
  go_ret
  exact ⟨_, rfl, T9.out, N9.out⟩

set_option maxHeartbeats 1600000 in
set_option maxRecDepth 100000 in
theorem touch_c6 (u o st : List UInt8) (id a b c : Int)  (w : World) :
    Calls Try.prog 21 #[.agg #[.int .i64 6, .string ⟨u.toArray⟩, .string ⟨o.toArray⟩, .int .i64 id, .int .i64 a, .int .i64 b, .int .i64 c, .string ⟨st.toArray⟩]] w fun e w' => ∃ v, e = .returned v ∧ Texts w' v (mrg ([o] ++ [u] ++ [])) ∧ Below w.heap.size w w' := by
  obtain ⟨i0, hi, hz0, hz1, hz2⟩ := info_parts Try.infoTxt
  have b1 := bl_newZ w (.cells #[.int .i64 6, .string ⟨u.toArray⟩, .string ⟨o.toArray⟩, .int .i64 id, .int .i64 a, .int .i64 b, .int .i64 c, .string ⟨st.toArray⟩] 37)
  have HB := Lib.hid b1
  have FE := Lib.hid (cellsAt_made (w := w) (cs := #[.int .i64 6, .string ⟨u.toArray⟩, .string ⟨o.toArray⟩, .int .i64 id, .int .i64 a, .int .i64 b, .int .i64 c, .string ⟨st.toArray⟩]) (vs := evVals ⟨6, u, o, id, ⟨a, b, c, st⟩⟩) rfl 37 rfl)
  have hz := b1.size
  have hz1w : w.heap.size + 1 ≤ (w.alloc (.cells #[.int .i64 6, .string ⟨u.toArray⟩, .string ⟨o.toArray⟩, .int .i64 id, .int .i64 a, .int .i64 b, .int .i64 c, .string ⟨st.toArray⟩] 37)).heap.size := by simp
  have yy0 := hz1w
  obtain ⟨e0, e1, e2, e3, e4, e5, e6, e7⟩ := eightT FE.out
  clear b1
  have B0 : Hid (Below (w.heap.size + 1) (w.alloc (.cells #[.int .i64 6, .string ⟨u.toArray⟩, .string ⟨o.toArray⟩, .int .i64 id, .int .i64 a, .int .i64 b, .int .i64 c, .string ⟨st.toArray⟩] 37)) (w.alloc (.cells #[.int .i64 6, .string ⟨u.toArray⟩, .string ⟨o.toArray⟩, .int .i64 id, .int .i64 a, .int .i64 b, .int .i64 c, .string ⟨st.toArray⟩] 37))) := Lib.hid (Below.refl _ _)
  go_enter Try.func21, Try.ntmps21
  have O1 : Hid (OwnT _ (w.heap.size + 1) 9 (.slice none 0 0) []) := Lib.hid ((World.ownsRow_nil (w.alloc (.cells #[.int .i64 6, .string ⟨u.toArray⟩, .string ⟨o.toArray⟩, .int .i64 id, .int .i64 a, .int .i64 b, .int .i64 c, .string ⟨st.toArray⟩] 37)) _ _ _).alloc (.cells #[.string ⟨o.toArray⟩] 9))
  have M1 := Lib.hid (B0.out.alloc yy0 (.cells #[.string ⟨o.toArray⟩] 9))
  go_wp2_with (at_builtin; go_must (refine wpList_append_texts rfl _ _ 72 rfl (w.heap.size + 1) 9 i0 _ 16 Try.underlying72 hi hz0 hz1 hz2 rfl _ [] rfl (by exact O1.out) _ 1 1 [o] rfl rfl (fun e => nomatch e) ?c1 (by simp only [List.length_cons, List.length_nil]; omega) (by decide) (Nat.le_trans yy0 (bl_newZ _ _).size) ?_))
  case c1 => exact new_cellN (by simp)
  intro v1 W1 ho1 hb1
  have R1 := Lib.hid ho1
  have B1 := Lib.hid (M1.out.trans hb1)
  have yy1 := Nat.le_trans hz1w B1.out.size
  clear ho1 hb1 O1 M1 e0 e1 e2 e3 e4 e5 e6 e7
  obtain ⟨e0, e1, e2, e3, e4, e5, e6, e7⟩ := eightT (cells_up FE.out B1.out (by simp))
  have O2 := Lib.hid ((R1.out).alloc (.cells #[.string ⟨u.toArray⟩] 9))
  have M2 := Lib.hid (B1.out.alloc yy1 (.cells #[.string ⟨u.toArray⟩] 9))
  go_wp2_with (at_builtin; go_must (refine wpList_append_texts rfl _ _ 72 rfl (w.heap.size + 1) 9 i0 _ 16 Try.underlying72 hi hz0 hz1 hz2 rfl _ [o] rfl (by exact O2.out) _ 1 1 [u] rfl rfl (fun e => nomatch e) ?c1 (by simp only [List.length_cons, List.length_nil]; omega) (by decide) (Nat.le_trans yy1 (bl_newZ _ _).size) ?_))
  case c1 => exact new_cellN (by simp)
  intro v2 W2 ho2 hb2
  have R2 := Lib.hid ho2
  have B2 := Lib.hid (M2.out.trans hb2)
  have yy2 := Nat.le_trans hz1w B2.out.size
  clear ho2 hb2 O2 M2 e0 e1 e2 e3 e4 e5 e6 e7
  obtain ⟨e0, e1, e2, e3, e4, e5, e6, e7⟩ := eightT (cells_up FE.out B2.out (by simp))
  go_wp2_with fail
  refine (merge_any R2.out.texts (texts_nil _) (by simp) (by simp)).mono ?_
  rintro e w9 ⟨v9, rfl, h9, b9⟩
  have T9 := Lib.hid h9
  have N9 := Lib.hid (below2Z (HB.out.trans (B2.out.mono (Nat.le_succ _))) b9)
  clear h9 b9 e0 e1 e2 e3 e4 e5 e6 e7
  go_wp2_with fail
  go_ret
  exact ⟨_, rfl, T9.out, N9.out⟩

set_option maxHeartbeats 1600000 in
set_option maxRecDepth 100000 in
theorem touch_c7 (u o st : List UInt8) (id a b c : Int)  (w : World) :
    Calls Try.prog 21 #[.agg #[.int .i64 7, .string ⟨u.toArray⟩, .string ⟨o.toArray⟩, .int .i64 id, .int .i64 a, .int .i64 b, .int .i64 c, .string ⟨st.toArray⟩]] w fun e w' => ∃ v, e = .returned v ∧ Texts w' v (mrg ([u] ++ [])) ∧ Below w.heap.size w w' := by
  obtain ⟨i0, hi, hz0, hz1, hz2⟩ := info_parts Try.infoTxt
  have b1 := bl_newZ w (.cells #[.int .i64 7, .string ⟨u.toArray⟩, .string ⟨o.toArray⟩, .int .i64 id, .int .i64 a, .int .i64 b, .int .i64 c, .string ⟨st.toArray⟩] 37)
  have HB := Lib.hid b1
  have FE := Lib.hid (cellsAt_made (w := w) (cs := #[.int .i64 7, .string ⟨u.toArray⟩, .string ⟨o.toArray⟩, .int .i64 id, .int .i64 a, .int .i64 b, .int .i64 c, .string ⟨st.toArray⟩]) (vs := evVals ⟨7, u, o, id, ⟨a, b, c, st⟩⟩) rfl 37 rfl)
  have hz := b1.size
  have hz1w : w.heap.size + 1 ≤ (w.alloc (.cells #[.int .i64 7, .string ⟨u.toArray⟩, .string ⟨o.toArray⟩, .int .i64 id, .int .i64 a, .int .i64 b, .int .i64 c, .string ⟨st.toArray⟩] 37)).heap.size := by simp
  have yy0 := hz1w
  obtain ⟨e0, e1, e2, e3, e4, e5, e6, e7⟩ := eightT FE.out
  clear b1
  have B0 : Hid (Below (w.heap.size + 1) (w.alloc (.cells #[.int .i64 7, .string ⟨u.toArray⟩, .string ⟨o.toArray⟩, .int .i64 id, .int .i64 a, .int .i64 b, .int .i64 c, .string ⟨st.toArray⟩] 37)) (w.alloc (.cells #[.int .i64 7, .string ⟨u.toArray⟩, .string ⟨o.toArray⟩, .int .i64 id, .int .i64 a, .int .i64 b, .int .i64 c, .string ⟨st.toArray⟩] 37))) := Lib.hid (Below.refl _ _)
  go_enter Try.func21, Try.ntmps21
  have O1 : Hid (OwnT _ (w.heap.size + 1) 9 (.slice none 0 0) []) := Lib.hid ((World.ownsRow_nil (w.alloc (.cells #[.int .i64 7, .string ⟨u.toArray⟩, .string ⟨o.toArray⟩, .int .i64 id, .int .i64 a, .int .i64 b, .int .i64 c, .string ⟨st.toArray⟩] 37)) _ _ _).alloc (.cells #[.string ⟨u.toArray⟩] 9))
  have M1 := Lib.hid (B0.out.alloc yy0 (.cells #[.string ⟨u.toArray⟩] 9))
  go_wp2_with (at_builtin; go_must (refine wpList_append_texts rfl _ _ 72 rfl (w.heap.size + 1) 9 i0 _ 16 Try.underlying72 hi hz0 hz1 hz2 rfl _ [] rfl (by exact O1.out) _ 1 1 [u] rfl rfl (fun e => nomatch e) ?c1 (by simp only [List.length_cons, List.length_nil]; omega) (by decide) (Nat.le_trans yy0 (bl_newZ _ _).size) ?_))
  case c1 => exact new_cellN (by simp)
  intro v1 W1 ho1 hb1
  have R1 := Lib.hid ho1
  have B1 := Lib.hid (M1.out.trans hb1)
  have yy1 := Nat.le_trans hz1w B1.out.size
  clear ho1 hb1 O1 M1 e0 e1 e2 e3 e4 e5 e6 e7
  obtain ⟨e0, e1, e2, e3, e4, e5, e6, e7⟩ := eightT (cells_up FE.out B1.out (by simp))
  go_wp2_with fail
  refine (merge_any R1.out.texts (texts_nil _) (by simp) (by simp)).mono ?_
  rintro e w9 ⟨v9, rfl, h9, b9⟩
  have T9 := Lib.hid h9
  have N9 := Lib.hid (below2Z (HB.out.trans (B1.out.mono (Nat.le_succ _))) b9)
  clear h9 b9 e0 e1 e2 e3 e4 e5 e6 e7
  go_wp2_with fail
  go_ret
  exact ⟨_, rfl, T9.out, N9.out⟩

set_option maxHeartbeats 1600000 in
set_option maxRecDepth 100000 in
theorem touch_c8 (u o st : List UInt8) (id a b c : Int)  (w : World) :
    Calls Try.prog 21 #[.agg #[.int .i64 8, .string ⟨u.toArray⟩, .string ⟨o.toArray⟩, .int .i64 id, .int .i64 a, .int .i64 b, .int .i64 c, .string ⟨st.toArray⟩]] w fun e w' => ∃ v, e = .returned v ∧ Texts w' v (mrg ([u] ++ [])) ∧ Below w.heap.size w w' := by
  obtain ⟨i0, hi, hz0, hz1, hz2⟩ := info_parts Try.infoTxt
  have b1 := bl_newZ w (.cells #[.int .i64 8, .string ⟨u.toArray⟩, .string ⟨o.toArray⟩, .int .i64 id, .int .i64 a, .int .i64 b, .int .i64 c, .string ⟨st.toArray⟩] 37)
  have HB := Lib.hid b1
  have FE := Lib.hid (cellsAt_made (w := w) (cs := #[.int .i64 8, .string ⟨u.toArray⟩, .string ⟨o.toArray⟩, .int .i64 id, .int .i64 a, .int .i64 b, .int .i64 c, .string ⟨st.toArray⟩]) (vs := evVals ⟨8, u, o, id, ⟨a, b, c, st⟩⟩) rfl 37 rfl)
  have hz := b1.size
  have hz1w : w.heap.size + 1 ≤ (w.alloc (.cells #[.int .i64 8, .string ⟨u.toArray⟩, .string ⟨o.toArray⟩, .int .i64 id, .int .i64 a, .int .i64 b, .int .i64 c, .string ⟨st.toArray⟩] 37)).heap.size := by simp
  have yy0 := hz1w
  obtain ⟨e0, e1, e2, e3, e4, e5, e6, e7⟩ := eightT FE.out
  clear b1
  have B0 : Hid (Below (w.heap.size + 1) (w.alloc (.cells #[.int .i64 8, .string ⟨u.toArray⟩, .string ⟨o.toArray⟩, .int .i64 id, .int .i64 a, .int .i64 b, .int .i64 c, .string ⟨st.toArray⟩] 37)) (w.alloc (.cells #[.int .i64 8, .string ⟨u.toArray⟩, .string ⟨o.toArray⟩, .int .i64 id, .int .i64 a, .int .i64 b, .int .i64 c, .string ⟨st.toArray⟩] 37))) := Lib.hid (Below.refl _ _)
  go_enter Try.func21, Try.ntmps21
  have O1 : Hid (OwnT _ (w.heap.size + 1) 9 (.slice none 0 0) []) := Lib.hid ((World.ownsRow_nil (w.alloc (.cells #[.int .i64 8, .string ⟨u.toArray⟩, .string ⟨o.toArray⟩, .int .i64 id, .int .i64 a, .int .i64 b, .int .i64 c, .string ⟨st.toArray⟩] 37)) _ _ _).alloc (.cells #[.string ⟨u.toArray⟩] 9))
  have M1 := Lib.hid (B0.out.alloc yy0 (.cells #[.string ⟨u.toArray⟩] 9))
  go_wp2_with (at_builtin; go_must (refine wpList_append_texts rfl _ _ 72 rfl (w.heap.size + 1) 9 i0 _ 16 Try.underlying72 hi hz0 hz1 hz2 rfl _ [] rfl (by exact O1.out) _ 1 1 [u] rfl rfl (fun e => nomatch e) ?c1 (by simp only [List.length_cons, List.length_nil]; omega) (by decide) (Nat.le_trans yy0 (bl_newZ _ _).size) ?_))
  case c1 => exact new_cellN (by simp)
  intro v1 W1 ho1 hb1
  have R1 := Lib.hid ho1
  have B1 := Lib.hid (M1.out.trans hb1)
  have yy1 := Nat.le_trans hz1w B1.out.size
  clear ho1 hb1 O1 M1 e0 e1 e2 e3 e4 e5 e6 e7
  obtain ⟨e0, e1, e2, e3, e4, e5, e6, e7⟩ := eightT (cells_up FE.out B1.out (by simp))
  go_wp2_with fail
  refine (merge_any R1.out.texts (texts_nil _) (by simp) (by simp)).mono ?_
  rintro e w9 ⟨v9, rfl, h9, b9⟩
  have T9 := Lib.hid h9
  have N9 := Lib.hid (below2Z (HB.out.trans (B1.out.mono (Nat.le_succ _))) b9)
  clear h9 b9 e0 e1 e2 e3 e4 e5 e6 e7
  go_wp2_with fail
  go_ret
  exact ⟨_, rfl, T9.out, N9.out⟩

set_option maxHeartbeats 1600000 in
set_option maxRecDepth 100000 in
theorem touch_no (u o st : List UInt8) (id a b c : Int) (k : Int) (hb : k < 1 ∨ 8 < k) (w : World) :
    Calls Try.prog 21 #[.agg #[.int .i64 k, .string ⟨u.toArray⟩, .string ⟨o.toArray⟩, .int .i64 id, .int .i64 a, .int .i64 b, .int .i64 c, .string ⟨st.toArray⟩]] w fun e w' => ∃ v, e = .returned v ∧ Texts w' v (mrg ([] ++ [])) ∧ Below w.heap.size w w' := by
  have t1 : (k == 1) = false := by rw [beq_eq_false_iff_ne]; omega
  have t2 : (k == 2) = false := by rw [beq_eq_false_iff_ne]; omega
  have t3 : (k == 3) = false := by rw [beq_eq_false_iff_ne]; omega
  have t4 : (k == 4) = false := by rw [beq_eq_false_iff_ne]; omega
  have t5 : (k == 5) = false := by rw [beq_eq_false_iff_ne]; omega
  have t6 : (k == 6) = false := by rw [beq_eq_false_iff_ne]; omega
  have t7 : (k == 7) = false := by rw [beq_eq_false_iff_ne]; omega
  have t8 : (k == 8) = false := by rw [beq_eq_false_iff_ne]; omega
  obtain ⟨i0, hi, hz0, hz1, hz2⟩ := info_parts Try.infoTxt
  have b1 := bl_newZ w (.cells #[.int .i64 k, .string ⟨u.toArray⟩, .string ⟨o.toArray⟩, .int .i64 id, .int .i64 a, .int .i64 b, .int .i64 c, .string ⟨st.toArray⟩] 37)
  have HB := Lib.hid b1
  have FE := Lib.hid (cellsAt_made (w := w) (cs := #[.int .i64 k, .string ⟨u.toArray⟩, .string ⟨o.toArray⟩, .int .i64 id, .int .i64 a, .int .i64 b, .int .i64 c, .string ⟨st.toArray⟩]) (vs := evVals ⟨k, u, o, id, ⟨a, b, c, st⟩⟩) rfl 37 rfl)
  have hz := b1.size
  have hz1w : w.heap.size + 1 ≤ (w.alloc (.cells #[.int .i64 k, .string ⟨u.toArray⟩, .string ⟨o.toArray⟩, .int .i64 id, .int .i64 a, .int .i64 b, .int .i64 c, .string ⟨st.toArray⟩] 37)).heap.size := by simp
  have yy0 := hz1w
  obtain ⟨e0, e1, e2, e3, e4, e5, e6, e7⟩ := eightT FE.out
  clear b1
  have B0 : Hid (Below (w.heap.size + 1) (w.alloc (.cells #[.int .i64 k, .string ⟨u.toArray⟩, .string ⟨o.toArray⟩, .int .i64 id, .int .i64 a, .int .i64 b, .int .i64 c, .string ⟨st.toArray⟩] 37)) (w.alloc (.cells #[.int .i64 k, .string ⟨u.toArray⟩, .string ⟨o.toArray⟩, .int .i64 id, .int .i64 a, .int .i64 b, .int .i64 c, .string ⟨st.toArray⟩] 37))) := Lib.hid (Below.refl _ _)
  go_enter Try.func21, Try.ntmps21
  go_wp2_with fail
  refine (merge_any (texts_nil _) (texts_nil _) (by simp) (by simp)).mono ?_
  rintro e w9 ⟨v9, rfl, h9, b9⟩
  have T9 := Lib.hid h9
  have N9 := Lib.hid (below2Z HB.out b9)
  clear h9 b9 e0 e1 e2 e3 e4 e5 e6 e7
  go_wp2_with fail
  go_ret
  exact ⟨_, rfl, T9.out, N9.out⟩

theorem touch_any (e : Ev) (w : World) :
    Calls Try.prog 21 #[.agg #[.int .i64 e.k, .string ⟨e.u.toArray⟩, .string ⟨e.o.toArray⟩, .int .i64 e.id, .int .i64 e.v.sh, .int .i64 e.v.pr, .int .i64 e.v.si, .string ⟨e.v.st.toArray⟩]] w fun z w' => ∃ v, z = .returned v ∧ Texts w' v (stTouch e) ∧ Below w.heap.size w w' := by
  obtain ⟨k, u, o, id, ⟨a, b, c, st⟩⟩ := e
  by_cases hb : k < 1 ∨ 8 < k
  · rw [stTouch_no hb]
    exact touch_no u o st id a b c k hb w
  · by_cases h6 : k ≤ 6
    · rw [stTouch_two (by show 1 ≤ k; omega) h6]
      have hk : k = 1 ∨ k = 2 ∨ k = 3 ∨ k = 4 ∨ k = 5 ∨ k = 6 := by omega
      rcases hk with rfl | rfl | rfl | rfl | rfl | rfl
      · exact touch_c1 u o st id a b c w
      · exact touch_c2 u o st id a b c w
      · exact touch_c3 u o st id a b c w
      · exact touch_c4 u o st id a b c w
      · exact touch_c5 u o st id a b c w
      · exact touch_c6 u o st id a b c w
    · have hk : k = 7 ∨ k = 8 := by omega
      rw [stTouch_one hk]
      rcases hk with rfl | rfl
      · exact touch_c7 u o st id a b c w
      · exact touch_c8 u o st id a b c w

end Go.Proofs.Ytndicdomdndjaaa

end

section

/-
  THE CONTRACT OF live OF LAYER 3's STATEMENTS: it returns true.
-/
namespace Go.Proofs.Ytndicdomdndjaaa
open Go.RowKit

/-- A row of texts that is built with what it holds. -/
theorem texts_made (w : World) (T : TypeId) (B : Nat) (hB : B = w.heap.size) (ls : List (List UInt8)) (hl : ls.length ≤ 100) (A : Array Value) (hA : A = (ls.map encS).toArray) (n : Nat) (hn : n = ls.length) :
    Texts (w.alloc (.cells A T)) (.slice (some ⟨B, 0, none⟩) n n) ls := by
  subst hB hA hn
  refine ⟨_, _, rfl, Nat.le_refl _, by unfold maxLen; omega, (fun e => by cases e), .inr ⟨_, _, rfl, by simp, fun i hi => ?_⟩⟩
  rw [World.cell?_alloc_at _ _ _ _ rfl, Nat.zero_add]
  simp [List.getD, List.getElem?_eq_getElem hi]

theorem i1 : Hid (idFold [65, 110, 110, 45, 50] = ([97, 110, 110, 45, 50], true)) := by show _ = _; decide +kernel
theorem i2 : Hid (idFold [50, 97, 110, 110] = ([], false)) := by show _ = _; decide +kernel
theorem i3 : Hid (idPut [98, 111, 98] = ([3, 98, 111, 98], true)) := by show _ = _; decide +kernel
theorem i4 : Hid (idPut [66, 111, 98] = ([], false)) := by show _ = _; decide +kernel
theorem i5 : Hid (idTake [120, 3, 98, 111, 98] 1 = ([98, 111, 98], 5, 0)) := by show _ = _; kernel_rfl
end Go.Proofs.Ytndicdomdndjaaa

end

section

/-
  LAYER 14: the document's live answers.
-/
namespace Go.Proofs.Ytndicdomdndjaaa
open Go.RowKit

def lvE : List Ev := [⟨7, [97, 110, 110], [], 1, ⟨4, 0, 0, []⟩⟩, ⟨1, [98, 111, 98], [97, 110, 110], 0, ⟨0, 0, 0, []⟩⟩, ⟨2, [97, 110, 110], [98, 111, 98], 0, ⟨0, 0, 0, []⟩⟩, ⟨8, [97, 110, 110], [], 2, ⟨0, 0, 0, []⟩⟩, ⟨9, [], [], 0, ⟨0, 0, 0, []⟩⟩, ⟨1, [98, 111, 98], [97, 110, 110], 0, ⟨0, 0, 0, []⟩⟩]
def lvA : Ses := ⟨[97, 110, 110], 1, ⟨4, 0, 0, []⟩⟩
def lvS0 : Sta := ⟨[], []⟩
def lvS1 : Sta := ⟨lvM2, [lvA]⟩
def lvS2 : Sta := ⟨lvM2, []⟩
def lvS3 : Sta := ⟨lvM2.take 1, []⟩

theorem lvAll : (stAll lvS0 lvE).1 = lvS1 := by kernel_rfl
theorem lvNums : numsOf lvS0 lvE = [0, 0, 0, 6, 1, 7] := by kernel_rfl
theorem lvAp : stApply lvS1 ⟨8, [97, 110, 110], [], 1, ⟨0, 0, 0, []⟩⟩ = (lvS2, 0) := by kernel_rfl
theorem lvMay1 : stMay lvS1 = true := by kernel_rfl
theorem lvMay3 : stMay lvS3 = false := by kernel_rfl
theorem lvSm : staSame lvS1 lvS2 = false := by kernel_rfl
theorem lvT1 : stTouch ⟨5, [98, 111, 98], [97, 108], 0, ⟨0, 0, 0, []⟩⟩ = [[97, 108], [98, 111, 98]] := by kernel_rfl
theorem lvT2 : stTouch ⟨8, [98, 111, 98], [97, 108], 0, ⟨0, 0, 0, []⟩⟩ = [[98, 111, 98]] := by kernel_rfl
theorem lvOK0 : StOK lvS0 := ⟨fun e h => by simp [lvS0] at h, fun e h => by simp [lvS0] at h⟩
theorem lvOK3 : StOK lvS3 := ⟨lvs3, fun e h => by simp [lvS3] at h⟩

theorem lvSh : ∀ e ∈ lvE, evShort e := by
  intro e h
  simp only [lvE, List.mem_cons, List.not_mem_nil, or_false] at h
  rcases h with rfl | rfl | rfl | rfl | rfl | rfl <;> (refine ⟨?_, ?_, ?_⟩ <;> decide)

/-- What the last statement reads. -/
def lvQ (X : World) (nb no S T : Nat) (x1 y1 x2 y2 : Value) : Prop :=
  X.cell? ⟨nb, no, none⟩ = some (.int .i64 0) ∧ X.cell? ⟨nb, no + 1, none⟩ = some (.int .i64 0) ∧ X.cell? ⟨nb, no + 2, none⟩ = some (.int .i64 0) ∧ X.cell? ⟨nb, no + 3, none⟩ = some (.int .i64 6) ∧ X.cell? ⟨nb, no + 4, none⟩ = some (.int .i64 1) ∧ X.cell? ⟨nb, no + 5, none⟩ = some (.int .i64 7) ∧
  X.cell? ⟨S, 0, none⟩ = some x1 ∧ X.cell? ⟨S, 1, none⟩ = some y1 ∧ X.cell? ⟨T, 0, none⟩ = some x2 ∧ X.cell? ⟨T, 1, none⟩ = some y2

theorem lvQ_up {W X : World} {nb no S T : Nat} {x1 y1 x2 y2 : Value} (hb : Below W.heap.size W X) (h : lvQ W nb no S T x1 y1 x2 y2) : lvQ X nb no S T x1 y1 x2 y2 := by
  obtain ⟨h0, h1, h2, h3, h4, h5, h6, h7, h8, h9⟩ := h
  exact ⟨cellLaterZ h0 hb, cellLaterZ h1 hb, cellLaterZ h2 hb, cellLaterZ h3 hb, cellLaterZ h4 hb, cellLaterZ h5 hb, cellLaterZ h6 hb, cellLaterZ h7 hb, cellLaterZ h8 hb, cellLaterZ h9 hb⟩

set_option maxHeartbeats 12800000 in
set_option maxRecDepth 100000 in
theorem live14 (w : World) : Calls Try.prog 6 #[] w fun e w' => e = .returned (.bool true) ∧ Below w.heap.size w w' := by
  have b1 := bl_newZ w (.cells #[.int .i64 4, .int .i64 0, .int .i64 0, .string ⟨#[]⟩] 35)
  have b2 := bl_newZ (w.alloc (.cells #[.int .i64 4, .int .i64 0, .int .i64 0, .string ⟨#[]⟩] 35)) (.cells #[.int .i64 7, .string ⟨#[97, 110, 110]⟩, .string ⟨#[]⟩, .int .i64 1, .int .i64 4, .int .i64 0, .int .i64 0, .string ⟨#[]⟩, .int .i64 1, .string ⟨#[98, 111, 98]⟩, .string ⟨#[97, 110, 110]⟩, .int .i64 0, .int .i64 0, .int .i64 0, .int .i64 0, .string ⟨#[]⟩, .int .i64 2, .string ⟨#[97, 110, 110]⟩, .string ⟨#[98, 111, 98]⟩, .int .i64 0, .int .i64 0, .int .i64 0, .int .i64 0, .string ⟨#[]⟩, .int .i64 8, .string ⟨#[97, 110, 110]⟩, .string ⟨#[]⟩, .int .i64 2, .int .i64 0, .int .i64 0, .int .i64 0, .string ⟨#[]⟩, .int .i64 9, .string ⟨#[]⟩, .string ⟨#[]⟩, .int .i64 0, .int .i64 0, .int .i64 0, .int .i64 0, .string ⟨#[]⟩, .int .i64 1, .string ⟨#[98, 111, 98]⟩, .string ⟨#[97, 110, 110]⟩, .int .i64 0, .int .i64 0, .int .i64 0, .int .i64 0, .string ⟨#[]⟩] 37)
  have HB := Lib.hid (below2Z b1 b2)
  have HA := Lib.hid (stall_any (w := (w.alloc (.cells #[.int .i64 4, .int .i64 0, .int .i64 0, .string ⟨#[]⟩] 35)).alloc (.cells #[.int .i64 7, .string ⟨#[97, 110, 110]⟩, .string ⟨#[]⟩, .int .i64 1, .int .i64 4, .int .i64 0, .int .i64 0, .string ⟨#[]⟩, .int .i64 1, .string ⟨#[98, 111, 98]⟩, .string ⟨#[97, 110, 110]⟩, .int .i64 0, .int .i64 0, .int .i64 0, .int .i64 0, .string ⟨#[]⟩, .int .i64 2, .string ⟨#[97, 110, 110]⟩, .string ⟨#[98, 111, 98]⟩, .int .i64 0, .int .i64 0, .int .i64 0, .int .i64 0, .string ⟨#[]⟩, .int .i64 8, .string ⟨#[97, 110, 110]⟩, .string ⟨#[]⟩, .int .i64 2, .int .i64 0, .int .i64 0, .int .i64 0, .string ⟨#[]⟩, .int .i64 9, .string ⟨#[]⟩, .string ⟨#[]⟩, .int .i64 0, .int .i64 0, .int .i64 0, .int .i64 0, .string ⟨#[]⟩, .int .i64 1, .string ⟨#[98, 111, 98]⟩, .string ⟨#[97, 110, 110]⟩, .int .i64 0, .int .i64 0, .int .i64 0, .int .i64 0, .string ⟨#[]⟩] 37)) (t := lvS0) ⟨ents_nil _, rdS_nil _⟩ lvOK0 (by decide) (l := lvE) (rdS_made evOK (l := lvE) (B := w.heap.size + 1) (cs := #[.int .i64 7, .string ⟨#[97, 110, 110]⟩, .string ⟨#[]⟩, .int .i64 1, .int .i64 4, .int .i64 0, .int .i64 0, .string ⟨#[]⟩, .int .i64 1, .string ⟨#[98, 111, 98]⟩, .string ⟨#[97, 110, 110]⟩, .int .i64 0, .int .i64 0, .int .i64 0, .int .i64 0, .string ⟨#[]⟩, .int .i64 2, .string ⟨#[97, 110, 110]⟩, .string ⟨#[98, 111, 98]⟩, .int .i64 0, .int .i64 0, .int .i64 0, .int .i64 0, .string ⟨#[]⟩, .int .i64 8, .string ⟨#[97, 110, 110]⟩, .string ⟨#[]⟩, .int .i64 2, .int .i64 0, .int .i64 0, .int .i64 0, .string ⟨#[]⟩, .int .i64 9, .string ⟨#[]⟩, .string ⟨#[]⟩, .int .i64 0, .int .i64 0, .int .i64 0, .int .i64 0, .string ⟨#[]⟩, .int .i64 1, .string ⟨#[98, 111, 98]⟩, .string ⟨#[97, 110, 110]⟩, .int .i64 0, .int .i64 0, .int .i64 0, .int .i64 0, .string ⟨#[]⟩]) rfl (by decide) (by simp)) (by decide) lvSh)
  have hlE : lvE.length = 6 := rfl
  rw [lvAll, lvNums, hlE] at HA
  clear b1 b2 hlE
  go_enter Try.func6, Try.ntmps6
  go_wp2_with fail
  refine HA.out.mono ?_
  rintro e w3 ⟨x1, y1, u, rfl, h3, hn3, b3⟩
  replace HB := Lib.hid (below2Z HB.out b3)
  obtain ⟨au, cu, e3, -⟩ := RdS.open' hn3
  obtain ⟨ax, cx, ex, -⟩ := h3.1.open'
  rw [show lvS1.e.length = 2 from rfl] at ex
  subst ex
  obtain ⟨ay, cy, ey, -⟩ := RdS.open' h3.2
  rw [show lvS1.s.length = 1 from rfl] at ey
  subst ey
  subst e3
  have b4 := bl_newZ w3 (.cells #[.slice ax 2 cx, .slice ay 1 cy] 28)
  replace HB := Lib.hid (below2Z HB.out b4)
  have H3 := Lib.hid (h3.later b4)
  have HN := Lib.hid (RdS.later hn3 b4)
  have FS := Lib.hid (heap_newT w3 (.cells #[.slice ax 2 cx, .slice ay 1 cy] 28))
  clear b3 b4 h3 hn3 HA
  go_wp2_with fail
  generalize hW : w3.alloc (.cells #[.slice ax 2 cx, .slice ay 1 cy] 28) = w4 at HB H3 HN FS ⊢
  generalize hS : w3.heap.size = S at FS ⊢
  clear hW hS
  refine (stdo_any H3.out (stOK_may lvMay1).1 (by decide) (stOK_may lvMay1).2 ⟨8, [97, 110, 110], [], 1, ⟨0, 0, 0, []⟩⟩ (by decide) (by decide) (by decide) lvAp).mono ?_
  rintro e w5 ⟨x2, y2, rfl, h5, b5⟩
  obtain ⟨ax2, cx2, ex2, -⟩ := h5.1.open'
  rw [show lvS2.e.length = 2 from rfl] at ex2
  subst ex2
  obtain ⟨ay2, cy2, ey2, -⟩ := RdS.open' h5.2
  rw [show lvS2.s.length = 0 from rfl] at ey2
  subst ey2
  have b6 := bl_newZ w5 (.cells #[.slice ax2 2 cx2, .slice ay2 0 cy2] 28)
  replace HB := Lib.hid (below2Z HB.out (below2Z b5 b6))
  replace H3 := Lib.hid (H3.out.later (below2Z b5 b6))
  replace HN := Lib.hid (RdS.later HN.out (below2Z b5 b6))
  replace FS := Lib.hid (upT FS.out (below2Z b5 b6))
  have H5 := Lib.hid (h5.later b6)
  have FT := Lib.hid (heap_newT w5 (.cells #[.slice ax2 2 cx2, .slice ay2 0 cy2] 28))
  clear b5 b6 h5
  obtain ⟨nb, no, e5, n0⟩ := Nums.at HN.out (Below.refl _ _) 0 (by decide)
  subst e5
  have n1 : ∀ k, (hk : k < 6) → (w5.alloc (.cells #[.slice ax2 2 cx2, .slice ay2 0 cy2] 28)).cell? ⟨nb, no + k, none⟩ = some (.int .i64 (([0, 0, 0, 6, 1, 7] : List Int).getD k 0)) := by
    intro k hk
    obtain ⟨nb', no', e, h⟩ := Nums.at HN.out (Below.refl _ _) k hk
    injection e with e
    injection e with e1 e2 _
    subst e1 e2
    exact h
  obtain ⟨bk, off, ea, -⟩ := Ents.row H3.out.1 (Below.refl _ _) 0 (by decide)
  subst ea
  have hcx : (2 : Nat) ≤ cx ∧ cx ≤ 9223372036854775807 := by
    obtain ⟨_, _, e, h1, h2, _⟩ := H3.out.1
    simp only [Value.slice.injEq] at e
    obtain ⟨-, -, rfl⟩ := e
    unfold maxLen at h2
    exact ⟨h1, h2⟩
  obtain ⟨hcx1, hcx2⟩ := hcx
  have hQ : lvQ (w5.alloc (.cells #[.slice ax2 2 cx2, .slice ay2 0 cy2] 28)) nb no S w5.heap.size (.slice (some ⟨bk, off, none⟩) 2 cx) (.slice ay 1 cy) (.slice ax2 2 cx2) (.slice ay2 0 cy2) := by
    obtain ⟨s0, s1, -, -⟩ := two_T FS.out
    obtain ⟨t0, t1, -, -⟩ := two_T FT.out
    exact ⟨n1 0 (by decide), n1 1 (by decide), n1 2 (by decide), n1 3 (by decide), n1 4 (by decide), n1 5 (by decide), s0, s1, t0, t1⟩
  have HQ := Lib.hid hQ
  clear hQ n0 n1 FS FT HN
  go_upto_region 6 with fail
  generalize hW : w5.alloc (.cells #[.slice ax2 2 cx2, .slice ay2 0 cy2] 28) = W at HB H3 H5 HQ ⊢
  generalize hT : w5.heap.size = T at HQ ⊢
  clear hW hT
  obtain ⟨q0, q1, q2, q3, q4, q5, q6, q7, q8, q9⟩ := HQ.out
  go_wp2_with fail
  refine (stmay_any H3.out (stOK_may lvMay1).1 (stOK_may lvMay1).2 (Lib.hid lvMay1)).mono ?_
  rintro e p1 ⟨rfl, b1⟩
  replace HB := Lib.hid (below2Z HB.out b1)
  replace H3 := Lib.hid (H3.out.later b1)
  replace H5 := Lib.hid (H5.out.later b1)
  replace HQ := Lib.hid (lvQ_up b1 HQ.out)
  clear q0 q1 q2 q3 q4 q5 q6 q7 q8 q9 b1
  obtain ⟨q0, q1, q2, q3, q4, q5, q6, q7, q8, q9⟩ := HQ.out
  go_wp2_with fail
  refine (stmay_any (t := lvS3) ⟨Ents.cut H3.out.1 (k := 1) (by decide), rdS_nil _⟩ lvOK3.1 lvOK3.2 (Lib.hid lvMay3)).mono ?_
  rintro e p2 ⟨rfl, b2⟩
  replace HB := Lib.hid (below2Z HB.out b2)
  replace H3 := Lib.hid (H3.out.later b2)
  replace H5 := Lib.hid (H5.out.later b2)
  replace HQ := Lib.hid (lvQ_up b2 HQ.out)
  clear q0 q1 q2 q3 q4 q5 q6 q7 q8 q9 b2
  obtain ⟨q0, q1, q2, q3, q4, q5, q6, q7, q8, q9⟩ := HQ.out
  go_wp2_with fail
  refine (stsame_any H3.out H3.out (Lib.hid (staSame_self _))).mono ?_
  rintro e p3 ⟨rfl, b3⟩
  replace HB := Lib.hid (below2Z HB.out b3)
  replace H3 := Lib.hid (H3.out.later b3)
  replace H5 := Lib.hid (H5.out.later b3)
  replace HQ := Lib.hid (lvQ_up b3 HQ.out)
  clear q0 q1 q2 q3 q4 q5 q6 q7 q8 q9 b3
  obtain ⟨q0, q1, q2, q3, q4, q5, q6, q7, q8, q9⟩ := HQ.out
  go_wp2_with fail
  refine (stsame_any H3.out H5.out (Lib.hid lvSm)).mono ?_
  rintro e p4 ⟨rfl, b4⟩
  replace HB := Lib.hid (below2Z HB.out b4)
  replace H3 := Lib.hid (H3.out.later b4)
  replace H5 := Lib.hid (H5.out.later b4)
  replace HQ := Lib.hid (lvQ_up b4 HQ.out)
  clear q0 q1 q2 q3 q4 q5 q6 q7 q8 q9 b4
  obtain ⟨q0, q1, q2, q3, q4, q5, q6, q7, q8, q9⟩ := HQ.out
  go_wp2_with fail
  refine (touch_any ⟨5, [98, 111, 98], [97, 108], 0, ⟨0, 0, 0, []⟩⟩ _).mono ?_
  rintro e p5 ⟨z5, rfl, hz5, b5⟩
  replace HB := Lib.hid (below2Z HB.out b5)
  replace H3 := Lib.hid (H3.out.later b5)
  replace H5 := Lib.hid (H5.out.later b5)
  replace HQ := Lib.hid (lvQ_up b5 HQ.out)
  rw [lvT1] at hz5
  have T5 := Lib.hid hz5
  obtain ⟨za5, zk5, ez5, -⟩ := hz5
  subst ez5
  clear q0 q1 q2 q3 q4 q5 q6 q7 q8 q9 b5
  obtain ⟨q0, q1, q2, q3, q4, q5, q6, q7, q8, q9⟩ := HQ.out
  have bb5 := bl_newZ p5 (.cells #[.string ⟨#[97, 108]⟩, .string ⟨#[98, 111, 98]⟩] 9)
  replace HB := Lib.hid (below2Z HB.out bb5)
  replace H3 := Lib.hid (H3.out.later bb5)
  replace H5 := Lib.hid (H5.out.later bb5)
  replace HQ := Lib.hid (lvQ_up bb5 HQ.out)
  replace T5 := Lib.hid (T5.out.later bb5)
  have U5 := Lib.hid (texts_made p5 9 p5.heap.size rfl [[97, 108], [98, 111, 98]] (by simp) #[.string ⟨#[97, 108]⟩, .string ⟨#[98, 111, 98]⟩] rfl 2 rfl)
  clear bb5
  go_wp2_with fail
  refine (same_yes (ls := [[97, 108], [98, 111, 98]]) T5.out U5.out (by simp)).mono ?_
  rintro e p50 ⟨rfl, b50⟩
  replace HB := Lib.hid (below2Z HB.out b50)
  replace H3 := Lib.hid (H3.out.later b50)
  replace H5 := Lib.hid (H5.out.later b50)
  replace HQ := Lib.hid (lvQ_up b50 HQ.out)
  clear q0 q1 q2 q3 q4 q5 q6 q7 q8 q9 b50
  obtain ⟨q0, q1, q2, q3, q4, q5, q6, q7, q8, q9⟩ := HQ.out
  go_wp2_with fail
  refine (touch_any ⟨8, [98, 111, 98], [97, 108], 0, ⟨0, 0, 0, []⟩⟩ _).mono ?_
  rintro e p6 ⟨z6, rfl, hz6, b6⟩
  replace HB := Lib.hid (below2Z HB.out b6)
  replace H3 := Lib.hid (H3.out.later b6)
  replace H5 := Lib.hid (H5.out.later b6)
  replace HQ := Lib.hid (lvQ_up b6 HQ.out)
  rw [lvT2] at hz6
  have T6 := Lib.hid hz6
  obtain ⟨za6, zk6, ez6, -⟩ := hz6
  subst ez6
  clear q0 q1 q2 q3 q4 q5 q6 q7 q8 q9 b6
  obtain ⟨q0, q1, q2, q3, q4, q5, q6, q7, q8, q9⟩ := HQ.out
  have bb6 := bl_newZ p6 (.cells #[.string ⟨#[98, 111, 98]⟩] 9)
  replace HB := Lib.hid (below2Z HB.out bb6)
  replace H3 := Lib.hid (H3.out.later bb6)
  replace H5 := Lib.hid (H5.out.later bb6)
  replace HQ := Lib.hid (lvQ_up bb6 HQ.out)
  replace T6 := Lib.hid (T6.out.later bb6)
  have U6 := Lib.hid (texts_made p6 9 p6.heap.size rfl [[98, 111, 98]] (by simp) #[.string ⟨#[98, 111, 98]⟩] rfl 1 rfl)
  clear bb6
  go_wp2_with fail
  refine (same_yes (ls := [[98, 111, 98]]) T6.out U6.out (by simp)).mono ?_
  rintro e p60 ⟨rfl, b60⟩
  replace HB := Lib.hid (below2Z HB.out b60)
  replace H3 := Lib.hid (H3.out.later b60)
  replace H5 := Lib.hid (H5.out.later b60)
  replace HQ := Lib.hid (lvQ_up b60 HQ.out)
  clear q0 q1 q2 q3 q4 q5 q6 q7 q8 q9 b60
  obtain ⟨q0, q1, q2, q3, q4, q5, q6, q7, q8, q9⟩ := HQ.out
  clear q0 q1 q2 q3 q4 q5 q6 q7 q8 q9
  go_wp2_with fail
  go_ret
  exact ⟨rfl, HB.out⟩

end Go.Proofs.Ytndicdomdndjaaa

end

section

/-
  LAYER 14: words for the walk of StateParts.
-/
namespace Go.Proofs.Ytndicdomdndjaaa
open Go.RowKit

theorem stat_nilW (X : World) : StAt X (.slice none 0 0) (.slice none 0 0) ⟨[], []⟩ := ⟨ents_nil _, rdS_nil _⟩
theorem stOK_nilW : StOK (⟨[], []⟩ : Sta) := ⟨fun e h => by simp at h, fun e h => by simp at h⟩

theorem stAll_okW : ∀ (t : Sta) (l : List Ev), StOK t → StOK (stAll t l).1 ∧ (stAll t l).1.e.length ≤ t.e.length + 2 * l.length
  | t, [], h => ⟨h, by show t.e.length ≤ t.e.length + 2 * 0; omega⟩
  | t, e :: l, h => by
    obtain ⟨t', n, hd⟩ : ∃ t' n, stApply t e = (t', n) := ⟨_, _, rfl⟩
    have h1 := stOK_next h hd
    have h2 := stLen_next hd
    obtain ⟨i1, i2⟩ := stAll_okW t' l h1
    have e1 : (stAll t (e :: l)).1 = (stAll t' l).1 := by show (stAll (stApply t e).1 l).1 = _; rw [hd]
    rw [e1]
    exact ⟨i1, by simp only [List.length_cons]; omega⟩

theorem stAll_appW : ∀ (t : Sta) (l m : List Ev), (stAll t (l ++ m)).1 = (stAll (stAll t l).1 m).1
  | _, [], _ => rfl
  | t, e :: l, m => by
    show (stAll (stApply t e).1 (l ++ m)).1 = (stAll (stAll (stApply t e).1 l).1 m).1
    exact stAll_appW _ l m

theorem evs_noneW {w : World} {a : Option Addr} {n c : Nat} {l : List Ev} (h : Evs w (.slice a n c) l) : a = none → c = 0 ∧ l = [] := by
  rintro rfl
  obtain ⟨a', cap', e, h1, _, h3, _⟩ := h
  simp only [Value.slice.injEq] at e
  obtain ⟨rfl, _, rfl⟩ := e
  have := h3 rfl
  exact ⟨this, List.length_eq_zero_iff.1 (by omega)⟩

theorem evs_srcW {w : World} {a : Option Addr} {n c : Nat} {l : List Ev} (h : Evs w (.slice a n c) l) : ∀ ad, a = some ad → SrcS evVals w ad l := by
  rintro ad rfl
  exact RdS.src evOK h

theorem nums_shapeW {w : World} {v : Value} {u : List Int} {n : Nat} (h : Nums w v u) (hn : u.length = n) : ∃ a c, v = .slice a n c := by
  subst hn
  obtain ⟨a, c, e, _⟩ := RdS.open' h
  exact ⟨a, c, e⟩

theorem sta_shapeW {w : World} {x y : Value} {t : Sta} (h : StAt w x y t) : ∃ a c b d, x = .slice a t.e.length c ∧ y = .slice b t.s.length d := by
  obtain ⟨a, c, e, _⟩ := h.1.open'
  obtain ⟨b, d, e2, _⟩ := RdS.open' h.2
  exact ⟨a, c, b, d, e, e2⟩

/-- Which number both tell. -/
theorem nums_bothW {l m : List Ev} {j : Nat} : (j < l.length → (numsOf ⟨[], []⟩ (l ++ m)).getD j 0 = (numsOf ⟨[], []⟩ l).getD j 0) ∧ (¬ j < l.length → (numsOf ⟨[], []⟩ (l ++ m)).getD j 0 = (numsOf (stAll ⟨[], []⟩ l).1 m).getD (j - l.length) 0) := by
  rw [numsOf_append]
  constructor
  · intro h
    rw [List.getD_eq_getElem?_getD, List.getElem?_append_left (by rw [numsOf_len]; exact h), List.getD_eq_getElem?_getD]
  · intro h
    rw [List.getD_eq_getElem?_getD, List.getElem?_append_right (by rw [numsOf_len]; omega), numsOf_len, List.getD_eq_getElem?_getD]

end Go.Proofs.Ytndicdomdndjaaa

end

section

/-
  BLOCKS KNOWN WHOLE: their cells, new ones, stores into them. Over any program.
-/
namespace Go.Proofs.Ytndicdomdndjaaa
open Go.RowKit

theorem upQ {w w' : World} {b : Nat} {o : Obj} (h : w.heap[b]? = some o) (hb : Below w.heap.size w w') : w'.heap[b]? = some o :=
  (hb.block b (Array.getElem?_eq_some_iff.1 h).1).trans h

theorem newQ (w : World) (o : Obj) : (w.alloc o).heap[w.heap.size]? = some o := (MapKept.heap_alloc w o).1

/-- A block of 1 cells, stored into as one. -/
def stN1 (w : World) (B : Nat) (y0 : Value) : World := w.setCell ⟨B, 0, none⟩ y0

theorem blk2 {w : World} {B : Nat} {x0 x1 : Value} {T : TypeId} (h : w.heap[B]? = some (.cells #[x0, x1] T (0, 0))) : (w.cell? ⟨B, 0, none⟩ = some x0 ∧ w.cell? ⟨B, 1, none⟩ = some x1) ∧ (w.frozen? ⟨B, 0, none⟩ = false ∧ w.frozen? ⟨B, 1, none⟩ = false) :=
  ⟨⟨cell_of_row w B 0 _ _ (0, 0) h, cell_of_row w B 1 _ _ (0, 0) h⟩, ⟨frozen_of_row w B 0 _ _ h, frozen_of_row w B 1 _ _ h⟩⟩

/-- A block of 2 cells, stored into as one. -/
def stN2 (w : World) (B : Nat) (y0 y1 : Value) : World := (w.setCell ⟨B, 0, none⟩ y0).setCell ⟨B, 1, none⟩ y1

/-- A block of 3 cells, stored into as one. -/
def stN3 (w : World) (B : Nat) (y0 y1 y2 : Value) : World := ((w.setCell ⟨B, 0, none⟩ y0).setCell ⟨B, 1, none⟩ y1).setCell ⟨B, 2, none⟩ y2

/-- A block of 4 cells, stored into as one. -/
def stN4 (w : World) (B : Nat) (y0 y1 y2 y3 : Value) : World := (((w.setCell ⟨B, 0, none⟩ y0).setCell ⟨B, 1, none⟩ y1).setCell ⟨B, 2, none⟩ y2).setCell ⟨B, 3, none⟩ y3

/-- A block of 5 cells, stored into as one. -/
def stN5 (w : World) (B : Nat) (y0 y1 y2 y3 y4 : Value) : World := ((((w.setCell ⟨B, 0, none⟩ y0).setCell ⟨B, 1, none⟩ y1).setCell ⟨B, 2, none⟩ y2).setCell ⟨B, 3, none⟩ y3).setCell ⟨B, 4, none⟩ y4

/-- A block of 6 cells, stored into as one. -/
def stN6 (w : World) (B : Nat) (y0 y1 y2 y3 y4 y5 : Value) : World := (((((w.setCell ⟨B, 0, none⟩ y0).setCell ⟨B, 1, none⟩ y1).setCell ⟨B, 2, none⟩ y2).setCell ⟨B, 3, none⟩ y3).setCell ⟨B, 4, none⟩ y4).setCell ⟨B, 5, none⟩ y5

/-- A block of 7 cells, stored into as one. -/
def stN7 (w : World) (B : Nat) (y0 y1 y2 y3 y4 y5 y6 : Value) : World := ((((((w.setCell ⟨B, 0, none⟩ y0).setCell ⟨B, 1, none⟩ y1).setCell ⟨B, 2, none⟩ y2).setCell ⟨B, 3, none⟩ y3).setCell ⟨B, 4, none⟩ y4).setCell ⟨B, 5, none⟩ y5).setCell ⟨B, 6, none⟩ y6

/-- A block of 8 cells, stored into as one. -/
def stN8 (w : World) (B : Nat) (y0 y1 y2 y3 y4 y5 y6 y7 : Value) : World := (((((((w.setCell ⟨B, 0, none⟩ y0).setCell ⟨B, 1, none⟩ y1).setCell ⟨B, 2, none⟩ y2).setCell ⟨B, 3, none⟩ y3).setCell ⟨B, 4, none⟩ y4).setCell ⟨B, 5, none⟩ y5).setCell ⟨B, 6, none⟩ y6).setCell ⟨B, 7, none⟩ y7

/-- A block of 10 cells, stored into as one. -/
def stN10 (w : World) (B : Nat) (y0 y1 y2 y3 y4 y5 y6 y7 y8 y9 : Value) : World := (((((((((w.setCell ⟨B, 0, none⟩ y0).setCell ⟨B, 1, none⟩ y1).setCell ⟨B, 2, none⟩ y2).setCell ⟨B, 3, none⟩ y3).setCell ⟨B, 4, none⟩ y4).setCell ⟨B, 5, none⟩ y5).setCell ⟨B, 6, none⟩ y6).setCell ⟨B, 7, none⟩ y7).setCell ⟨B, 8, none⟩ y8).setCell ⟨B, 9, none⟩ y9

/-- A block of 13 cells, stored into as one. -/
def stN13 (w : World) (B : Nat) (y0 y1 y2 y3 y4 y5 y6 y7 y8 y9 y10 y11 y12 : Value) : World := ((((((((((((w.setCell ⟨B, 0, none⟩ y0).setCell ⟨B, 1, none⟩ y1).setCell ⟨B, 2, none⟩ y2).setCell ⟨B, 3, none⟩ y3).setCell ⟨B, 4, none⟩ y4).setCell ⟨B, 5, none⟩ y5).setCell ⟨B, 6, none⟩ y6).setCell ⟨B, 7, none⟩ y7).setCell ⟨B, 8, none⟩ y8).setCell ⟨B, 9, none⟩ y9).setCell ⟨B, 10, none⟩ y10).setCell ⟨B, 11, none⟩ y11).setCell ⟨B, 12, none⟩ y12

end Go.Proofs.Ytndicdomdndjaaa

end
