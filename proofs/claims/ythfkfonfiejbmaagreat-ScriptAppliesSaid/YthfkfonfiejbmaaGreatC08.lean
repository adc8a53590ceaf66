/-
  TEXTS OF THE PROOF, one behind the other: RosHas, RosGet, RosFirst, RosFirstC, RosGetC, RosPlace, RosFind, EntDel, SesRow, OpenS, RosFrame, EvM, EvF, FltPure, HeaPure, BesPure, BesLead, HeaMem.
-/
import Derived.Test.YthfkfonfiejbmaaGreatC07
import Derived.BigQuiet
import Derived.Lib.QuietBelow
import Derived.Test.YthfkfonfiejbmaaGreatC01
import Derived.Test.YthfkfonfiejbmaaGreatProg
import Derived.Laws.StructEq
import Derived.BigRegion
import Derived.Deep.QuietTactic
import Derived.ProofKit
import Derived.OpenShut
import Derived.Lib.SmallJoins
import Derived.Deep.Slices
import Derived.Deep.Fields
import Derived.ChangeSame
import Derived.Lib.Hide
import Derived.Laws.ComplexArith
import Derived.WalkLawsBesides
import Derived.Deep.RegionHeld
import Derived.Maps.OwnSet
import Derived.StillTailTactics

section

/-
  LAYER 8, THE DOCUMENT: whether an entry is there.
-/
namespace Go.Proofs.YthfkfonfiejbmaaGreat
open Go.RowKit

/-- An entry of that Owner and Contact. -/
def entOf (o c : List UInt8) : Ent := ⟨o, c, It.zero⟩

def roHas (l : List Ent) (o c : List UInt8) : Bool := l.any fun e => entIs e (entOf o c)

theorem roHas_yes {l : List Ent} {o c : List UInt8} {k : Nat} (hk : k < l.length) (ho : (l.getD k Ent.zero).o = o) (hc : (l.getD k Ent.zero).c = c) : roHas l o c = true := by
  unfold roHas
  rw [List.any_eq_true]
  refine ⟨l.getD k Ent.zero, ?_, entIs_iff.2 ⟨ho, hc⟩⟩
  rw [getD_at hk]
  exact List.getElem_mem hk

theorem roHas_no {l : List Ent} {o c : List UInt8} (h : ∀ j, j < l.length → entIs (l.getD j Ent.zero) (entOf o c) = false) : roHas l o c = false := by
  unfold roHas
  rw [List.any_eq_false]
  intro e he
  obtain ⟨i, hi, rfl⟩ := List.getElem_of_mem he
  have := h i hi
  rw [getD_at hi] at this
  simp [this]

theorem entIs_off {e : Ent} {o c : List UInt8} (h : ¬ e.o = o ∨ ¬ e.c = c) : entIs e (entOf o c) = false := by
  rw [Bool.eq_false_iff]
  intro hh
  obtain ⟨h1, h2⟩ := entIs_iff.1 hh
  rcases h with h | h
  · exact h h1
  · exact h h2

set_option maxHeartbeats 1600000 in
set_option maxRecDepth 100000 in
theorem rhas_any {w : World} {v : Value} {l : List Ent} (hv : Ents w v l) (o c : List UInt8) :
    Calls Tryz.prog 37 #[v, .string ⟨o.toArray⟩, .string ⟨c.toArray⟩] w fun e w' => e = .returned (.bool (roHas l o c)) ∧ w = w' := by
  have HV := Lib.hid hv
  obtain ⟨a, cap, rfl, hm⟩ := hv.open'
  clear hv
  go_enter Tryz.func37, Tryz.ntmps37
  go_wp2_with fail
  go_loop [7] (fun i => ∃ k : Nat, k ≤ l.length ∧ i = .int .i64 k ∧ Hid (∀ j, j < k → entIs (l.getD j Ent.zero) (entOf o c) = false)) (fun i => l.length - (intOf i).toNat)
  case atStart => exact ⟨0, by omega, rfl, by show ∀ _, _; intro j hj; omega⟩
  case round =>
    obtain ⟨k, hk, rfl, HN⟩ := hrel
    by_cases hlt : k < l.length
    · obtain ⟨b, off, rfl, h0, h1, _⟩ := HV.out.row (Below.refl _ _) k hlt
      obtain ⟨⟨eo, ec, it⟩, hr⟩ : ∃ r, l.getD k Ent.zero = r := ⟨_, rfl⟩
      rw [hr] at h0 h1
      simp only at h0 h1
      by_cases ho : eo = o
      · by_cases hc : ec = c
        · have HR := Lib.hid (roHas_yes hlt (o := o) (c := c) (by rw [hr]; exact ho) (by rw [hr]; exact hc))
          subst ho hc
          clear hr
          go_wp2_with fail
          go_ret
          exact ⟨by rw [HR.out]; rfl, rfl⟩
        · have HN2 : Hid (∀ j, j < k + 1 → entIs (l.getD j Ent.zero) (entOf o c) = false) := by
            show ∀ _, _
            intro j hj
            by_cases e : j = k
            · rw [e, hr]; exact entIs_off (.inr hc)
            · exact HN.out j (by omega)
          have t2 : (ec == c) = false := by rw [beq_eq_false_iff_ne]; exact hc
          subst ho
          clear hr hc
          go_wp2_with fail
          go_round
          case rel => exact ⟨k + 1, by omega, by go_num, HN2⟩
          case measure => simp [intOf]; omega
      · have HN2 : Hid (∀ j, j < k + 1 → entIs (l.getD j Ent.zero) (entOf o c) = false) := by
          show ∀ _, _
          intro j hj
          by_cases e : j = k
          · rw [e, hr]; exact entIs_off (.inl ho)
          · exact HN.out j (by omega)
        have t2 : (eo == o) = false := by rw [beq_eq_false_iff_ne]; exact ho
        clear hr ho
        go_wp2_with fail
        go_round
        case rel => exact ⟨k + 1, by omega, by go_num, HN2⟩
        case measure => simp [intOf]; omega
    · obtain rfl : k = l.length := by omega
      have HR := Lib.hid (roHas_no HN.out)
      go_wp2_with fail
      go_ret
      exact ⟨by rw [HR.out]; rfl, rfl⟩

end Go.Proofs.YthfkfonfiejbmaaGreat

end

section

/-
  LAYER 8, THE DOCUMENT: the item of an Owner on a Contact.
-/
namespace Go.Proofs.YthfkfonfiejbmaaGreat
open Go.RowKit

/-- The item of the first entry of these. -/
def roGet (l : List Ent) (o c : List UInt8) : It := match l.find? fun e => entIs e (entOf o c) with
  | some e => e.it
  | none => It.zero

def itV (a : It) : Value := .agg #[.bool a.to, .bool a.fr, .bool a.out, .bool a.inn, .bool a.bl]

theorem roGet_none {l : List Ent} {o c : List UInt8} (h : ∀ j, j < l.length → entIs (l.getD j Ent.zero) (entOf o c) = false) : roGet l o c = It.zero := by
  unfold roGet
  have : l.find? (fun e => entIs e (entOf o c)) = none := by
    rw [List.find?_eq_none]
    intro e he
    obtain ⟨i, hi, rfl⟩ := List.getElem_of_mem he
    have := h i hi
    rw [getD_at hi] at this
    simp [this]
  rw [this]

theorem roGet_first : ∀ {l : List Ent} {o c : List UInt8} {k : Nat} (_ : k < l.length) (_ : ∀ j, j < k → entIs (l.getD j Ent.zero) (entOf o c) = false) (_ : (l.getD k Ent.zero).o = o) (_ : (l.getD k Ent.zero).c = c), roGet l o c = (l.getD k Ent.zero).it
  | [], _, _, _, hk, _, _, _ => by simp at hk
  | e :: l, o, c, k, hk, hn, ho, hc => by
    unfold roGet
    rw [List.find?_cons]
    cases k with
    | zero =>
      have : entIs e (entOf o c) = true := entIs_iff.2 ⟨ho, hc⟩
      rw [this]
      rfl
    | succ k =>
      have h0 : entIs e (entOf o c) = false := hn 0 (by omega)
      rw [h0]
      have := roGet_first (l := l) (o := o) (c := c) (k := k) (by simpa using hk) (fun j hj => hn (j + 1) (by omega)) ho hc
      unfold roGet at this
      exact this

set_option maxHeartbeats 1600000 in
set_option maxRecDepth 100000 in
theorem rget8_any {w : World} {v : Value} {l : List Ent} (hv : Ents w v l) (o c : List UInt8) :
    Calls Tryz.prog 36 #[v, .string ⟨o.toArray⟩, .string ⟨c.toArray⟩] w fun e w' => e = .returned (itV (roGet l o c)) ∧ Below w.heap.size w w' := by
  have HV := Lib.hid hv
  obtain ⟨a, cap, rfl, hm⟩ := hv.open'
  have BA : Hid (Below w.heap.size w (w.alloc (.cells #[.bool false, .bool false, .bool false, .bool false, .bool false] 66))) := Lib.hid ((Below.refl _ _).alloc (Nat.le_refl _) _)
  clear hv
  go_enter Tryz.func36, Tryz.ntmps36
  go_wp2_with fail
  go_loop [7] (fun i => ∃ k : Nat, k ≤ l.length ∧ i = .int .i64 k ∧ Hid (∀ j, j < k → entIs (l.getD j Ent.zero) (entOf o c) = false)) (fun i => l.length - (intOf i).toNat)
  case atStart => exact ⟨0, by omega, rfl, by show ∀ _, _; intro j hj; omega⟩
  case round =>
    obtain ⟨k, hk, rfl, HN⟩ := hrel
    by_cases hlt : k < l.length
    · obtain ⟨b, off, rfl, h0, h1, h2, h3, h4, h5, h6⟩ := HV.out.row BA.out k hlt
      obtain ⟨⟨eo, ec, ⟨i1, i2, i3, i4, i5⟩⟩, hr⟩ : ∃ r, l.getD k Ent.zero = r := ⟨_, rfl⟩
      rw [hr] at h0 h1 h2 h3 h4 h5 h6
      simp only at h0 h1 h2 h3 h4 h5 h6
      by_cases ho : eo = o
      · by_cases hc : ec = c
        · have HR : Hid (roGet l o c = ⟨i1, i2, i3, i4, i5⟩) := by show _ = _; rw [roGet_first hlt HN.out (by rw [hr]; exact ho) (by rw [hr]; exact hc), hr]
          subst ho hc
          clear hr
          go_wp2_with fail
          refine bodyPost_ret (v := itV ⟨i1, i2, i3, i4, i5⟩) (by simp [results, Tryz.results36, go_sem, itV]) rfl ⟨by rw [HR.out], ?_⟩
          repeat (first | exact Below.refl _ _ | refine Below.setCell ?_ (by first | (simp; done) | (simp; omega)) _ | refine Below.alloc ?_ (by first | (simp; done) | (simp; omega)) _)
        · have HN2 : Hid (∀ j, j < k + 1 → entIs (l.getD j Ent.zero) (entOf o c) = false) := by
            show ∀ _, _
            intro j hj
            by_cases e : j = k
            · rw [e, hr]; exact entIs_off (.inr hc)
            · exact HN.out j (by omega)
          have t2 : (ec == c) = false := by rw [beq_eq_false_iff_ne]; exact hc
          subst ho
          clear hr hc
          go_wp2_with fail
          go_round
          case rel => exact ⟨k + 1, by omega, by go_num, HN2⟩
          case measure => simp [intOf]; omega
      · have HN2 : Hid (∀ j, j < k + 1 → entIs (l.getD j Ent.zero) (entOf o c) = false) := by
          show ∀ _, _
          intro j hj
          by_cases e : j = k
          · rw [e, hr]; exact entIs_off (.inl ho)
          · exact HN.out j (by omega)
        have t2 : (eo == o) = false := by rw [beq_eq_false_iff_ne]; exact ho
        clear hr ho
        go_wp2_with fail
        go_round
        case rel => exact ⟨k + 1, by omega, by go_num, HN2⟩
        case measure => simp [intOf]; omega
    · obtain rfl : k = l.length := by omega
      have HR : Hid (roGet l o c = It.zero) := by show _ = _; exact roGet_none HN.out
      go_wp2_with fail
      refine bodyPost_ret (v := itV It.zero) (by simp [results, Tryz.results36, go_sem, itV, It.zero]) rfl ⟨by rw [HR.out], ?_⟩
      repeat (first | exact Below.refl _ _ | refine Below.setCell ?_ (by first | (simp; done) | (simp; omega)) _ | refine Below.alloc ?_ (by first | (simp; done) | (simp; omega)) _)

end Go.Proofs.YthfkfonfiejbmaaGreat

end

section

/-
  LAYER 8: the document's Sees; the code's entry, and the first entry that is the same.
-/
namespace Go.Proofs.YthfkfonfiejbmaaGreat
open Go.RowKit

theorem rget8_eq {w : World} {v : Value} {l : List Ent} (hv : Ents w v l) (o c : List UInt8) {i1 i2 i3 i4 i5 : Bool} (h : Hid (roGet l o c = ⟨i1, i2, i3, i4, i5⟩)) :
    Calls Tryz.prog 36 #[v, .string ⟨o.toArray⟩, .string ⟨c.toArray⟩] w fun e w' => e = .returned (.agg #[.bool i1, .bool i2, .bool i3, .bool i4, .bool i5]) ∧ Below w.heap.size w w' := by
  have := rget8_any hv o c
  rw [h.out] at this
  exact this

/-- Whether one sees the other one. -/
def roSees (l : List Ent) (o c : List UInt8) : Bool := suSees (roGet l o c) (roGet l c o)

set_option maxHeartbeats 800000 in
set_option maxRecDepth 100000 in
theorem entry_any (o c : List UInt8) (w : World) :
    Calls Tryz.prog 63 #[.string ⟨o.toArray⟩, .string ⟨c.toArray⟩] w fun e w' => e = .returned (.agg #[.string ⟨o.toArray⟩, .string ⟨c.toArray⟩, .bool false, .bool false, .bool false, .bool false, .bool false]) ∧ Below w.heap.size w w' := by
  go_enter Tryz.func63, Tryz.ntmps63
  go_wp2_with fail
  refine bodyPost_ret (v := .agg #[.string ⟨o.toArray⟩, .string ⟨c.toArray⟩, .bool false, .bool false, .bool false, .bool false, .bool false]) (by simp [results, Tryz.results63, go_sem]) rfl ⟨rfl, ?_⟩
  repeat (first | exact Below.refl _ _ | refine Below.setCell ?_ (by first | (simp; done) | (simp; omega)) _ | refine Below.alloc ?_ (by first | (simp; done) | (simp; omega)) _)

/-- The place of the first one that is the same. -/
def roFirst (l : List Ent) (x : Ent) : Nat × Bool := if (l.any fun e => entIs e x) = true then (l.findIdx fun e => entIs e x, true) else (0, false)

end Go.Proofs.YthfkfonfiejbmaaGreat

end

section

/-
  LAYER 8, THE CODE: the first entry that is the same; Get; Sees.
-/
namespace Go.Proofs.YthfkfonfiejbmaaGreat
open Go.RowKit

theorem entI_off {a b : Ent} (h : entIs a b = false) : (entI a b == 0) = false := by
  rw [beq_eq_false_iff_ne]
  intro e
  rw [entI_zero, h] at e
  cases e

theorem entI_on {a b : Ent} (h : entIs a b = true) : (entI a b == 0) = true := by
  rw [beq_iff_eq, entI_zero]
  exact h

theorem cells7_made (w : World) (e : Ent) (T : TypeId) : Cells7 (w.alloc (.cells #[.string ⟨e.o.toArray⟩, .string ⟨e.c.toArray⟩, .bool e.it.to, .bool e.it.fr, .bool e.it.out, .bool e.it.inn, .bool e.it.bl] T)) w.heap.size 0 e := by
  refine ⟨?_, ?_, ?_, ?_, ?_, ?_, ?_⟩ <;> (rw [World.cell?_alloc_at _ _ _ _ rfl]; rfl)

end Go.Proofs.YthfkfonfiejbmaaGreat

end

section

/-
  LAYER 8, THE CODE: Get and Sees.
-/
namespace Go.Proofs.YthfkfonfiejbmaaGreat
open Go.RowKit

/-- An item stored anew. -/
def set5 (w : World) (B : Nat) (a1 a2 a3 a4 a5 : Value) : World := setMany w [(⟨B, 0, none⟩, a1), (⟨B, 1, none⟩, a2), (⟨B, 2, none⟩, a3), (⟨B, 3, none⟩, a4), (⟨B, 4, none⟩, a5)]

end Go.Proofs.YthfkfonfiejbmaaGreat

end

section

/-
  LAYER 8, THE CODE: where an entry belongs, by halves.
-/
namespace Go.Proofs.YthfkfonfiejbmaaGreat
open Go.RowKit

theorem regrown_belowP {w w' : World} (h : ∃ p : Regrown, w' = Sort.grow (redrawn w p.d) p.os) : Below w.heap.size w w' := by
  obtain ⟨p, rfl⟩ := h
  exact below_regrown _ _ _

theorem cells7_regrown {w : World} {b o : Nat} {e : Ent} (h : Cells7 w b o e) :
    (∀ d os, (Sort.grow (redrawn w d) os).cell? ⟨b, o, none⟩ = some (.string ⟨e.o.toArray⟩)) ∧ (∀ d os, (Sort.grow (redrawn w d) os).cell? ⟨b, o + 1, none⟩ = some (.string ⟨e.c.toArray⟩)) ∧
    (∀ d os, (Sort.grow (redrawn w d) os).cell? ⟨b, o + 2, none⟩ = some (.bool e.it.to)) ∧ (∀ d os, (Sort.grow (redrawn w d) os).cell? ⟨b, o + 3, none⟩ = some (.bool e.it.fr)) ∧
    (∀ d os, (Sort.grow (redrawn w d) os).cell? ⟨b, o + 4, none⟩ = some (.bool e.it.out)) ∧ (∀ d os, (Sort.grow (redrawn w d) os).cell? ⟨b, o + 5, none⟩ = some (.bool e.it.inn)) ∧
    (∀ d os, (Sort.grow (redrawn w d) os).cell? ⟨b, o + 6, none⟩ = some (.bool e.it.bl)) :=
  ⟨fun d os => cell_regrown h.1 d os, fun d os => cell_regrown h.2.1 d os, fun d os => cell_regrown h.2.2.1 d os, fun d os => cell_regrown h.2.2.2.1 d os, fun d os => cell_regrown h.2.2.2.2.1 d os, fun d os => cell_regrown h.2.2.2.2.2.1 d os, fun d os => cell_regrown h.2.2.2.2.2.2 d os⟩

set_option maxHeartbeats 3200000 in
set_option maxRecDepth 100000 in
theorem place_any {w : World} {v : Value} {l : List Ent} (hv : Ents w v l) (hr : Rise l) (xo xc : List UInt8) (x1 x2 x3 x4 x5 : Bool) {p : Nat} (hp : entPlace l ⟨xo, xc, ⟨x1, x2, x3, x4, x5⟩⟩ = p) {q : Bool}
    (hq : (decide (p < l.length) && entIs (l.getD p Ent.zero) ⟨xo, xc, ⟨x1, x2, x3, x4, x5⟩⟩) = q) :
    Calls Tryz.prog 93 #[v, .agg #[.string ⟨xo.toArray⟩, .string ⟨xc.toArray⟩, .bool x1, .bool x2, .bool x3, .bool x4, .bool x5], .func (.func 94) #[] #[]] w fun e w' =>
      e = .returned (.tuple #[.int .i64 p, .bool q]) ∧ Below w.heap.size w w' := by
  have HV := Lib.hid hv
  have HS := Lib.hid fun (h : Nat) (hh : h < l.length) => entPlace_spec hr ⟨xo, xc, ⟨x1, x2, x3, x4, x5⟩⟩ hh
  have hpl := entPlace_le l ⟨xo, xc, ⟨x1, x2, x3, x4, x5⟩⟩
  rw [hp] at HS hpl
  obtain ⟨a, cap, rfl, hm⟩ := hv.open'
  have HX := Lib.hid (cells7_made w ⟨xo, xc, ⟨x1, x2, x3, x4, x5⟩⟩ 68)
  have B0 : Hid (Below w.heap.size w (w.alloc (.cells #[.string ⟨xo.toArray⟩, .string ⟨xc.toArray⟩, .bool x1, .bool x2, .bool x3, .bool x4, .bool x5] 68))) := Lib.hid ((Below.refl _ _).alloc (Nat.le_refl _) _)
  have HQ := Lib.hid hq
  clear hv hp hr hq
  go_enter Tryz.func93, Tryz.ntmps93
  go_wp2_with fail
  go_loopw [8, 9] (fun i j wr => ∃ f t : Nat, f ≤ p ∧ p ≤ t ∧ t ≤ l.length ∧ i = .int .i64 f ∧ j = .int .i64 t ∧ Hid (Below w.heap.size w wr) ∧ Hid (Cells7 wr w.heap.size 0 ⟨xo, xc, ⟨x1, x2, x3, x4, x5⟩⟩)) (fun i j _ => (intOf j).toNat - (intOf i).toNat)
  case atStart => exact ⟨0, l.length, by omega, hpl, by omega, rfl, rfl, B0, HX⟩
  case round =>
    obtain ⟨f, t, hfp, hpt, htl, rfl, rfl, HB, HC⟩ := hrel
    by_cases hlt : f < t
    · have hhl : f + (t - f) / 2 < l.length := by omega
      obtain ⟨b, off, rfl, h7⟩ := HV.out.row HB.out (f + (t - f) / 2) hhl
      obtain ⟨⟨eo, ec, ⟨i1, i2, i3, i4, i5⟩⟩, hr⟩ : ∃ r, l.getD (f + (t - f) / 2) Ent.zero = r := ⟨_, rfl⟩
      rw [hr] at h7
      obtain ⟨g0, g1, g2, g3, g4, g5, g6⟩ := cells7_regrown h7
      obtain ⟨c0, c1, c2, c3, c4, c5, c6⟩ := cells7_regrown HC.out
      simp only [Nat.zero_add] at g0 g1 g2 g3 g4 g5 g6 c0 c1 c2 c3 c4 c5 c6
      have HCmp := Lib.hid (rcompare_any eo ec xo xc i1 i2 i3 i4 i5 x1 x2 x3 x4 x5)
      obtain ⟨n, hn⟩ : ∃ n, entI ⟨eo, ec, ⟨i1, i2, i3, i4, i5⟩⟩ ⟨xo, xc, ⟨x1, x2, x3, x4, x5⟩⟩ = n := ⟨_, rfl⟩
      have hsp := HS.out _ hhl
      rw [hr] at hsp
      have hl := entI_lt ⟨eo, ec, ⟨i1, i2, i3, i4, i5⟩⟩ ⟨xo, xc, ⟨x1, x2, x3, x4, x5⟩⟩
      rw [hn] at hl HCmp
      clear hn hr h7
      cases hc : entLt ⟨eo, ec, ⟨i1, i2, i3, i4, i5⟩⟩ ⟨xo, xc, ⟨x1, x2, x3, x4, x5⟩⟩ with
      | true =>
        rw [hc] at hsp hl
        have hn0 : n < 0 := by rw [hl]
        have tn : decide (n < 0) = true := by simpa using hn0
        have hlp : f + (t - f) / 2 < p := by simpa using hsp.symm
        clear hc hsp hl hn0
        go_wp2_with fail
        refine wp_region_quiet_below (by kernel_rfl) (by kernel_rfl) ?_
        repeat (go_big_quiet_step (with_reducible exact rgB HCmp.out _ _ _))
        refine wpQuiet_nil ?_
        intro w5 hw5
        have B5 := Lib.hid (below2S HB.out (regrown_belowP hw5))
        have C5 := Lib.hid (HC.out.later (regrown_belowP hw5))
        clear hw5 g0 g1 g2 g3 g4 g5 g6 c0 c1 c2 c3 c4 c5 c6
        go_wp2_with fail
        go_roundw
        case rel => exact ⟨f + (t - f) / 2 + 1, t, by omega, hpt, htl, by go_num, rfl, B5, C5⟩
        case measure => simp [intOf]; omega
      | false =>
        rw [hc] at hsp hl
        have hn0 : ¬ n < 0 := by rw [hl]; decide
        have tn : decide (n < 0) = false := by simpa using hn0
        have hlp : ¬ f + (t - f) / 2 < p := by simpa using hsp.symm
        clear hc hsp hl hn0
        go_wp2_with fail
        refine wp_region_quiet_below (by kernel_rfl) (by kernel_rfl) ?_
        repeat (go_big_quiet_step (with_reducible exact rgB HCmp.out _ _ _))
        refine wpQuiet_nil ?_
        intro w5 hw5
        have B5 := Lib.hid (below2S HB.out (regrown_belowP hw5))
        have C5 := Lib.hid (HC.out.later (regrown_belowP hw5))
        clear hw5 g0 g1 g2 g3 g4 g5 g6 c0 c1 c2 c3 c4 c5 c6
        go_wp2_with fail
        go_roundw
        case rel => exact ⟨f, f + (t - f) / 2, hfp, by omega, by omega, rfl, by go_num, B5, C5⟩
        case measure => simp [intOf]; omega
    · obtain rfl : f = t := by omega
      obtain rfl : f = p := by omega
      by_cases hin : f < l.length
      · obtain ⟨b, off, rfl, h7⟩ := HV.out.row HB.out f hin
        obtain ⟨⟨eo, ec, ⟨i1, i2, i3, i4, i5⟩⟩, hr⟩ : ∃ r, l.getD f Ent.zero = r := ⟨_, rfl⟩
        rw [hr] at h7
        obtain ⟨g0, g1, g2, g3, g4, g5, g6⟩ := cells7_regrown h7
        obtain ⟨c0, c1, c2, c3, c4, c5, c6⟩ := cells7_regrown HC.out
        simp only [Nat.zero_add] at g0 g1 g2 g3 g4 g5 g6 c0 c1 c2 c3 c4 c5 c6
        have HCmp := Lib.hid (rcompare_any eo ec xo xc i1 i2 i3 i4 i5 x1 x2 x3 x4 x5)
        obtain ⟨n, hn⟩ : ∃ n, entI ⟨eo, ec, ⟨i1, i2, i3, i4, i5⟩⟩ ⟨xo, xc, ⟨x1, x2, x3, x4, x5⟩⟩ = n := ⟨_, rfl⟩
        have hq := HQ.out
        rw [hr, show decide (f < l.length) = true by simpa using hin, Bool.true_and] at hq
        have tq : (n == 0) = q := by
          cases q with
          | true => rw [← hn]; exact entI_on hq
          | false => rw [← hn]; exact entI_off hq
        rw [hn] at HCmp
        have tin : decide ((f : Int) < (l.length : Int)) = true := by simp; omega
        clear hn hr h7 hq HQ
        go_wp2_with fail
        refine wp_region_quiet_below (by kernel_rfl) (by kernel_rfl) ?_
        repeat (go_big_quiet_step (with_reducible exact rgB HCmp.out _ _ _))
        refine wpQuiet_nil ?_
        intro w5 hw5
        have B5 := Lib.hid (below2S HB.out (regrown_belowP hw5))
        clear hw5 g0 g1 g2 g3 g4 g5 g6 c0 c1 c2 c3 c4 c5 c6
        go_wp2_with fail
        go_ret2
        exact ⟨rfl, B5.out⟩
      · have hq := HQ.out
        rw [show decide (f < l.length) = false by simpa using hin, Bool.false_and] at hq
        subst hq
        have tin : decide ((f : Int) < (l.length : Int)) = false := by simp; omega
        clear HQ
        go_wp2_with fail
        refine wp_region_quiet_below (by kernel_rfl) (by kernel_rfl) ?_
        repeat (go_big_quiet_step (fail))
        refine wpQuiet_nil ?_
        intro w5 hw5
        have B5 := Lib.hid (below2S HB.out (regrown_belowP hw5))
        clear hw5
        go_wp2_with fail
        go_ret2
        exact ⟨rfl, B5.out⟩

end Go.Proofs.YthfkfonfiejbmaaGreat

end

section

/-
  LAYER 8, THE CODE: the entry that has an Owner and a Contact.
-/
namespace Go.Proofs.YthfkfonfiejbmaaGreat
open Go.RowKit

/-- An entry stored anew. -/
def set7 (w : World) (B : Nat) (a0 a1 a2 a3 a4 a5 a6 : Value) : World := setMany w [(⟨B, 0, none⟩, a0), (⟨B, 1, none⟩, a1), (⟨B, 2, none⟩, a2), (⟨B, 3, none⟩, a3), (⟨B, 4, none⟩, a4), (⟨B, 5, none⟩, a5), (⟨B, 6, none⟩, a6)]

theorem set7_get (w : World) (B : Nat) (a0 a1 a2 a3 a4 a5 a6 : Value) {u0 u1 u2 u3 u4 u5 u6 : Value} (h0 : w.cell? ⟨B, 0, none⟩ = some u0) (h1 : w.cell? ⟨B, 1, none⟩ = some u1) (h2 : w.cell? ⟨B, 2, none⟩ = some u2) (h3 : w.cell? ⟨B, 3, none⟩ = some u3) (h4 : w.cell? ⟨B, 4, none⟩ = some u4) (h5 : w.cell? ⟨B, 5, none⟩ = some u5) (h6 : w.cell? ⟨B, 6, none⟩ = some u6) :
    let x := set7 w B a0 a1 a2 a3 a4 a5 a6
    x.cell? ⟨B, 0, none⟩ = some a0 ∧ x.cell? ⟨B, 1, none⟩ = some a1 ∧ x.cell? ⟨B, 2, none⟩ = some a2 ∧ x.cell? ⟨B, 3, none⟩ = some a3 ∧ x.cell? ⟨B, 4, none⟩ = some a4 ∧ x.cell? ⟨B, 5, none⟩ = some a5 ∧ x.cell? ⟨B, 6, none⟩ = some a6 := by
  have hm := setMany_get [(⟨B, 0, none⟩, a0), (⟨B, 1, none⟩, a1), (⟨B, 2, none⟩, a2), (⟨B, 3, none⟩, a3), (⟨B, 4, none⟩, a4), (⟨B, 5, none⟩, a5), (⟨B, 6, none⟩, a6)] w (by simp) (by simp [h0, h1, h2, h3, h4, h5, h6])
  exact ⟨hm (_, _) (by simp), hm (_, _) (by simp), hm (_, _) (by simp), hm (_, _) (by simp), hm (_, _) (by simp), hm (_, _) (by simp), hm (_, _) (by simp)⟩

theorem set7_below {w w1 : World} (h : Below w.heap.size w w1) (B : Nat) (hB : w.heap.size ≤ B) (a0 a1 a2 a3 a4 a5 a6 : Value) : Below w.heap.size w (set7 w1 B a0 a1 a2 a3 a4 a5 a6) :=
  setMany_below _ h (by simp [hB])

set_option maxHeartbeats 1600000 in
set_option maxRecDepth 100000 in
theorem find_no {w : World} {v : Value} {l : List Ent} (hv : Ents w v l) (hr : Rise l) (xo xc : List UInt8) (x1 x2 x3 x4 x5 : Bool) (hno : (l.any fun e => entIs e ⟨xo, xc, ⟨x1, x2, x3, x4, x5⟩⟩) = false) :
    Calls Tryz.prog 62 #[v, .agg #[.string ⟨xo.toArray⟩, .string ⟨xc.toArray⟩, .bool x1, .bool x2, .bool x3, .bool x4, .bool x5]] w fun e w' => e = .returned (.tuple #[.agg #[.string ⟨xo.toArray⟩, .string ⟨xc.toArray⟩, .bool x1, .bool x2, .bool x3, .bool x4, .bool x5], .bool false]) ∧ Below w.heap.size w w' := by
  have B0 : Hid (Below w.heap.size w ((w.alloc (.cells #[.string ⟨xo.toArray⟩, .string ⟨xc.toArray⟩, .bool x1, .bool x2, .bool x3, .bool x4, .bool x5] 68)).alloc (.cells #[.string ⟨#[]⟩, .string ⟨#[]⟩, .bool false, .bool false, .bool false, .bool false, .bool false] 68))) := Lib.hid (((Below.refl _ _).alloc (Nat.le_refl _) _).alloc (by simp) _)
  have hq := (entPlace_there hr ⟨xo, xc, ⟨x1, x2, x3, x4, x5⟩⟩).trans hno
  have HV := Lib.hid (hv.later B0.out)
  have HZ := Lib.hid (show Cells7 ((w.alloc (.cells #[.string ⟨xo.toArray⟩, .string ⟨xc.toArray⟩, .bool x1, .bool x2, .bool x3, .bool x4, .bool x5] 68)).alloc (.cells #[.string ⟨#[]⟩, .string ⟨#[]⟩, .bool false, .bool false, .bool false, .bool false, .bool false] 68)) (w.heap.size + 1) 0 Ent.zero by
    refine ⟨?_, ?_, ?_, ?_, ?_, ?_, ?_⟩ <;> (rw [World.cell?_alloc_at _ _ _ _ (by simp)]; rfl))
  have HX := Lib.hid ((cells7_made w ⟨xo, xc, ⟨x1, x2, x3, x4, x5⟩⟩ 68).later ((Below.refl _ _).alloc (Nat.le_refl _) (.cells #[.string ⟨#[]⟩, .string ⟨#[]⟩, .bool false, .bool false, .bool false, .bool false, .bool false] 68)))
  have HF : Hid (∀ i, ((w.alloc (.cells #[.string ⟨xo.toArray⟩, .string ⟨xc.toArray⟩, .bool x1, .bool x2, .bool x3, .bool x4, .bool x5] 68)).alloc (.cells #[.string ⟨#[]⟩, .string ⟨#[]⟩, .bool false, .bool false, .bool false, .bool false, .bool false] 68)).frozen? ⟨w.heap.size + 1, i, none⟩ = false) := Lib.hid fun i => by simp
  obtain ⟨a, cap, rfl, hm⟩ := hv.open'
  go_enter Tryz.func62, Tryz.ntmps62
  go_wp2_with fail
  refine (place_any HV.out hr xo xc x1 x2 x3 x4 x5 rfl hq).mono ?_
  rintro e w1 ⟨rfl, b⟩
  have B1 := Lib.hid (below2S B0.out b)
  obtain ⟨z0, z1, z2, z3, z4, z5, z6⟩ := HZ.out.later b
  obtain ⟨c0, c1, c2, c3, c4, c5, c6⟩ := HX.out.later b
  have f0 := (b.frozen (p := ⟨w.heap.size + 1, 0, none⟩) (by show w.heap.size + 1 < _; simp)).trans (HF.out 0)
  have f1 := (b.frozen (p := ⟨w.heap.size + 1, 1, none⟩) (by show w.heap.size + 1 < _; simp)).trans (HF.out 1)
  have f2 := (b.frozen (p := ⟨w.heap.size + 1, 2, none⟩) (by show w.heap.size + 1 < _; simp)).trans (HF.out 2)
  have f3 := (b.frozen (p := ⟨w.heap.size + 1, 3, none⟩) (by show w.heap.size + 1 < _; simp)).trans (HF.out 3)
  have f4 := (b.frozen (p := ⟨w.heap.size + 1, 4, none⟩) (by show w.heap.size + 1 < _; simp)).trans (HF.out 4)
  have f5 := (b.frozen (p := ⟨w.heap.size + 1, 5, none⟩) (by show w.heap.size + 1 < _; simp)).trans (HF.out 5)
  have f6 := (b.frozen (p := ⟨w.heap.size + 1, 6, none⟩) (by show w.heap.size + 1 < _; simp)).trans (HF.out 6)
  simp only [Nat.zero_add, Ent.zero, It.zero] at z0 z1 z2 z3 z4 z5 z6 c0 c1 c2 c3 c4 c5 c6
  clear b
  go_wp2_with fail
  obtain ⟨r0, r1, r2, r3, r4, r5, r6⟩ := set7_get w1 (w.heap.size + 1) (.string ⟨xo.toArray⟩) (.string ⟨xc.toArray⟩) (.bool x1) (.bool x2) (.bool x3) (.bool x4) (.bool x5) z0 z1 z2 z3 z4 z5 z6
  have hB := set7_below B1.out (w.heap.size + 1) (by omega) (.string ⟨xo.toArray⟩) (.string ⟨xc.toArray⟩) (.bool x1) (.bool x2) (.bool x3) (.bool x4) (.bool x5)
  show bodyPost _ _ _ _ _ (set7 w1 (w.heap.size + 1) (.string ⟨xo.toArray⟩) (.string ⟨xc.toArray⟩) (.bool x1) (.bool x2) (.bool x3) (.bool x4) (.bool x5))
  exact bodyPost_ret (v := .tuple #[.agg #[.string ⟨xo.toArray⟩, .string ⟨xc.toArray⟩, .bool x1, .bool x2, .bool x3, .bool x4, .bool x5], .bool false]) (by simp [results, Tryz.results62, go_sem, r0, r1, r2, r3, r4, r5, r6]) rfl ⟨rfl, hB⟩

set_option maxHeartbeats 1600000 in
set_option maxRecDepth 100000 in
theorem find_yes {w : World} {v : Value} {l : List Ent} (hv : Ents w v l) (hr : Rise l) (xo xc : List UInt8) (x1 x2 x3 x4 x5 : Bool) {eo ec : List UInt8} {i1 i2 i3 i4 i5 : Bool} (hlt : entPlace l ⟨xo, xc, ⟨x1, x2, x3, x4, x5⟩⟩ < l.length) (he : l.getD (entPlace l ⟨xo, xc, ⟨x1, x2, x3, x4, x5⟩⟩) Ent.zero = ⟨eo, ec, ⟨i1, i2, i3, i4, i5⟩⟩) (hs : entIs ⟨eo, ec, ⟨i1, i2, i3, i4, i5⟩⟩ ⟨xo, xc, ⟨x1, x2, x3, x4, x5⟩⟩ = true) :
    Calls Tryz.prog 62 #[v, .agg #[.string ⟨xo.toArray⟩, .string ⟨xc.toArray⟩, .bool x1, .bool x2, .bool x3, .bool x4, .bool x5]] w fun e w' => e = .returned (.tuple #[.agg #[.string ⟨eo.toArray⟩, .string ⟨ec.toArray⟩, .bool i1, .bool i2, .bool i3, .bool i4, .bool i5], .bool true]) ∧ Below w.heap.size w w' := by
  have B0 : Hid (Below w.heap.size w ((w.alloc (.cells #[.string ⟨xo.toArray⟩, .string ⟨xc.toArray⟩, .bool x1, .bool x2, .bool x3, .bool x4, .bool x5] 68)).alloc (.cells #[.string ⟨#[]⟩, .string ⟨#[]⟩, .bool false, .bool false, .bool false, .bool false, .bool false] 68))) := Lib.hid (((Below.refl _ _).alloc (Nat.le_refl _) _).alloc (by simp) _)
  have hq : (decide (entPlace l ⟨xo, xc, ⟨x1, x2, x3, x4, x5⟩⟩ < l.length) && entIs (l.getD (entPlace l ⟨xo, xc, ⟨x1, x2, x3, x4, x5⟩⟩) Ent.zero) ⟨xo, xc, ⟨x1, x2, x3, x4, x5⟩⟩) = true := by rw [he, hs]; simpa using hlt
  have HV := Lib.hid (hv.later B0.out)
  have HZ := Lib.hid (show Cells7 ((w.alloc (.cells #[.string ⟨xo.toArray⟩, .string ⟨xc.toArray⟩, .bool x1, .bool x2, .bool x3, .bool x4, .bool x5] 68)).alloc (.cells #[.string ⟨#[]⟩, .string ⟨#[]⟩, .bool false, .bool false, .bool false, .bool false, .bool false] 68)) (w.heap.size + 1) 0 Ent.zero by
    refine ⟨?_, ?_, ?_, ?_, ?_, ?_, ?_⟩ <;> (rw [World.cell?_alloc_at _ _ _ _ (by simp)]; rfl))
  have HX := Lib.hid ((cells7_made w ⟨xo, xc, ⟨x1, x2, x3, x4, x5⟩⟩ 68).later ((Below.refl _ _).alloc (Nat.le_refl _) (.cells #[.string ⟨#[]⟩, .string ⟨#[]⟩, .bool false, .bool false, .bool false, .bool false, .bool false] 68)))
  have HF : Hid (∀ i, ((w.alloc (.cells #[.string ⟨xo.toArray⟩, .string ⟨xc.toArray⟩, .bool x1, .bool x2, .bool x3, .bool x4, .bool x5] 68)).alloc (.cells #[.string ⟨#[]⟩, .string ⟨#[]⟩, .bool false, .bool false, .bool false, .bool false, .bool false] 68)).frozen? ⟨w.heap.size + 1, i, none⟩ = false) := Lib.hid fun i => by simp
  obtain ⟨a, cap, rfl, hm⟩ := hv.open'
  go_enter Tryz.func62, Tryz.ntmps62
  go_wp2_with fail
  refine (place_any HV.out hr xo xc x1 x2 x3 x4 x5 rfl hq).mono ?_
  rintro e w1 ⟨rfl, b⟩
  have B1 := Lib.hid (below2S B0.out b)
  obtain ⟨z0, z1, z2, z3, z4, z5, z6⟩ := HZ.out.later b
  obtain ⟨c0, c1, c2, c3, c4, c5, c6⟩ := HX.out.later b
  have f0 := (b.frozen (p := ⟨w.heap.size + 1, 0, none⟩) (by show w.heap.size + 1 < _; simp)).trans (HF.out 0)
  have f1 := (b.frozen (p := ⟨w.heap.size + 1, 1, none⟩) (by show w.heap.size + 1 < _; simp)).trans (HF.out 1)
  have f2 := (b.frozen (p := ⟨w.heap.size + 1, 2, none⟩) (by show w.heap.size + 1 < _; simp)).trans (HF.out 2)
  have f3 := (b.frozen (p := ⟨w.heap.size + 1, 3, none⟩) (by show w.heap.size + 1 < _; simp)).trans (HF.out 3)
  have f4 := (b.frozen (p := ⟨w.heap.size + 1, 4, none⟩) (by show w.heap.size + 1 < _; simp)).trans (HF.out 4)
  have f5 := (b.frozen (p := ⟨w.heap.size + 1, 5, none⟩) (by show w.heap.size + 1 < _; simp)).trans (HF.out 5)
  have f6 := (b.frozen (p := ⟨w.heap.size + 1, 6, none⟩) (by show w.heap.size + 1 < _; simp)).trans (HF.out 6)
  simp only [Nat.zero_add, Ent.zero, It.zero] at z0 z1 z2 z3 z4 z5 z6 c0 c1 c2 c3 c4 c5 c6
  obtain ⟨bb, off, rfl, g0, g1, g2, g3, g4, g5, g6⟩ := HV.out.row b _ hlt
  rw [he] at g0 g1 g2 g3 g4 g5 g6
  simp only at g0 g1 g2 g3 g4 g5 g6
  obtain ⟨p, hp⟩ : ∃ p, entPlace l ⟨xo, xc, ⟨x1, x2, x3, x4, x5⟩⟩ = p := ⟨_, rfl⟩
  rw [hp] at g0 g1 g2 g3 g4 g5 g6 hlt ⊢
  have hk0 : (0 : Int) ≤ (p : Int) := by omega
  have hk1 : (p : Int) < (l.length : Int) := by omega
  clear b hp hq he hs
  go_wp2_with fail
  obtain ⟨r0, r1, r2, r3, r4, r5, r6⟩ := set7_get w1 (w.heap.size + 1) (.string ⟨eo.toArray⟩) (.string ⟨ec.toArray⟩) (.bool i1) (.bool i2) (.bool i3) (.bool i4) (.bool i5) z0 z1 z2 z3 z4 z5 z6
  have hB := set7_below B1.out (w.heap.size + 1) (by omega) (.string ⟨eo.toArray⟩) (.string ⟨ec.toArray⟩) (.bool i1) (.bool i2) (.bool i3) (.bool i4) (.bool i5)
  show bodyPost _ _ _ _ _ (set7 w1 (w.heap.size + 1) (.string ⟨eo.toArray⟩) (.string ⟨ec.toArray⟩) (.bool i1) (.bool i2) (.bool i3) (.bool i4) (.bool i5))
  exact bodyPost_ret (v := .tuple #[.agg #[.string ⟨eo.toArray⟩, .string ⟨ec.toArray⟩, .bool i1, .bool i2, .bool i3, .bool i4, .bool i5], .bool true]) (by simp [results, Tryz.results62, go_sem, r0, r1, r2, r3, r4, r5, r6]) rfl ⟨rfl, hB⟩

end Go.Proofs.YthfkfonfiejbmaaGreat

end

section

/-
  slices.IndexFunc AND slices.DeleteFunc OF ENTRIES, at the one predicate that asks for an Owner and a Contact; without.
-/
namespace Go.Proofs.YthfkfonfiejbmaaGreat
open Go.RowKit

theorem Ents.rdS {w : World} {v : Value} {l : List Ent} (h : Ents w v l) : RdS entVals 7 Ent.zero w v l := by
  obtain ⟨a, cap, h1, h2, h3, h4, h5⟩ := h
  refine ⟨a, cap, h1, h2, h3, h4, ?_⟩
  rcases h5 with h5 | ⟨b, off, e, hlt, hc⟩
  · exact .inl h5
  · exact .inr ⟨b, off, e, hlt, fun i hi => cells7_at.1 (hc i hi)⟩

theorem RdS.ents {w : World} {v : Value} {l : List Ent} (h : RdS entVals 7 Ent.zero w v l) : Ents w v l := by
  obtain ⟨a, cap, h1, h2, h3, h4, h5⟩ := h
  refine ⟨a, cap, h1, h2, h3, h4, ?_⟩
  rcases h5 with h5 | ⟨b, off, e, hlt, hc⟩
  · exact .inl h5
  · exact .inr ⟨b, off, e, hlt, fun i hi => cells7_at.2 (hc i hi)⟩

set_option maxHeartbeats 800000 in
set_option maxRecDepth 100000 in
theorem wo1_any {w : World} {B : Nat} {ko kc : List UInt8} {k1 k2 k3 k4 k5 : Bool} (hk : Cells7 w B 0 ⟨ko, kc, ⟨k1, k2, k3, k4, k5⟩⟩) (xo xc : List UInt8) (x1 x2 x3 x4 x5 : Bool) {r : Bool} (h : Hid (entIs ⟨xo, xc, ⟨x1, x2, x3, x4, x5⟩⟩ ⟨ko, kc, ⟨k1, k2, k3, k4, k5⟩⟩ = r)) :
    Calls Tryz.prog 100 #[.agg #[.string ⟨xo.toArray⟩, .string ⟨xc.toArray⟩, .bool x1, .bool x2, .bool x3, .bool x4, .bool x5], .pointer (some ⟨B, 0, none⟩)] w fun e w' => e = .returned (.bool r) ∧ Below w.heap.size w w' := by
  have B0 := Lib.hid ((Below.refl w.heap.size w).alloc (Nat.le_refl _) (.cells #[.string ⟨xo.toArray⟩, .string ⟨xc.toArray⟩, .bool x1, .bool x2, .bool x3, .bool x4, .bool x5] 68))
  have HC := Lib.hid (rcompare_any xo xc ko kc x1 x2 x3 x4 x5 k1 k2 k3 k4 k5)
  obtain ⟨n, hn⟩ : ∃ n, entI ⟨xo, xc, ⟨x1, x2, x3, x4, x5⟩⟩ ⟨ko, kc, ⟨k1, k2, k3, k4, k5⟩⟩ = n := ⟨_, rfl⟩
  have t1 : (n == 0) = r := by
    rw [← h.out, ← hn]
    cases he : entIs ⟨xo, xc, ⟨x1, x2, x3, x4, x5⟩⟩ ⟨ko, kc, ⟨k1, k2, k3, k4, k5⟩⟩ with
    | true => exact entI_on he
    | false => exact entI_off he
  rw [hn] at HC
  obtain ⟨c0, c1, c2, c3, c4, c5, c6⟩ := hk.later (B0.out)
  simp only [Nat.zero_add] at c0 c1 c2 c3 c4 c5 c6
  clear hn h hk
  go_enter Tryz.func100, Tryz.ntmps100
  go_wp2_with fail
  refine (HC.out _).mono ?_
  rintro e w1 ⟨rfl, b1⟩
  have B1 := Lib.hid (below2S B0.out b1)
  clear b1 c0 c1 c2 c3 c4 c5 c6
  go_wp2_with fail
  go_ret
  exact ⟨rfl, B1.out⟩

/-- Where the first entry of an Owner and a Contact stands. -/
def FoundE (t : List Ent) (key : Ent) (n : Int) : Prop :=
  (∃ k : Nat, k < t.length ∧ n = k ∧ entIs (t.getD k Ent.zero) key = true ∧ ∀ j, j < k → entIs (t.getD j Ent.zero) key = false) ∨ (n = -1 ∧ ∀ j, j < t.length → entIs (t.getD j Ent.zero) key = false)

set_option maxHeartbeats 1600000 in
set_option maxRecDepth 100000 in
theorem eindexf_any {w : World} {v : Value} {t : List Ent} (hv : Ents w v t) {B : Nat} {ko kc : List UInt8} {k1 k2 k3 k4 k5 : Bool} (hk : Cells7 w B 0 ⟨ko, kc, ⟨k1, k2, k3, k4, k5⟩⟩) :
    Calls Tryz.prog 118 #[v, .func (.func 100) #[] #[.pointer (some ⟨B, 0, none⟩)]] w fun e w' => ∃ n, e = .returned (.int .i64 n) ∧ FoundE t ⟨ko, kc, ⟨k1, k2, k3, k4, k5⟩⟩ n ∧ Below w.heap.size w w' := by
  have HV := Lib.hid hv
  have HK := Lib.hid hk
  obtain ⟨a, cap, rfl, hm⟩ := hv.open'
  clear hv hk
  go_enter Tryz.func118, Tryz.ntmps118
  go_wp2_with fail
  go_loopw [8] (fun i wr => ∃ k : Nat, k ≤ t.length ∧ i = .int .i64 k ∧ Hid (Below w.heap.size w wr) ∧ Hid (∀ j, j < k → entIs (t.getD j Ent.zero) ⟨ko, kc, ⟨k1, k2, k3, k4, k5⟩⟩ = false)) (fun i _ => t.length - (intOf i).toNat)
  case atStart => exact ⟨0, by omega, rfl, Below.refl _ _, fun j hj => absurd hj (by omega)⟩
  case round =>
    obtain ⟨k, hk, rfl, HN, HA⟩ := hrel
    by_cases hlt : k < t.length
    · obtain ⟨b, off, rfl, h0, h1, h2, h3, h4, h5, h6⟩ := HV.out.row HN.out k hlt
      obtain ⟨⟨xo, xc, ⟨x1, x2, x3, x4, x5⟩⟩, hr⟩ : ∃ r, t.getD k Ent.zero = r := ⟨_, rfl⟩
      rw [hr] at h0 h1 h2 h3 h4 h5 h6
      have HR := Lib.hid hr
      simp only at h0 h1 h2 h3 h4 h5 h6
      have HKr := Lib.hid (HK.out.later HN.out)
      clear hr
      cases hc : entIs ⟨xo, xc, ⟨x1, x2, x3, x4, x5⟩⟩ ⟨ko, kc, ⟨k1, k2, k3, k4, k5⟩⟩ with
      | true =>
        have HD := Lib.hid (wo1_any HKr.out xo xc x1 x2 x3 x4 x5 (Lib.hid hc))
        have HF : Hid (FoundE t ⟨ko, kc, ⟨k1, k2, k3, k4, k5⟩⟩ k) := .inl ⟨k, hlt, rfl, by rw [HR.out]; exact hc, HA.out⟩
        clear hc
        go_wp2_with fail
        refine HD.out.mono ?_
        rintro e w1 ⟨rfl, hb1⟩
        have N1 := Lib.hid (below2S HN.out hb1)
        clear hb1 h0 h1 h2 h3 h4 h5 h6
        go_wp2_with fail
        go_ret
        exact ⟨_, rfl, HF.out, N1.out⟩
      | false =>
        have HD := Lib.hid (wo1_any HKr.out xo xc x1 x2 x3 x4 x5 (Lib.hid hc))
        have HA2 : Hid (∀ j, j < k + 1 → entIs (t.getD j Ent.zero) ⟨ko, kc, ⟨k1, k2, k3, k4, k5⟩⟩ = false) := by
          show ∀ j, j < k + 1 → _
          intro j hj
          by_cases hjk : j = k
          · rw [hjk, HR.out]; exact hc
          · exact HA.out j (by omega)
        clear hc
        go_wp2_with fail
        refine HD.out.mono ?_
        rintro e w1 ⟨rfl, hb1⟩
        have N1 := Lib.hid (below2S HN.out hb1)
        clear hb1 h0 h1 h2 h3 h4 h5 h6
        go_wp2_with fail
        go_roundw
        case rel => exact ⟨k + 1, by omega, by go_num, N1, HA2⟩
        case measure => simp [intOf]; omega
    · obtain rfl : k = t.length := by omega
      have HF : Hid (FoundE t ⟨ko, kc, ⟨k1, k2, k3, k4, k5⟩⟩ (-1)) := .inr ⟨rfl, HA.out⟩
      go_wp2_with fail
      go_ret
      exact ⟨_, rfl, HF.out, HN.out⟩

theorem edrop_none {t : List Ent} {key : Ent} (h : ∀ j, j < t.length → entIs (t.getD j Ent.zero) key = false) : dropO entIs t key = t := by
  unfold dropO
  rw [List.filter_eq_self]
  intro r hr
  obtain ⟨k, hk, rfl⟩ := List.getElem_of_mem hr
  have := h k hk
  rw [getD_at hk] at this
  simp [this]

theorem edrop_next {t : List Ent} {key : Ent} {j : Nat} (hj : j < t.length) {r : Ent} (hr : t.getD j Ent.zero = r) :
    (entIs r key = true → dropO entIs (t.take (j + 1)) key = dropO entIs (t.take j) key) ∧ (entIs r key = false → dropO entIs (t.take (j + 1)) key = dropO entIs (t.take j) key ++ [r]) := by
  unfold dropO
  rw [List.take_succ_eq_append_getElem hj, ← getD_at hj, hr, List.filter_append]
  constructor
  · intro h
    simp [h]
  · intro h
    simp [h]

theorem eset_take_next {u : List Ent} {i : Nat} (hi : i < u.length) (r : Ent) : (u.set i r).take (i + 1) = u.take i ++ [r] := by
  rw [List.take_set, List.set_eq_take_append_cons_drop]
  rw [if_pos (by rw [List.length_take]; omega)]
  rw [List.take_take, List.drop_of_length_le (by rw [List.length_take]; omega), show min i (i + 1) = i by omega]

/-- Where DeleteFunc stands: entries kept up to i, entries looked at up to j. -/
def EDelAt (t u : List Ent) (key : Ent) (i j : Nat) : Prop := u.length = t.length ∧ i < j ∧ j ≤ t.length ∧ u.take i = dropO entIs (t.take j) key ∧ u.drop j = t.drop j

theorem edelAt_start {t : List Ent} {key : Ent} {k : Nat} (hk : k < t.length) (hc : entIs (t.getD k Ent.zero) key = true) (hn : ∀ j, j < k → entIs (t.getD j Ent.zero) key = false) : EDelAt t t key k (k + 1) := by
  refine ⟨rfl, by omega, hk, ?_, rfl⟩
  rw [(edrop_next hk rfl).1 hc]
  refine (edrop_none fun j hj => ?_).symm
  rw [List.length_take] at hj
  have : (t.take k).getD j Ent.zero = t.getD j Ent.zero := by simp [List.getD, show j < k by omega]
  rw [this]
  exact hn j (by omega)

theorem edelAt_row {t u : List Ent} {key : Ent} {i j : Nat} (h : EDelAt t u key i j) (hj : j < t.length) : u.getD j Ent.zero = t.getD j Ent.zero := by
  obtain ⟨h1, _, _, _, h5⟩ := h
  have a := List.drop_eq_getElem_cons (show j < u.length by omega)
  have b := List.drop_eq_getElem_cons hj
  rw [h5, b] at a
  rw [getD_at hj, getD_at (show j < u.length by omega)]
  exact (List.cons.inj a).1.symm

theorem edelAt_skip {t u : List Ent} {key : Ent} {i j : Nat} (h : EDelAt t u key i j) (hj : j < t.length) {r : Ent} (hr : t.getD j Ent.zero = r) (hc : entIs r key = true) : EDelAt t u key i (j + 1) := by
  obtain ⟨h1, h2, h3, h4, h5⟩ := h
  refine ⟨h1, by omega, hj, by rw [(edrop_next hj hr).1 hc, h4], ?_⟩
  have e : ∀ l : List Ent, l.drop (j + 1) = (l.drop j).drop 1 := fun l => by rw [List.drop_drop]
  rw [e u, e t, h5]

theorem edelAt_keep {t u : List Ent} {key : Ent} {i j : Nat} (h : EDelAt t u key i j) (hj : j < t.length) {r : Ent} (hr : t.getD j Ent.zero = r) (hc : entIs r key = false) : EDelAt t (u.set i r) key (i + 1) (j + 1) := by
  obtain ⟨h1, h2, h3, h4, h5⟩ := h
  refine ⟨by simpa using h1, by omega, hj, by rw [eset_take_next (by omega), h4, (edrop_next hj hr).2 hc], ?_⟩
  have e : ∀ l : List Ent, l.drop (j + 1) = (l.drop j).drop 1 := fun l => by rw [List.drop_drop]
  rw [List.drop_set, if_pos (by omega), e u, e t, h5]

/-- Seven cells of a row stored anew. -/
def setE (w : World) (g o : Nat) (xo xc : List UInt8) (x1 x2 x3 x4 x5 : Bool) : World :=
  ((((((w.setCell ⟨g, o, none⟩ (.string ⟨xo.toArray⟩)).setCell ⟨g, o + 1, none⟩ (.string ⟨xc.toArray⟩)).setCell ⟨g, o + 2, none⟩ (.bool x1)).setCell ⟨g, o + 3, none⟩ (.bool x2)).setCell ⟨g, o + 4, none⟩ (.bool x3)).setCell ⟨g, o + 5, none⟩ (.bool x4)).setCell ⟨g, o + 6, none⟩ (.bool x5)

theorem setE_own {w : World} {base g n cap : Nat} {u : List Ent} (h : OwnS entVals 7 68 w base (.slice (some ⟨g, 0, none⟩) n cap) u) {i : Nat} (hi : i < u.length) (xo xc : List UInt8) (x1 x2 x3 x4 x5 : Bool) :
    OwnS entVals 7 68 (setE w g (i * 7) xo xc x1 x2 x3 x4 x5) base (.slice (some ⟨g, 0, none⟩) n cap) (u.set i ⟨xo, xc, ⟨x1, x2, x3, x4, x5⟩⟩) := ownS_set entOK h hi ⟨xo, xc, ⟨x1, x2, x3, x4, x5⟩⟩

theorem setE_below {B g o : Nat} {w0 w : World} (h : Below B w0 w) (hB : B ≤ g) (xo xc : List UInt8) (x1 x2 x3 x4 x5 : Bool) : Below B w0 (setE w g o xo xc x1 x2 x3 x4 x5) :=
  ((((((h.setCell hB _).setCell hB _).setCell hB _).setCell hB _).setCell hB _).setCell hB _).setCell hB _

set_option maxHeartbeats 3200000 in
set_option maxRecDepth 100000 in
theorem edeletef_some {w : World} {base g n cap : Nat} {t : List Ent} (ho : OwnS entVals 7 68 w base (.slice (some ⟨g, 0, none⟩) n cap) t) {B : Nat} {ko kc : List UInt8} {k1 k2 k3 k4 k5 : Bool} (hk : Cells7 w B 0 ⟨ko, kc, ⟨k1, k2, k3, k4, k5⟩⟩) (hB : B < base) (hbase : base ≤ w.heap.size) :
    Calls Tryz.prog 98 #[.slice (some ⟨g, 0, none⟩) n cap, .func (.func 100) #[] #[.pointer (some ⟨B, 0, none⟩)]] w fun e w' => ∃ v, e = .returned v ∧ OwnS entVals 7 68 w' base v (dropO entIs t ⟨ko, kc, ⟨k1, k2, k3, k4, k5⟩⟩) ∧ Below base w w' := by
  have HO := Lib.hid ho
  have HK := Lib.hid hk
  obtain ⟨hn, hbg, hgw, hnc, hcm, _⟩ := ho.head
  subst hn
  unfold maxLen at hcm
  have HI := Lib.hid (eindexf_any (ho.rd entOK).ents hk)
  clear ho hk
  go_enter Tryz.func98, Tryz.ntmps98
  go_wp2_with fail
  refine HI.out.mono ?_
  rintro e w1 ⟨m, rfl, hf, hb1⟩
  have B1 := Lib.hid hb1
  have O1 := Lib.hid (HO.out.later hb1)
  clear hb1 HI HO
  rcases hf with ⟨k, hklt, rfl, hkc, hkn⟩ | ⟨rfl, hno⟩
  · have HD := Lib.hid (edelAt_start hklt hkc hkn)
    have t0 : ((k : Int) == -1) = false := by simp
    clear hkc hkn
    go_wp2_with fail
    go_loopw [5, 6] (fun a b wr => ∃ (i j : Nat) (u : List Ent), a = .int .i64 i ∧ b = .int .i64 j ∧ Hid (EDelAt t u ⟨ko, kc, ⟨k1, k2, k3, k4, k5⟩⟩ i j) ∧ Hid (OwnS entVals 7 68 wr base (.slice (some ⟨g, 0, none⟩) t.length cap) u) ∧ Hid (Below base w wr)) (fun _ b _ => t.length - (intOf b).toNat)
    case atStart => exact ⟨k, k + 1, t, rfl, by go_num, HD, O1, B1.out.mono hbase⟩
    case round =>
      clear HD O1 B1 hklt
      obtain ⟨i, j, u, rfl, rfl, HD, HO, HN⟩ := hrel
      have hij := HD.out.2.1
      have hjn := HD.out.2.2.1
      have hul := HD.out.1
      by_cases hlt : j < t.length
      · obtain ⟨h0, h1, h2, h3, h4, h5, h6⟩ := cells7_at.2 (HO.out.row entOK (show j < u.length by omega))
        have hgr := HO.out.head.2.2.1
        have hrow := edelAt_row HD.out hlt
        obtain ⟨⟨xo, xc, ⟨x1, x2, x3, x4, x5⟩⟩, hr⟩ : ∃ r, t.getD j Ent.zero = r := ⟨_, rfl⟩
        rw [hrow, hr] at h0 h1 h2 h3 h4 h5 h6
        simp only at h0 h1 h2 h3 h4 h5 h6
        have HR := Lib.hid hr
        have hkr : Cells7 wr B 0 ⟨ko, kc, ⟨k1, k2, k3, k4, k5⟩⟩ := cells7_at.2 (fun q u hu => (HN.out.cell (p := ⟨B, 0 + q, none⟩) hB).trans (cells7_at.1 HK.out q u hu))
        have hcell := Lib.hid (hkr.later (bl_newZ wr (.cells #[.string ⟨xo.toArray⟩, .string ⟨xc.toArray⟩, .bool x1, .bool x2, .bool x3, .bool x4, .bool x5] 68)))
        have CX := Lib.hid (cells7_made wr ⟨xo, xc, ⟨x1, x2, x3, x4, x5⟩⟩ 68)
        have hbr : base ≤ wr.heap.size := by omega
        have bn := bl_newZ wr (.cells #[.string ⟨xo.toArray⟩, .string ⟨xc.toArray⟩, .bool x1, .bool x2, .bool x3, .bool x4, .bool x5] 68)
        clear hr hrow hkr
        cases hc : entIs ⟨xo, xc, ⟨x1, x2, x3, x4, x5⟩⟩ ⟨ko, kc, ⟨k1, k2, k3, k4, k5⟩⟩ with
        | true =>
          have HD2 := Lib.hid (edelAt_skip HD.out hlt HR.out hc)
          have HDel := Lib.hid (wo1_any hcell.out xo xc x1 x2 x3 x4 x5 (Lib.hid hc))
          clear hc hcell
          go_wp2_with fail
          refine HDel.out.mono ?_
          rintro e w2 ⟨rfl, hb2⟩
          have bx := below2Z bn hb2
          have N2 := Lib.hid (HN.out.trans (bx.mono hbr))
          have O2 := Lib.hid (HO.out.later bx)
          clear hb2 bx bn h0 h1 h2 h3 h4 h5 h6
          go_wp2_with fail
          go_roundw
          case rel => exact ⟨i, j + 1, u, rfl, by go_num, HD2, O2, N2⟩
          case measure => simp [intOf]; omega
        | false =>
          have HD2 := Lib.hid (edelAt_keep HD.out hlt HR.out hc)
          have HDel := Lib.hid (wo1_any hcell.out xo xc x1 x2 x3 x4 x5 (Lib.hid hc))
          clear hc hcell
          go_wp2_with fail
          refine HDel.out.mono ?_
          rintro e w2 ⟨rfl, hb2⟩
          obtain ⟨k0', k1', k2', k3', k4', k5', k6'⟩ := CX.out.later hb2
          simp only [Nat.zero_add] at k0' k1' k2' k3' k4' k5' k6'
          have bx := below2Z bn hb2
          have N2 := Lib.hid (HN.out.trans (bx.mono hbr))
          have O2 := Lib.hid (HO.out.later bx)
          have hsz := bx.size
          obtain ⟨s0, s1, s2, s3, s4, s5, s6⟩ := cells7_at.2 (O2.out.row entOK (show i < u.length by omega))
          have f0 := O2.out.frozenAt (i * 7)
          have f1 := O2.out.frozenAt (i * 7 + 1)
          have f2 := O2.out.frozenAt (i * 7 + 2)
          have f3 := O2.out.frozenAt (i * 7 + 3)
          have f4 := O2.out.frozenAt (i * 7 + 4)
          have f5 := O2.out.frozenAt (i * 7 + 5)
          have f6 := O2.out.frozenAt (i * 7 + 6)
          have O3 := Lib.hid (setE_own O2.out (show i < u.length by omega) xo xc x1 x2 x3 x4 x5)
          have N3 := Lib.hid (setE_below (o := i * 7) N2.out hbg xo xc x1 x2 x3 x4 x5)
          clear hb2 bx bn h0 h1 h2 h3 h4 h5 h6 O2 N2
          go_wp2_with fail
          go_roundw
          case rel => exact ⟨i + 1, j + 1, u.set i ⟨xo, xc, ⟨x1, x2, x3, x4, x5⟩⟩, by go_num, by go_num, HD2, O3, N3⟩
          case measure => simp [intOf]; omega
      · obtain rfl : j = t.length := by omega
        have hR : u.take i = dropO entIs t ⟨ko, kc, ⟨k1, k2, k3, k4, k5⟩⟩ := by have := HD.out.2.2.2.1; rwa [List.take_length] at this
        have HR := Lib.hid hR
        have hne : ¬ cap = i := by omega
        clear hR
        go_wp2_with (with_reducible refine wpList_clear_S entOK rfl (.tmp 38) rfl base g t.length cap u HO.out i (some ⟨g, i * 7, none⟩) (t.length - i) (cap - i) rfl (fun _ => rfl) (by omega) ?_)
        intro w3 h3 hb3
        have O3 := Lib.hid (ownS_cut entOK h3 (i := i) (by rw [List.length_append, List.length_take, List.length_replicate]; omega))
        have N3 := Lib.hid (HN.out.trans (hb3.mono hbg))
        clear h3 hb3
        go_wp2_with fail
        go_ret
        refine ⟨_, rfl, ?_, N3.out⟩
        have := O3.out
        rw [List.take_append_of_le_length (by rw [List.length_take]; omega), List.take_take, Nat.min_self, HR.out] at this
        exact this
  · have HR := Lib.hid (edrop_none hno)
    clear hno
    go_wp2_with fail
    go_ret
    exact ⟨_, rfl, by rw [HR.out]; exact O1.out, B1.out.mono hbase⟩

set_option maxHeartbeats 1600000 in
set_option maxRecDepth 100000 in
theorem edeletef_nil {w : World} {B : Nat} {ko kc : List UInt8} {k1 k2 k3 k4 k5 : Bool} (hk : Cells7 w B 0 ⟨ko, kc, ⟨k1, k2, k3, k4, k5⟩⟩) :
    Calls Tryz.prog 98 #[.slice none 0 0, .func (.func 100) #[] #[.pointer (some ⟨B, 0, none⟩)]] w fun e w' => e = .returned (.slice none 0 0) ∧ Below w.heap.size w w' := by
  have HI := Lib.hid (eindexf_any (ents_nil w) hk)
  clear hk
  go_enter Tryz.func98, Tryz.ntmps98
  go_wp2_with fail
  refine HI.out.mono ?_
  rintro e w1 ⟨m, rfl, hf, hb1⟩
  have B1 := Lib.hid hb1
  clear hb1 HI
  rcases hf with ⟨k, hklt, rfl, hkc, hkn⟩ | ⟨rfl, hno⟩
  · simp at hklt
  · clear hno
    go_wp2_with fail
    go_ret
    exact ⟨rfl, B1.out⟩

set_option maxHeartbeats 1600000 in
set_option maxRecDepth 100000 in
theorem rwithout_any {w : World} {v : Value} {l : List Ent} (hv : Ents w v l) (hl : l.length ≤ 4294967) (ko kc : List UInt8) (k1 k2 k3 k4 k5 : Bool) :
    Calls Tryz.prog 67 #[v, .agg #[.string ⟨ko.toArray⟩, .string ⟨kc.toArray⟩, .bool k1, .bool k2, .bool k3, .bool k4, .bool k5]] w fun e w' => ∃ u, e = .returned u ∧ OwnS entVals 7 68 w' w.heap.size u (dropO entIs l ⟨ko, kc, ⟨k1, k2, k3, k4, k5⟩⟩) ∧ Below w.heap.size w w' := by
  have bn := bl_newZ w (.cells #[.string ⟨ko.toArray⟩, .string ⟨kc.toArray⟩, .bool k1, .bool k2, .bool k3, .bool k4, .bool k5] 68)
  have B0 := Lib.hid bn
  have HS := Lib.hid (show (w.alloc (.cells #[.string ⟨ko.toArray⟩, .string ⟨kc.toArray⟩, .bool k1, .bool k2, .bool k3, .bool k4, .bool k5] 68)).heap.size = w.heap.size + 1 by simp)
  have K0 := Lib.hid (cells7_made w ⟨ko, kc, ⟨k1, k2, k3, k4, k5⟩⟩ 68)
  have HC := Lib.hid (ent_clone (hv.later bn).rdS hl)
  have hmf : ∀ (fn : Fn) (first cap : Array Value) (w : World), (Instr.makeFunc fn first cap).run Tryz.prog w = .ok (.func fn first cap) w := fun _ _ _ _ => rfl
  obtain ⟨a, cap, rfl, hm⟩ := hv.open'
  clear hv bn
  go_enter Tryz.func67, Tryz.ntmps67
  go_wp2_with fail
  refine HC.out.mono ?_
  rintro e w1 ⟨u, rfl, ho, b1⟩
  have B1 := Lib.hid (below2Z B0.out b1)
  have K1 := Lib.hid (K0.out.later b1)
  have hsz := b1.size
  rw [HS.out] at ho hsz
  have HO := Lib.hid ho
  rcases ho.2 with ⟨rfl, h0⟩ | ⟨g, cp, cur, rfl, -, -, -, -, -, -⟩
  · obtain rfl : l = [] := List.length_eq_zero_iff.1 h0
    have HD := Lib.hid (edeletef_nil K1.out)
    clear ho b1 h0
    go_wp2_with fail
    refine HD.out.mono ?_
    rintro e w2 ⟨rfl, b2⟩
    have B2 := Lib.hid (below2Z B1.out b2)
    clear b2
    go_wp2_with fail
    go_ret
    exact ⟨_, rfl, ownS_nil _ _, B2.out⟩
  · have HD := Lib.hid (edeletef_some HO.out K1.out (by omega) (by omega))
    clear ho b1
    go_wp2_with fail
    refine HD.out.mono ?_
    rintro e w2 ⟨y, rfl, ho2, b2⟩
    have B2 := Lib.hid (B1.out.trans (b2.mono (by omega)))
    have O2 := Lib.hid (ownS_low ho2 (show w.heap.size ≤ w.heap.size + 1 by omega))
    clear b2 ho2
    go_wp2_with fail
    go_ret
    exact ⟨_, rfl, O2.out, B2.out⟩

end Go.Proofs.YthfkfonfiejbmaaGreat

end

section

/-
  LAYER 9: sessions in memory; when two are the same; the key of one.
-/
namespace Go.Proofs.YthfkfonfiejbmaaGreat
open Go.RowKit

def sesVals (s : Ses) : List Value := [.string ⟨s.u.toArray⟩, .int .i64 s.id, .int .i64 s.v.sh, .int .i64 s.v.pr, .int .i64 s.v.si, .string ⟨s.v.st.toArray⟩]

/-- A session by value. -/
def sesAgg (s : Ses) : Value := .agg #[.string ⟨s.u.toArray⟩, .int .i64 s.id, .int .i64 s.v.sh, .int .i64 s.v.pr, .int .i64 s.v.si, .string ⟨s.v.st.toArray⟩]

theorem sesOK : RowOK Tryz.prog sesVals 6 Ses.zero 62 23 (.agg #[.string ⟨#[]⟩, .int .i64 0, .int .i64 0, .int .i64 0, .int .i64 0, .string ⟨#[]⟩]) 64 where
  len _ := rfl
  one a u hu := by
    simp only [sesVals, List.mem_cons, List.not_mem_nil, or_false] at hu
    rcases hu with rfl | rfl | rfl | rfl | rfl | rfl <;> rfl
  pos := by decide
  small := by decide
  under := Tryz.underlying23
  info := by kernel_rfl
  zvals := rfl
  fits := by decide

abbrev Sess (w : World) (v : Value) (l : List Ses) : Prop := RdS sesVals 6 Ses.zero w v l
abbrev OwnSes (w : World) (base : Nat) (v : Value) (l : List Ses) : Prop := OwnS sesVals 6 62 w base v l

/-- Six cells of a block. -/
theorem cells6 {w : World} {b o : Nat} {s : Ses} (h : CellsAt w b o (sesVals s)) :
    w.cell? ⟨b, o, none⟩ = some (.string ⟨s.u.toArray⟩) ∧ w.cell? ⟨b, o + 1, none⟩ = some (.int .i64 s.id) ∧ w.cell? ⟨b, o + 2, none⟩ = some (.int .i64 s.v.sh) ∧ w.cell? ⟨b, o + 3, none⟩ = some (.int .i64 s.v.pr) ∧ w.cell? ⟨b, o + 4, none⟩ = some (.int .i64 s.v.si) ∧ w.cell? ⟨b, o + 5, none⟩ = some (.string ⟨s.v.st.toArray⟩) :=
  ⟨h 0 _ rfl, h 1 _ rfl, h 2 _ rfl, h 3 _ rfl, h 4 _ rfl, h 5 _ rfl⟩

/-- The same through a draw and new blocks. -/
theorem cells6_regrown {w : World} {b o : Nat} {s : Ses} (h : CellsAt w b o (sesVals s)) :
    (∀ d os, (Sort.grow (redrawn w d) os).cell? ⟨b, o, none⟩ = some (.string ⟨s.u.toArray⟩)) ∧ (∀ d os, (Sort.grow (redrawn w d) os).cell? ⟨b, o + 1, none⟩ = some (.int .i64 s.id)) ∧ (∀ d os, (Sort.grow (redrawn w d) os).cell? ⟨b, o + 2, none⟩ = some (.int .i64 s.v.sh)) ∧
    (∀ d os, (Sort.grow (redrawn w d) os).cell? ⟨b, o + 3, none⟩ = some (.int .i64 s.v.pr)) ∧ (∀ d os, (Sort.grow (redrawn w d) os).cell? ⟨b, o + 4, none⟩ = some (.int .i64 s.v.si)) ∧ (∀ d os, (Sort.grow (redrawn w d) os).cell? ⟨b, o + 5, none⟩ = some (.string ⟨s.v.st.toArray⟩)) := by
  obtain ⟨h0, h1, h2, h3, h4, h5⟩ := cells6 h
  exact ⟨cell_regrown h0, cell_regrown h1, cell_regrown h2, cell_regrown h3, cell_regrown h4, cell_regrown h5⟩

/-! ### '==' -/

theorem val_eqInS (d : Nat) (a b c a' b' c' : Int) (s s' : List UInt8) (w : World) :
    (Op.equalIn (d + 1 + 1) 27 (.agg #[.int .i64 a, .int .i64 b, .int .i64 c, .string ⟨s.toArray⟩]) (.agg #[.int .i64 a', .int .i64 b', .int .i64 c', .string ⟨s'.toArray⟩])).run Tryz.prog w = .ok (valSame ⟨a, b, c, s⟩ ⟨a', b', c', s'⟩) w := by
  have hS : Tryz.prog.underlying 27 = some (.struct (Tryz.prog.fieldsOf 27)) := by kernel_rfl
  have hp : Tryz.prog.stoodInHeld 27 = false := by kernel_rfl
  have u3 := Tryz.underlying3
  have u9 := Tryz.underlying9
  have a3 := Tryz.isAgg3
  have z3 := Tryz.sizeOf3
  have a9 := Tryz.isAgg9
  have z9 := Tryz.sizeOf9
  rw [run_equalIn_agg w (d + 1) 27 _ _ hS hp]
  simp only [Program.fieldsOf, Tryz.underlying27]
  go_simp
  unfold valSame
  by_cases h1 : a = a' <;> by_cases h2 : b = b' <;> by_cases h3 : c = c' <;> by_cases h4 : s = s' <;> simp [h1, h2, h3, h4]

theorem ses_eqIn (d : Nat) (k k' : List UInt8) (i a b c i' a' b' c' : Int) (s s' : List UInt8) (w : World) :
    (Op.equalIn (d + 1 + 1 + 1) 62 (.agg #[.string ⟨k.toArray⟩, .int .i64 i, .int .i64 a, .int .i64 b, .int .i64 c, .string ⟨s.toArray⟩]) (.agg #[.string ⟨k'.toArray⟩, .int .i64 i', .int .i64 a', .int .i64 b', .int .i64 c', .string ⟨s'.toArray⟩])).run Tryz.prog w = .ok (sesSame ⟨k, i, ⟨a, b, c, s⟩⟩ ⟨k', i', ⟨a', b', c', s'⟩⟩) w := by
  have hS : Tryz.prog.underlying 62 = some (.struct (Tryz.prog.fieldsOf 62)) := by kernel_rfl
  have hp : Tryz.prog.stoodInHeld 62 = false := by kernel_rfl
  have u3 := Tryz.underlying3
  have a3 := Tryz.isAgg3
  have z3 := Tryz.sizeOf3
  have u9 := Tryz.underlying9
  have a9 := Tryz.isAgg9
  have z9 := Tryz.sizeOf9
  have a35 := Tryz.isAgg27
  have z35 := Tryz.sizeOf27
  have hv := fun w => val_eqInS d a b c a' b' c' s s' w
  rw [run_equalIn_agg w (d + 1 + 1) 62 _ _ hS hp]
  simp only [Program.fieldsOf, Tryz.underlying62]
  clear hS hp
  go_simp
  unfold sesSame
  by_cases hk : k = k'
  · subst hk
    by_cases hi : i = i'
    · subst hi
      cases valSame ⟨a, b, c, s⟩ ⟨a', b', c', s'⟩ <;> simp
    · simp [hi]
  · simp [hk]

theorem ses_neq (k k' : List UInt8) (i a b c i' a' b' c' : Int) (s s' : List UInt8) (w : World) :
    (binOp .neq 62 (.agg #[.string ⟨k.toArray⟩, .int .i64 i, .int .i64 a, .int .i64 b, .int .i64 c, .string ⟨s.toArray⟩]) (.agg #[.string ⟨k'.toArray⟩, .int .i64 i', .int .i64 a', .int .i64 b', .int .i64 c', .string ⟨s'.toArray⟩])).run Tryz.prog w = .ok (.bool (!sesSame ⟨k, i, ⟨a, b, c, s⟩⟩ ⟨k', i', ⟨a', b', c', s'⟩⟩)) w := by
  rw [run_neq_struct, show (10000 : Nat) = 9997 + 1 + 1 + 1 from rfl, ses_eqIn 9997]
  rfl

theorem key_eqIn (d : Nat) (k k' : List UInt8) (i i' : Int) (w : World) :
    (Op.equalIn (d + 1 + 1) 115 (.agg #[.string ⟨k.toArray⟩, .int .i64 i]) (.agg #[.string ⟨k'.toArray⟩, .int .i64 i'])).run Tryz.prog w = .ok (decide (k = k') && decide (i = i')) w := by
  have hS : Tryz.prog.underlying 115 = some (.struct (Tryz.prog.fieldsOf 115)) := by kernel_rfl
  have hp : Tryz.prog.stoodInHeld 115 = false := by kernel_rfl
  have u3 := Tryz.underlying3
  have u9 := Tryz.underlying9
  have a3 := Tryz.isAgg3
  have z3 := Tryz.sizeOf3
  have a9 := Tryz.isAgg9
  have z9 := Tryz.sizeOf9
  rw [run_equalIn_agg w (d + 1) 115 _ _ hS hp]
  simp only [Program.fieldsOf, Tryz.underlying115]
  go_simp
  by_cases h1 : k = k' <;> by_cases h2 : i = i' <;> simp [h1, h2]

theorem key_eql (k k' : List UInt8) (i i' : Int) (w : World) :
    (binOp .eql 115 (.agg #[.string ⟨k.toArray⟩, .int .i64 i]) (.agg #[.string ⟨k'.toArray⟩, .int .i64 i'])).run Tryz.prog w = .ok (.bool (decide (k = k') && decide (i = i'))) w := by
  rw [run_eql_struct, show (10000 : Nat) = 9998 + 1 + 1 from rfl, key_eqIn 9998]
  rfl

end Go.Proofs.YthfkfonfiejbmaaGreat

end

section

/-
  FOR THE FRAMES: a slice of structs that came in, opened; over any program.
-/
namespace Go.Proofs.YthfkfonfiejbmaaGreat
open Go.ChangeShapes Go.WideShapes Go.ChangeAt Go.RowKit Go.Deep

theorem choose_S {α : Type} (zero : α) {n : Nat} {Q : Nat → α → Prop} (h : ∀ i, i < n → ∃ r, Q i r) : ∃ t : List α, t.length = n ∧ ∀ i, i < n → Q i (t.getD i zero) := by
  induction n with
  | zero => exact ⟨[], rfl, fun i hi => absurd hi (by omega)⟩
  | succ n ih =>
    obtain ⟨t, hl, ht⟩ := ih fun i hi => h i (by omega)
    obtain ⟨r, hr⟩ := h n (by omega)
    refine ⟨t ++ [r], by simp [hl], fun i hi => ?_⟩
    by_cases hin : i < n
    · have := ht i hin
      simp only [List.getD] at this ⊢
      rwa [List.getElem?_append_left (by omega)]
    · obtain rfl : i = n := by omega
      simp only [List.getD]
      rw [List.getElem?_append_right (by omega), hl]
      simpa using hr

end Go.Proofs.YthfkfonfiejbmaaGreat

end

section

/-
  FOR THE FRAMES OF LAYER 8's PROOFS: entries, moves, and texts' arrays that came in, opened.
-/
namespace Go.Proofs.YthfkfonfiejbmaaGreat
open Go.ChangeShapes Go.WideShapes Go.ChangeAt Go.RowKit Go.Deep

/-- A move: what a user does to another one. -/
structure RMov where
  k : Int
  u : List UInt8
  o : List UInt8

def RMov.zero : RMov := ⟨0, [], []⟩

def rmovVals (m : RMov) : List Value := [.int .i64 m.k, .string ⟨m.u.toArray⟩, .string ⟨m.o.toArray⟩]

def rmovFit (m : RMov) : Prop := (Lit.int .i64 m.k).wf = true

section
variable {H : Type} {enc : TypeId × Value → H} {w : World} {base : Nat} {spare : Nat → Bool} {held : Bool}

theorem list5R {α : Type} {l : List α} (h : l.length = 5) : ∃ a b c d e, l = [a, b, c, d, e] := by
  match l, h with
  | [a, b, c, d, e], _ => exact ⟨a, b, c, d, e, rfl⟩

theorem list7R {α : Type} {l : List α} (h : l.length = 7) : ∃ a b c d e f g, l = [a, b, c, d, e, f, g] := by
  match l, h with
  | [a, b, c, d, e, f, g], _ => exact ⟨a, b, c, d, e, f, g, rfl⟩

theorem trod_boolR {fuel : Nat} {cs : List Value} {x : DataW H × List MemPlace} (h : DataW.trod enc Tryz.prog w base spare held fuel 4 cs = some x) : ∃ b, cs = [.bool b] := by
  obtain ⟨b, hb, _⟩ := DataW.trod_bool Tryz.underlying4 h
  exact ⟨b, hb⟩

theorem trod_textR {fuel : Nat} {cs : List Value} {x : DataW H × List MemPlace} (h : DataW.trod enc Tryz.prog w base spare held fuel 9 cs = some x) : ∃ l : List UInt8, cs = [.string ⟨l.toArray⟩] := by
  obtain ⟨s, e, _, _⟩ := DataW.trod_string Tryz.underlying9 h
  exact ⟨s.data.toList, by rw [e]⟩

set_option maxRecDepth 100000 in
theorem trod_itR {fuel : Nat} {cs : List Value} {x : DataW H × List MemPlace} (h : DataW.trod enc Tryz.prog w base spare held fuel 66 cs = some x) :
    ∃ v : It, cs = [.bool v.to, .bool v.fr, .bool v.out, .bool v.inn, .bool v.bl] := by
  obtain ⟨xs, n, _, _, hl, hx, hf⟩ := DataW.trod_struct Tryz.underlying66 h
  have c35 : Tryz.prog.cellsOf 66 = 5 := by kernel_rfl
  have c3 : Tryz.prog.cellsOf 4 = 1 := by kernel_rfl
  rw [c35] at hl
  obtain ⟨a, b, c, d, e, rfl⟩ := list5R hl
  have get : ∀ i, i < 5 → xs[i]? = some (xs.getD i (.nil, [])) := fun i hi => by
    have : i < xs.length := by rw [hx]; exact hi
    simp [List.getD, List.getElem?_eq_getElem this]
  have f0 : DataW.trod enc Tryz.prog w base spare held n 4 (([a, b, c, d, e].drop 0).take (Tryz.prog.cellsOf 4)) = some (xs.getD 0 (.nil, [])) := (hf 0 _ rfl).trans (get 0 (by omega))
  have f1 : DataW.trod enc Tryz.prog w base spare held n 4 (([a, b, c, d, e].drop 1).take (Tryz.prog.cellsOf 4)) = some (xs.getD 1 (.nil, [])) := (hf 1 _ rfl).trans (get 1 (by omega))
  have f2 : DataW.trod enc Tryz.prog w base spare held n 4 (([a, b, c, d, e].drop 2).take (Tryz.prog.cellsOf 4)) = some (xs.getD 2 (.nil, [])) := (hf 2 _ rfl).trans (get 2 (by omega))
  have f3 : DataW.trod enc Tryz.prog w base spare held n 4 (([a, b, c, d, e].drop 3).take (Tryz.prog.cellsOf 4)) = some (xs.getD 3 (.nil, [])) := (hf 3 _ rfl).trans (get 3 (by omega))
  have f4 : DataW.trod enc Tryz.prog w base spare held n 4 (([a, b, c, d, e].drop 4).take (Tryz.prog.cellsOf 4)) = some (xs.getD 4 (.nil, [])) := (hf 4 _ rfl).trans (get 4 (by omega))
  rw [c3] at f0 f1 f2 f3 f4
  obtain ⟨z0, e0⟩ := trod_boolR f0
  obtain ⟨z1, e1⟩ := trod_boolR f1
  obtain ⟨z2, e2⟩ := trod_boolR f2
  obtain ⟨z3, e3⟩ := trod_boolR f3
  obtain ⟨z4, e4⟩ := trod_boolR f4
  simp at e0 e1 e2 e3 e4
  subst e0 e1 e2 e3 e4
  exact ⟨⟨z0, z1, z2, z3, z4⟩, rfl⟩

set_option maxRecDepth 100000 in
theorem trod_entR (fuel : Nat) (cs : List Value) (x : DataW H × List MemPlace) (h : DataW.trod enc Tryz.prog w base spare held fuel 68 cs = some x) :
    ∃ s : Ent, cs = entVals s ∧ True := by
  obtain ⟨xs, n, _, _, hl, hx, hf⟩ := DataW.trod_struct Tryz.underlying68 h
  have c6 : Tryz.prog.cellsOf 68 = 7 := by kernel_rfl
  have c4 : Tryz.prog.cellsOf 66 = 5 := by kernel_rfl
  have c9 : Tryz.prog.cellsOf 9 = 1 := by kernel_rfl
  rw [c6] at hl
  obtain ⟨a, b, c, d, e, f, g, rfl⟩ := list7R hl
  have get : ∀ i, i < 3 → xs[i]? = some (xs.getD i (.nil, [])) := fun i hi => by
    have : i < xs.length := by rw [hx]; exact hi
    simp [List.getD, List.getElem?_eq_getElem this]
  have f0 : DataW.trod enc Tryz.prog w base spare held n 9 (([a, b, c, d, e, f, g].drop 0).take (Tryz.prog.cellsOf 9)) = some (xs.getD 0 (.nil, [])) := (hf 0 _ rfl).trans (get 0 (by omega))
  have f1 : DataW.trod enc Tryz.prog w base spare held n 9 (([a, b, c, d, e, f, g].drop 1).take (Tryz.prog.cellsOf 9)) = some (xs.getD 1 (.nil, [])) := (hf 1 _ rfl).trans (get 1 (by omega))
  have f2 : DataW.trod enc Tryz.prog w base spare held n 66 (([a, b, c, d, e, f, g].drop 2).take (Tryz.prog.cellsOf 66)) = some (xs.getD 2 (.nil, [])) := (hf 2 _ rfl).trans (get 2 (by omega))
  rw [c9] at f0 f1
  rw [c4] at f2
  obtain ⟨u, e0⟩ := trod_textR f0
  obtain ⟨z, e1⟩ := trod_textR f1
  obtain ⟨v, e2⟩ := trod_itR f2
  simp at e0 e1 e2
  obtain ⟨rfl, rfl, rfl, rfl, rfl⟩ := e2
  subst e0 e1
  exact ⟨⟨u, z, v⟩, rfl, trivial⟩

def RMovsAt (w : World) (v : Value) (l : List RMov) : Prop := RdS rmovVals 3 RMov.zero w v l ∧ ∀ m ∈ l, rmovFit m

end

end Go.Proofs.YthfkfonfiejbmaaGreat

end

section

/-
  EVENTS IN MEMORY; whether they are short.
-/
namespace Go.Proofs.YthfkfonfiejbmaaGreat
open Go.RowKit

def evVals (e : Ev) : List Value := [.int .i64 e.k, .string ⟨e.u.toArray⟩, .string ⟨e.o.toArray⟩, .int .i64 e.id, .int .i64 e.v.sh, .int .i64 e.v.pr, .int .i64 e.v.si, .string ⟨e.v.st.toArray⟩]

theorem evOK : RowOK Tryz.prog evVals 8 Ev.zero 29 48 (.agg #[.int .i64 0, .string ⟨#[]⟩, .string ⟨#[]⟩, .int .i64 0, .int .i64 0, .int .i64 0, .int .i64 0, .string ⟨#[]⟩]) 88 where
  len _ := rfl
  one a u hu := by
    simp only [evVals, List.mem_cons, List.not_mem_nil, or_false] at hu
    rcases hu with rfl | rfl | rfl | rfl | rfl | rfl | rfl | rfl <;> rfl
  pos := by decide
  small := by decide
  under := Tryz.underlying48
  info := by kernel_rfl
  zvals := rfl
  fits := by decide

/-- Events that may be read. -/
def Evs (w : World) (v : Value) (l : List Ev) : Prop := RdS evVals 8 Ev.zero w v l

theorem Evs.later {w w' : World} {v : Value} {l : List Ev} (h : Evs w v l) (hb : Below w.heap.size w w') : Evs w' v l := RdS.later h hb

theorem eightAt {X : World} {B off : Nat} {k id a b c : Int} {u o st : List UInt8} (h : CellsAt X B off (evVals ⟨k, u, o, id, ⟨a, b, c, st⟩⟩)) :
    X.cell? ⟨B, off, none⟩ = some (.int .i64 k) ∧ X.cell? ⟨B, off + 1, none⟩ = some (.string ⟨u.toArray⟩) ∧ X.cell? ⟨B, off + 2, none⟩ = some (.string ⟨o.toArray⟩) ∧ X.cell? ⟨B, off + 3, none⟩ = some (.int .i64 id) ∧ X.cell? ⟨B, off + 4, none⟩ = some (.int .i64 a) ∧ X.cell? ⟨B, off + 5, none⟩ = some (.int .i64 b) ∧ X.cell? ⟨B, off + 6, none⟩ = some (.int .i64 c) ∧ X.cell? ⟨B, off + 7, none⟩ = some (.string ⟨st.toArray⟩) :=
  ⟨h 0 _ rfl, h 1 _ rfl, h 2 _ rfl, h 3 _ rfl, h 4 _ rfl, h 5 _ rfl, h 6 _ rfl, h 7 _ rfl⟩

set_option maxHeartbeats 1600000 in
set_option maxRecDepth 100000 in
theorem short14_any (k : Int) (u o st : List UInt8) (id a b c : Int) {r : Bool} (hr : Hid (shortEv ⟨k, u, o, id, ⟨a, b, c, st⟩⟩ = r)) (w : World) :
    Calls Tryz.prog 6 #[.agg #[.int .i64 k, .string ⟨u.toArray⟩, .string ⟨o.toArray⟩, .int .i64 id, .int .i64 a, .int .i64 b, .int .i64 c, .string ⟨st.toArray⟩]] w fun e w' => e = .returned (.bool r) ∧ Below w.heap.size w w' := by
  have hr := hr.out
  unfold shortEv at hr
  simp only at hr
  have HB := Lib.hid (bl_newZ w (.cells #[.int .i64 k, .string ⟨u.toArray⟩, .string ⟨o.toArray⟩, .int .i64 id, .int .i64 a, .int .i64 b, .int .i64 c, .string ⟨st.toArray⟩] 29))
  by_cases h1 : u.length ≤ 40
  · have t1 : decide ((u.length : Int) ≤ 40) = true := by rw [decide_eq_true_eq]; omega
    rw [decide_eq_true h1, Bool.true_and] at hr
    by_cases h2 : o.length ≤ 40
    · have t2 : decide ((o.length : Int) ≤ 40) = true := by rw [decide_eq_true_eq]; omega
      rw [decide_eq_true h2, Bool.true_and] at hr
      have t3 : decide ((st.length : Int) ≤ 60) = r := by rw [← hr]; congr 1; rw [eq_iff_iff]; omega
      clear hr
      go_enter Tryz.func6, Tryz.ntmps6
      go_wp2_with fail
      go_ret
      exact ⟨rfl, HB.out⟩
    · have t2 : decide ((o.length : Int) ≤ 40) = false := by rw [decide_eq_false_iff_not]; omega
      rw [decide_eq_false h2, Bool.false_and] at hr
      subst hr
      go_enter Tryz.func6, Tryz.ntmps6
      go_wp2_with fail
      go_ret
      exact ⟨rfl, HB.out⟩
  · have t1 : decide ((u.length : Int) ≤ 40) = false := by rw [decide_eq_false_iff_not]; omega
    rw [decide_eq_false h1, Bool.false_and] at hr
    subst hr
    go_enter Tryz.func6, Tryz.ntmps6
    go_wp2_with fail
    go_ret
    exact ⟨rfl, HB.out⟩

/-- The numbers of an event are ints. -/
def evFit (e : Ev) : Prop := (Lit.int .i64 e.k).wf = true ∧ (Lit.int .i64 e.id).wf = true ∧ (Lit.int .i64 e.v.sh).wf = true ∧ (Lit.int .i64 e.v.pr).wf = true ∧ (Lit.int .i64 e.v.si).wf = true

end Go.Proofs.YthfkfonfiejbmaaGreat

end

section

/-
  FOR THE FRAMES OF PROOFS OVER EVENTS: an event that came in, opened; and a slice of them.
-/
namespace Go.Proofs.YthfkfonfiejbmaaGreat
open Go.ChangeShapes Go.WideShapes Go.ChangeAt Go.RowKit Go.Deep

section
variable {H : Type} {enc : TypeId × Value → H} {w : World} {base : Nat} {spare : Nat → Bool} {held : Bool}

theorem trod_intE {fuel : Nat} {cs : List Value} {x : DataW H × List MemPlace} (h : DataW.trod enc Tryz.prog w base spare held fuel 3 cs = some x) : ∃ z, cs = [.int .i64 z] ∧ (Lit.int .i64 z).wf = true := by
  obtain ⟨z, e, _, hw⟩ := DataW.trod_int Tryz.underlying3 h
  exact ⟨z, e, hw⟩

theorem trod_textE {fuel : Nat} {cs : List Value} {x : DataW H × List MemPlace} (h : DataW.trod enc Tryz.prog w base spare held fuel 9 cs = some x) : ∃ l : List UInt8, cs = [.string ⟨l.toArray⟩] := by
  obtain ⟨s, e, _, _⟩ := DataW.trod_string Tryz.underlying9 h
  exact ⟨s.data.toList, by rw [e]⟩

theorem list4_valE {α : Type} {l : List α} (h : l.length = 4) : ∃ c0 c1 c2 c3, l = [c0, c1, c2, c3] := by
  match l, h with
  | [c0, c1, c2, c3], _ => exact ⟨c0, c1, c2, c3, rfl⟩

set_option maxRecDepth 100000 in
theorem trod_valE (fuel : Nat) (cs : List Value) (x : DataW H × List MemPlace) (h : DataW.trod enc Tryz.prog w base spare held fuel 27 cs = some x) :
    ∃ (a0 : Int) (a1 : Int) (a2 : Int) (a3 : List UInt8), cs = [.int .i64 a0, .int .i64 a1, .int .i64 a2, .string ⟨a3.toArray⟩] ∧ (Lit.int .i64 a0).wf = true ∧ (Lit.int .i64 a1).wf = true ∧ (Lit.int .i64 a2).wf = true := by
  obtain ⟨xs, n, _, _, hl, hx, hf⟩ := DataW.trod_struct Tryz.underlying27 h
  have cc : Tryz.prog.cellsOf 27 = 4 := by kernel_rfl
  have ci : Tryz.prog.cellsOf 3 = 1 := by kernel_rfl
  have cx : Tryz.prog.cellsOf 9 = 1 := by kernel_rfl
  rw [cc] at hl
  obtain ⟨c0, c1, c2, c3, rfl⟩ := list4_valE hl
  have get : ∀ i, i < 4 → xs[i]? = some (xs.getD i (.nil, [])) := fun i hi => by
    have : i < xs.length := by rw [hx]; exact hi
    simp [List.getD, List.getElem?_eq_getElem this]
  have f0 : DataW.trod enc Tryz.prog w base spare held n 3 (([c0, c1, c2, c3].drop 0).take (Tryz.prog.cellsOf 3)) = some (xs.getD 0 (.nil, [])) := (hf 0 _ rfl).trans (get 0 (by omega))
  rw [ci] at f0
  obtain ⟨z0, e0, w0⟩ := trod_intE f0
  have f1 : DataW.trod enc Tryz.prog w base spare held n 3 (([c0, c1, c2, c3].drop 1).take (Tryz.prog.cellsOf 3)) = some (xs.getD 1 (.nil, [])) := (hf 1 _ rfl).trans (get 1 (by omega))
  rw [ci] at f1
  obtain ⟨z1, e1, w1⟩ := trod_intE f1
  have f2 : DataW.trod enc Tryz.prog w base spare held n 3 (([c0, c1, c2, c3].drop 2).take (Tryz.prog.cellsOf 3)) = some (xs.getD 2 (.nil, [])) := (hf 2 _ rfl).trans (get 2 (by omega))
  rw [ci] at f2
  obtain ⟨z2, e2, w2⟩ := trod_intE f2
  have f3 : DataW.trod enc Tryz.prog w base spare held n 9 (([c0, c1, c2, c3].drop 3).take (Tryz.prog.cellsOf 9)) = some (xs.getD 3 (.nil, [])) := (hf 3 _ rfl).trans (get 3 (by omega))
  rw [cx] at f3
  obtain ⟨z3, e3⟩ := trod_textE f3
  simp at e0 e1 e2 e3
  subst e0 e1 e2 e3
  exact ⟨z0, z1, z2, z3, rfl, w0, w1, w2⟩

theorem list8_evE {α : Type} {l : List α} (h : l.length = 8) : ∃ c0 c1 c2 c3 c4 c5 c6 c7, l = [c0, c1, c2, c3, c4, c5, c6, c7] := by
  match l, h with
  | [c0, c1, c2, c3, c4, c5, c6, c7], _ => exact ⟨c0, c1, c2, c3, c4, c5, c6, c7, rfl⟩

set_option maxRecDepth 100000 in
theorem trod_evE (fuel : Nat) (cs : List Value) (x : DataW H × List MemPlace) (h : DataW.trod enc Tryz.prog w base spare held fuel 29 cs = some x) :
    ∃ (a0 : Int) (a1 : List UInt8) (a2 : List UInt8) (a3 : Int) (a4 : Int) (a5 : Int) (a6 : Int) (a7 : List UInt8), cs = [.int .i64 a0, .string ⟨a1.toArray⟩, .string ⟨a2.toArray⟩, .int .i64 a3, .int .i64 a4, .int .i64 a5, .int .i64 a6, .string ⟨a7.toArray⟩] ∧ (Lit.int .i64 a0).wf = true ∧ (Lit.int .i64 a3).wf = true ∧ (Lit.int .i64 a4).wf = true ∧ (Lit.int .i64 a5).wf = true ∧ (Lit.int .i64 a6).wf = true := by
  obtain ⟨xs, n, _, _, hl, hx, hf⟩ := DataW.trod_struct Tryz.underlying29 h
  have cc : Tryz.prog.cellsOf 29 = 8 := by kernel_rfl
  have ci : Tryz.prog.cellsOf 3 = 1 := by kernel_rfl
  have cx : Tryz.prog.cellsOf 9 = 1 := by kernel_rfl
  have ct4 : Tryz.prog.cellsOf 27 = 4 := by kernel_rfl
  rw [cc] at hl
  obtain ⟨c0, c1, c2, c3, c4, c5, c6, c7, rfl⟩ := list8_evE hl
  have get : ∀ i, i < 5 → xs[i]? = some (xs.getD i (.nil, [])) := fun i hi => by
    have : i < xs.length := by rw [hx]; exact hi
    simp [List.getD, List.getElem?_eq_getElem this]
  have f0 : DataW.trod enc Tryz.prog w base spare held n 3 (([c0, c1, c2, c3, c4, c5, c6, c7].drop 0).take (Tryz.prog.cellsOf 3)) = some (xs.getD 0 (.nil, [])) := (hf 0 _ rfl).trans (get 0 (by omega))
  rw [ci] at f0
  obtain ⟨z0, e0, w0⟩ := trod_intE f0
  have f1 : DataW.trod enc Tryz.prog w base spare held n 9 (([c0, c1, c2, c3, c4, c5, c6, c7].drop 1).take (Tryz.prog.cellsOf 9)) = some (xs.getD 1 (.nil, [])) := (hf 1 _ rfl).trans (get 1 (by omega))
  rw [cx] at f1
  obtain ⟨z1, e1⟩ := trod_textE f1
  have f2 : DataW.trod enc Tryz.prog w base spare held n 9 (([c0, c1, c2, c3, c4, c5, c6, c7].drop 2).take (Tryz.prog.cellsOf 9)) = some (xs.getD 2 (.nil, [])) := (hf 2 _ rfl).trans (get 2 (by omega))
  rw [cx] at f2
  obtain ⟨z2, e2⟩ := trod_textE f2
  have f3 : DataW.trod enc Tryz.prog w base spare held n 3 (([c0, c1, c2, c3, c4, c5, c6, c7].drop 3).take (Tryz.prog.cellsOf 3)) = some (xs.getD 3 (.nil, [])) := (hf 3 _ rfl).trans (get 3 (by omega))
  rw [ci] at f3
  obtain ⟨z3, e3, w3⟩ := trod_intE f3
  have f4 : DataW.trod enc Tryz.prog w base spare held n 27 (([c0, c1, c2, c3, c4, c5, c6, c7].drop 4).take (Tryz.prog.cellsOf 27)) = some (xs.getD 4 (.nil, [])) := (hf 4 _ rfl).trans (get 4 (by omega))
  rw [ct4] at f4
  obtain ⟨z4_0, z4_1, z4_2, z4_3, e4, w4_0, w4_1, w4_2⟩ := trod_valE _ _ _ f4
  simp at e0 e1 e2 e3 e4
  obtain ⟨rfl, rfl, rfl, rfl⟩ := e4
  subst e0 e1 e2 e3
  exact ⟨z0, z1, z2, z3, z4_0, z4_1, z4_2, z4_3, rfl, w0, w3, w4_0, w4_1, w4_2⟩

theorem trod_ev (fuel : Nat) (cs : List Value) (x : DataW H × List MemPlace) (h : DataW.trod enc Tryz.prog w base spare held fuel 29 cs = some x) :
    ∃ e : Ev, cs = evVals e ∧ evFit e := by
  obtain ⟨a0, a1, a2, a3, a4, a5, a6, a7, rfl, w0, w1, w2, w3, w4⟩ := trod_evE fuel cs x h
  exact ⟨⟨a0, a1, a2, a3, ⟨a4, a5, a6, a7⟩⟩, rfl, w0, w1, w2, w3, w4⟩

set_option maxRecDepth 100000 in
/-- An event that came in. -/
theorem open_ev {r : Reach} {b0 : Nat} {v : Value} {d : DataW H} {p : List MemPlace} (hv : Value.okWide Tryz.prog w r b0 29 v) (h : DataW.Trod enc Tryz.prog w base spare held 29 v d p) :
    ∃ e : Ev, v = .agg #[.int .i64 e.k, .string ⟨e.u.toArray⟩, .string ⟨e.o.toArray⟩, .int .i64 e.id, .int .i64 e.v.sh, .int .i64 e.v.pr, .int .i64 e.v.si, .string ⟨e.v.st.toArray⟩] ∧ evFit e := by
  obtain ⟨cs, rfl, _⟩ := okWide_struct Tryz.underlying29 hv
  obtain ⟨fuel, hf⟩ := h
  obtain ⟨e, hc, w1⟩ := trod_ev _ _ _ hf
  refine ⟨e, ?_, w1⟩
  obtain ⟨l⟩ := cs
  simp [Value.cells, evVals] at hc
  rw [hc]

end

end Go.Proofs.YthfkfonfiejbmaaGreat

end

section

/-
  FLOATS OF 64 BITS: whole numbers among them; what '+', '-' and '*' make of them; how they stand to 0.
-/
namespace Go.Proofs.YthfkfonfiejbmaaGreat
open Ieee

theorem cut_zero (neg : Bool) (n : Nat) : Toward.even.cut neg n 0 = n := by
  simp [Toward.cut, Nat.mod_one]

theorem cut_exact (neg : Bool) (n drop : Nat) (h : drop ≤ n.log2 + 2) (hd : 2 ^ drop ∣ n) : Toward.even.cut neg n drop = n / 2 ^ drop := by
  have h0 : 0 < 2 ^ drop := Nat.two_pow_pos _
  unfold Toward.cut
  rw [Nat.min_eq_left h, Nat.one_shiftLeft]
  simp only [Nat.mod_eq_zero_of_dvd hd, Nat.mul_zero]
  have h1 : ¬ 2 ^ drop < 0 := by omega
  have h2 : (2 ^ drop == 0) = false := by simp
  simp [h2]

theorem cut_pos (neg : Bool) (n drop : Nat) (h : 2 ^ drop ≤ n) : 1 ≤ Toward.even.cut neg n drop := by
  have h0 : 0 < 2 ^ drop := Nat.two_pow_pos _
  have hl : drop ≤ n.log2 + 2 := by
    have h1 : n ≠ 0 := by omega
    have h2 := (Nat.le_log2 h1).2 h
    omega
  unfold Toward.cut
  rw [Nat.min_eq_left hl, Nat.one_shiftLeft]
  have h3 : 1 ≤ n / 2 ^ drop := (Nat.le_div_iff_mul_le h0).2 (by omega)
  simp only
  exact Nat.le_trans h3 (Nat.le_add_right _ _)

theorem read_word (neg : Bool) (r : Nat) (h : r ≤ 9218868437227405312) : double.read (double.word neg r) =
    if r < 4503599627370496 then .number neg r (-1074) else if r < 9218868437227405312 then .number neg (4503599627370496 + r % 4503599627370496) (-1074 + (r / 4503599627370496 - 1 : Nat)) else .infinity neg := by
  have e1 : double.signWeight = 9223372036854775808 := by rfl
  have e2 : double.binade = 4503599627370496 := by rfl
  have e3 : double.infRung = 9218868437227405312 := by rfl
  have e4 : double.leastPlace = -1074 := by rfl
  unfold Format.read Format.word
  rw [e1, e2, e3, e4]
  have q1 : ((if neg = true then 9223372036854775808 + r else r) / 9223372036854775808 % 2 == 1) = neg := by
    cases neg
    · have : r / 9223372036854775808 = 0 := by omega
      simp [this]
    · have : (9223372036854775808 + r) / 9223372036854775808 = 1 := by omega
      simp [this]
  have q2 : (if neg = true then 9223372036854775808 + r else r) % 9223372036854775808 = r := by
    cases neg <;> simp <;> omega
  simp only [q1, q2]
  by_cases h1 : r < 4503599627370496
  · rw [if_pos h1, if_pos h1]
  · rw [if_neg h1, if_neg h1]
    by_cases h2 : r < 9218868437227405312
    · rw [if_pos h2, if_pos h2]
    · rw [if_neg h2, if_neg h2, if_pos (by omega)]

def sgn (neg : Bool) (n : Nat) : Int := if neg then -(n : Int) else (n : Int)

theorem signed_sgn (neg : Bool) (m up : Nat) : signed neg m up = sgn neg (m * 2 ^ up) := by
  unfold signed sgn
  rw [Nat.shiftLeft_eq]

/-- The word b stands for v, in units of 2 to the -1074th. -/
def Has (b : Nat) (v : Int) : Prop := ∃ (s : Bool) (m P : Nat), double.read b = .number s m ((P : Int) - 1074) ∧ m < 9007199254740992 ∧ P ≤ 2046 ∧ v = sgn s (m * 2 ^ P)

theorem nearest_rung (neg : Bool) (m P : Nat) (hm : m ≠ 0) :
    ∃ kept, double.nearest neg m ((P : Int) - 1074) = double.word neg (min ((P + m.log2 - 52) * 4503599627370496 + kept) 9218868437227405312) ∧ 1 ≤ kept ∧ (2 ^ (P + m.log2 - 52) ∣ m * 2 ^ P → kept * 2 ^ (P + m.log2 - 52) = m * 2 ^ P) := by
  have e2 : double.binade = 4503599627370496 := by rfl
  have e3 : double.infRung = 9218868437227405312 := by rfl
  have e4 : double.leastPlace = -1074 := by rfl
  have e5 : (double.fractionBits : Int) = 52 := by rfl
  have hE : max ((P : Int) - 1074 + (m.log2 : Int) - 52) (-1074) = ((P + m.log2 - 52 : Nat) : Int) - 1074 := by omega
  obtain ⟨d, hd⟩ : ∃ d, d = m.log2 := ⟨_, rfl⟩
  obtain ⟨E, hEe⟩ : ∃ E, E = P + d - 52 := ⟨_, rfl⟩
  have h2d : 2 ^ d ≤ m := by rw [hd]; exact Nat.log2_self_le hm
  unfold Format.nearest
  rw [if_neg hm]
  simp only
  rw [e4, e5, e2, e3, hE, ← hd, ← hEe]
  have p1 : ((P : Int) - 1074 - ((E : Int) - 1074)).toNat = P - E := by omega
  have p2 : ((E : Int) - 1074 - ((P : Int) - 1074)).toNat = E - P := by omega
  have p3 : ((E : Int) - 1074 - (-1074)).toNat = E := by omega
  rw [p1, p2, p3]
  refine ⟨_, rfl, ?_, ?_⟩
  · by_cases h : E ≤ P
    · rw [show E - P = 0 by omega, cut_zero, Nat.shiftLeft_eq]
      exact Nat.mul_pos (by omega) (Nat.two_pow_pos _)
    · refine cut_pos _ _ _ ?_
      rw [show P - E = 0 by omega, Nat.shiftLeft_zero]
      exact Nat.le_trans (Nat.pow_le_pow_right (by decide) (by omega)) h2d
  · intro hv
    by_cases h : E ≤ P
    · rw [show E - P = 0 by omega, cut_zero, Nat.shiftLeft_eq, Nat.mul_assoc, ← Nat.pow_add, show P - E + E = P by omega]
    · rw [show P - E = 0 by omega, Nat.shiftLeft_zero]
      have hs : 2 ^ E = 2 ^ (E - P) * 2 ^ P := by rw [← Nat.pow_add, show E - P + P = E by omega]
      have hdv : 2 ^ (E - P) ∣ m := by
        rw [hs] at hv
        exact Nat.dvd_of_mul_dvd_mul_right (Nat.two_pow_pos P) hv
      rw [cut_exact _ _ _ (by rw [← hd]; omega) hdv, hs, ← Nat.mul_assoc, Nat.div_mul_cancel hdv]

theorem nearest_has (neg : Bool) (m P n q : Nat) (hn : n < 9007199254740992) (hq : q ≤ 1800) (h : m * 2 ^ P = n * 2 ^ q) : Has (double.nearest neg m ((P : Int) - 1074)) (sgn neg (m * 2 ^ P)) := by
  by_cases hm : m = 0
  · subst hm
    refine ⟨neg, 0, 0, ?_, by decide, by decide, by simp⟩
    have : double.nearest neg 0 ((P : Int) - 1074) = double.word neg 0 := by unfold Format.nearest; rw [if_pos rfl]
    rw [this, read_word _ _ (by decide)]
    rfl
  · obtain ⟨kept, e, h1, h2⟩ := nearest_rung neg m P hm
    obtain ⟨d, hd⟩ : ∃ d, d = m.log2 := ⟨_, rfl⟩
    obtain ⟨E, hEe⟩ : ∃ E, E = P + d - 52 := ⟨_, rfl⟩
    rw [← hd, ← hEe] at e h2
    have g1 : 2 ^ d ≤ m := by rw [hd]; exact Nat.log2_self_le hm
    have g2 : m < 2 ^ (d + 1) := by rw [hd]; exact Nat.lt_log2_self
    have g3 : 2 ^ (d + P) ≤ m * 2 ^ P := by rw [Nat.pow_add]; exact Nat.mul_le_mul_right _ g1
    have g4 : m * 2 ^ P < 2 ^ (d + 1 + P) := by rw [Nat.pow_add]; exact Nat.mul_lt_mul_of_pos_right g2 (Nat.two_pow_pos _)
    have g5 : m * 2 ^ P < 2 ^ (53 + q) := by rw [h, Nat.pow_add]; exact Nat.mul_lt_mul_of_pos_right (by simpa using hn) (Nat.two_pow_pos _)
    have g6 : d + P < 53 + q := (Nat.pow_lt_pow_iff_right (by decide)).1 (Nat.lt_of_le_of_lt g3 g5)
    have g7 : 2 ^ E ∣ m * 2 ^ P := by
      rw [h, show q = (q - E) + E by omega, Nat.pow_add, ← Nat.mul_assoc]
      exact Nat.dvd_mul_left _ _
    have hk := h2 g7
    have k1 : kept < 9007199254740992 := by
      have : kept * 2 ^ E < 2 ^ 53 * 2 ^ E := by
        rw [hk, ← Nat.pow_add]
        exact Nat.lt_of_lt_of_le g4 (Nat.pow_le_pow_right (by decide) (by omega))
      simpa using Nat.lt_of_mul_lt_mul_right this
    have k2 : 0 < E → 4503599627370496 ≤ kept := by
      intro hE
      have : 2 ^ 52 * 2 ^ E ≤ kept * 2 ^ E := by
        rw [hk, ← Nat.pow_add]
        exact Nat.le_trans (Nat.pow_le_pow_right (by decide) (by omega)) g3
      simpa using Nat.le_of_mul_le_mul_right this (Nat.two_pow_pos E)
    have k3 : E * 4503599627370496 + kept < 9218868437227405312 := by omega
    rw [Nat.min_eq_left (Nat.le_of_lt k3)] at e
    refine ⟨neg, kept, E, ?_, k1, by omega, by rw [hk]⟩
    rw [e, read_word _ _ (Nat.le_of_lt k3)]
    by_cases c : E * 4503599627370496 + kept < 4503599627370496
    · have hE0 : E = 0 := by omega
      rw [if_pos c]
      subst hE0
      simp
    · rw [if_neg c, if_pos k3]
      have c1 : (E * 4503599627370496 + kept) / 4503599627370496 - 1 = E := by
        by_cases hE : 0 < E
        · have := k2 hE; omega
        · omega
      have c2 : 4503599627370496 + (E * 4503599627370496 + kept) % 4503599627370496 = kept := by
        by_cases hE : 0 < E
        · have := k2 hE; omega
        · omega
      rw [c1, c2]
      congr 1

/-- How a word stands to 0, and to itself. -/
def Stands (b : Nat) (v : Int) : Prop := double.order b 0 = some (compare v 0) ∧ double.order b b = some .eq

theorem compare_sgn (neg : Bool) (n : Nat) (h : 0 < n) : compare (sgn neg n) 0 = if neg then .lt else .gt := by
  unfold sgn
  cases neg
  · simp only [Bool.false_eq_true, if_false]
    rw [Int.compare_eq_gt]
    omega
  · simp only [if_true]
    rw [Int.compare_eq_lt]
    omega

theorem read_zero : double.read 0 = .number false 0 (-1074) := by rfl

theorem stands_number {b : Nat} {s : Bool} {m P : Nat} (h : double.read b = .number s m ((P : Int) - 1074)) : Stands b (sgn s (m * 2 ^ P)) := by
  unfold Stands Format.order
  rw [h, read_zero]
  unfold Datum.order
  simp only
  rw [signed_sgn, signed_sgn, signed_sgn]
  have e1 : ((P : Int) - 1074 - min ((P : Int) - 1074) (-1074)).toNat = P := by omega
  refine ⟨?_, ?_⟩
  · rw [e1]
    congr 2
    unfold sgn
    simp
  · congr 1
    exact Int.compare_eq_eq.2 rfl

theorem nearest_stands (neg : Bool) (m P : Nat) : Stands (double.nearest neg m ((P : Int) - 1074)) (sgn neg (m * 2 ^ P)) := by
  by_cases hm : m = 0
  · subst hm
    have : double.nearest neg 0 ((P : Int) - 1074) = double.word neg 0 := by unfold Format.nearest; rw [if_pos rfl]
    rw [this]
    have hr := read_word neg 0 (by decide)
    rw [if_pos (by decide)] at hr
    have := stands_number (P := 0) hr
    simpa using this
  · obtain ⟨kept, e, h1, -⟩ := nearest_rung neg m P hm
    rw [e]
    have hpos : 0 < m * 2 ^ P := Nat.mul_pos (by omega) (Nat.two_pow_pos _)
    generalize hr : min ((P + m.log2 - 52) * 4503599627370496 + kept) 9218868437227405312 = r
    have r1 : 0 < r := by omega
    have r2 : r ≤ 9218868437227405312 := by omega
    have hw := read_word neg r r2
    have hs : ∀ {n : Nat}, 0 < n → compare (sgn neg n) 0 = compare (sgn neg (m * 2 ^ P)) 0 := by
      intro n hn
      rw [compare_sgn _ _ hn, compare_sgn _ _ hpos]
    by_cases c : r < 4503599627370496
    · rw [if_pos c] at hw
      have := stands_number (P := 0) hw
      unfold Stands at this ⊢
      rw [← hs (n := r * 2 ^ 0) (by simpa using r1)]
      exact this
    · rw [if_neg c] at hw
      by_cases c2 : r < 9218868437227405312
      · rw [if_pos c2, show (-1074 + ((r / 4503599627370496 - 1 : Nat) : Int)) = ((r / 4503599627370496 - 1 : Nat) : Int) - 1074 by omega] at hw
        have := stands_number hw
        unfold Stands at this ⊢
        rw [← hs (n := (4503599627370496 + r % 4503599627370496) * 2 ^ (r / 4503599627370496 - 1)) (Nat.mul_pos (by omega) (Nat.two_pow_pos _))]
        exact this
      · rw [if_neg c2] at hw
        unfold Stands Format.order
        rw [hw, read_zero, compare_sgn _ _ hpos]
        unfold Datum.order
        simp only
        refine ⟨by cases neg <;> first | rfl | trivial, by cases neg <;> first | rfl | trivial⟩

theorem sgn_natAbs (s : Bool) (t : Int) : sgn (if t = 0 then s else decide (t < 0)) t.natAbs = t := by
  unfold sgn
  by_cases h : t = 0
  · subst h
    simp
  · rw [if_neg h]
    by_cases h2 : t < 0
    · simp only [h2, decide_true, if_true]; omega
    · simp only [h2, decide_false, Bool.false_eq_true, if_false]; omega

theorem sgn_mul (s : Bool) (n k : Nat) : sgn s (n * k) = sgn s n * k := by
  unfold sgn
  cases s
  · simp
  · simp [Int.neg_mul]

/-- A sum, ahead of the rounding. -/
theorem sum_raw {x y : Nat} {a b : Int} (hx : Has x a) (hy : Has y b) : ∃ s m P, double.add x y = some (double.nearest s m ((P : Nat) - 1074 : Int)) ∧ sgn s (m * 2 ^ P) = a + b := by
  obtain ⟨s, m, P, e1, -, -, rfl⟩ := hx
  obtain ⟨t, n, R, e2, -, -, rfl⟩ := hy
  unfold Format.add
  rw [e1, e2]
  simp only [Datum.sum, Option.map_some, Format.write]
  have e3 : min ((P : Int) - 1074) ((R : Int) - 1074) = ((min P R : Nat) : Int) - 1074 := by omega
  rw [e3, signed_sgn, signed_sgn]
  have e4 : ((P : Int) - 1074 - (((min P R : Nat) : Int) - 1074)).toNat = P - min P R := by omega
  have e5 : ((R : Int) - 1074 - (((min P R : Nat) : Int) - 1074)).toNat = R - min P R := by omega
  rw [e4, e5]
  refine ⟨_, _, _, rfl, ?_⟩
  rw [sgn_mul, sgn_natAbs, Int.add_mul, ← sgn_mul, ← sgn_mul, Nat.mul_assoc, Nat.mul_assoc, ← Nat.pow_add, ← Nat.pow_add, show P - min P R + min P R = P by omega, show R - min P R + min P R = R by omega]

theorem has_opposite {y : Nat} {b : Int} (h : Has y b) : ∃ (s : Bool) (m P : Nat), (double.read y).opposite = .number s m ((P : Int) - 1074) ∧ m < 9007199254740992 ∧ P ≤ 2046 ∧ -b = sgn s (m * 2 ^ P) := by
  obtain ⟨s, m, P, e, h1, h2, rfl⟩ := h
  refine ⟨!s, m, P, by rw [e]; rfl, h1, h2, ?_⟩
  unfold sgn
  cases s <;> simp

theorem sub_raw {x y : Nat} {a b : Int} (hx : Has x a) (hy : Has y b) : ∃ s m P, double.sub x y = some (double.nearest s m ((P : Nat) - 1074 : Int)) ∧ sgn s (m * 2 ^ P) = a - b := by
  obtain ⟨s, m, P, e1, -, -, rfl⟩ := hx
  obtain ⟨t, n, R, e2, -, -, hb⟩ := has_opposite hy
  unfold Format.sub
  rw [e1, e2]
  simp only [Datum.sum, Option.map_some, Format.write]
  have e3 : min ((P : Int) - 1074) ((R : Int) - 1074) = ((min P R : Nat) : Int) - 1074 := by omega
  rw [e3, signed_sgn, signed_sgn]
  have e4 : ((P : Int) - 1074 - (((min P R : Nat) : Int) - 1074)).toNat = P - min P R := by omega
  have e5 : ((R : Int) - 1074 - (((min P R : Nat) : Int) - 1074)).toNat = R - min P R := by omega
  rw [e4, e5]
  refine ⟨_, _, _, rfl, ?_⟩
  rw [sgn_mul, sgn_natAbs, Int.add_mul, ← sgn_mul, ← sgn_mul, Nat.mul_assoc, Nat.mul_assoc, ← Nat.pow_add, ← Nat.pow_add, show P - min P R + min P R = P by omega, show R - min P R + min P R = R by omega, ← hb]
  rfl

theorem natAbs_two (k : Nat) : ((2 : Int) ^ k).natAbs = 2 ^ k := by
  rw [Int.natAbs_pow]
  rfl

theorem cast_two (k : Nat) : ((2 ^ k : Nat) : Int) = (2 : Int) ^ k := Int.natCast_pow 2 k

theorem sgn_nil (s : Bool) : sgn s 0 = 0 := by cases s <;> rfl

theorem natAbs_sgn (s : Bool) (n : Nat) : (sgn s n).natAbs = n := by
  unfold sgn
  cases s <;> simp

/-- Whole numbers that a float holds as they are: fewer than 2 to the 53rd, times a power of 2. -/
def Whole (i : Int) : Prop := ∃ n k : Nat, n < 9007199254740992 ∧ k ≤ 700 ∧ i.natAbs = n * 2 ^ k

/-- The word b stands for the whole number i. -/
def IsF (b : Nat) (i : Int) : Prop := Has b (i * 2 ^ 1074)

theorem has_round {s : Bool} {m P : Nat} {i : Int} (h : sgn s (m * 2 ^ P) = i * 2 ^ 1074) (hw : Whole i) : IsF (double.nearest s m ((P : Nat) - 1074 : Int)) i := by
  obtain ⟨n, k, h1, h2, h3⟩ := hw
  have := nearest_has s m P n (k + 1074) h1 (by omega) (by
    have e := congrArg Int.natAbs h
    rw [natAbs_sgn, Int.natAbs_mul, h3] at e
    rw [e, natAbs_two, Nat.pow_add, ← Nat.mul_assoc])
  rw [h] at this
  exact this

theorem add_whole {x y : Nat} {a b : Int} (hx : IsF x a) (hy : IsF y b) (hw : Whole (a + b)) : ∃ r, double.add x y = some r ∧ IsF r (a + b) := by
  obtain ⟨s, m, P, e, h⟩ := sum_raw hx hy
  exact ⟨_, e, has_round (by rw [h, Int.add_mul]) hw⟩

theorem sub_whole {x y : Nat} {a b : Int} (hx : IsF x a) (hy : IsF y b) (hw : Whole (a - b)) : ∃ r, double.sub x y = some r ∧ IsF r (a - b) := by
  obtain ⟨s, m, P, e, h⟩ := sub_raw hx hy
  exact ⟨_, e, has_round (by rw [h, Int.sub_mul]) hw⟩

theorem compare_scale (i : Int) : compare (i * 2 ^ 1074) 0 = compare i 0 := by
  have hp : (0 : Int) < 2 ^ 1074 := Int.pow_pos (by decide)
  rcases Int.lt_trichotomy i 0 with h | h | h
  · rw [Int.compare_eq_lt.2 h, Int.compare_eq_lt.2 (Int.mul_neg_of_neg_of_pos h hp)]
  · subst h; rw [Int.zero_mul]
  · rw [Int.compare_eq_gt.2 h, Int.compare_eq_gt.2 (Int.mul_pos h hp)]

/-- A sum, rounded, stands to 0 as it does ahead of the rounding. -/
theorem add_stands {x y : Nat} {a b : Int} (hx : IsF x a) (hy : IsF y b) : ∃ r, double.add x y = some r ∧ Stands r (a + b) := by
  obtain ⟨s, m, P, e, h⟩ := sum_raw hx hy
  refine ⟨_, e, ?_⟩
  have := nearest_stands s m P
  rw [h, ← Int.add_mul] at this
  unfold Stands at this ⊢
  rwa [compare_scale] at this

theorem int_whole {i : Int} (h1 : -9007199254740992 < i) (h2 : i < 9007199254740992) : Whole i := ⟨i.natAbs, 0, by omega, by decide, by simp⟩

theorem ofInt_is {i : Int} (h1 : -9007199254740992 < i) (h2 : i < 9007199254740992) : IsF (floatOfInt .f64 i) i := by
  show IsF (double.nearest (decide (i < 0)) i.natAbs 0) i
  have := has_round (s := decide (i < 0)) (m := i.natAbs) (P := 1074) (i := i) (by
    refine (sgn_mul _ _ _).trans ?_
    refine (congrArg (sgn (decide (i < 0)) i.natAbs * ·) (cast_two 1074)).trans ?_
    refine congrArg (· * (2 : Int) ^ 1074) ?_
    unfold sgn
    by_cases h : i < 0
    · simp only [h, decide_true, if_true]; omega
    · simp only [h, decide_false, Bool.false_eq_true, if_false]; omega) (int_whole h1 h2)
  exact this

/-- 'x * 4294967296', as its word. -/
theorem mul_up {x : Nat} {a : Int} (hx : IsF x a) (h1 : -9007199254740992 < a) (h2 : a < 9007199254740992) : ∃ r, double.mul x 4751297606875873280 = some r ∧ IsF r (a * 4294967296) := by
  obtain ⟨s, m, P, e1, h3, h4, h5⟩ := hx
  have e2 : double.read 4751297606875873280 = .number false 4503599627370496 (-20) := by rfl
  have hw : Whole (a * 4294967296) := ⟨a.natAbs, 32, by omega, by decide, by rw [Int.natAbs_mul]; rfl⟩
  unfold Format.mul
  rw [e1, e2]
  simp only [Datum.product, Option.map_some, Format.write, Bool.xor_false]
  refine ⟨_, rfl, ?_⟩
  by_cases hm : m = 0
  · subst hm
    have ha : a = 0 := by
      have hp : (0 : Int) < 2 ^ 1074 := Int.pow_pos (by decide)
      unfold sgn at h5
      simp only [Nat.zero_mul, Int.ofNat_zero, Int.neg_zero, ite_self] at h5
      rcases Int.mul_eq_zero.1 h5 with h | h
      · exact h
      · omega
    subst ha
    rw [Nat.zero_mul]
    have := nearest_has s 0 0 0 0 (by decide) (by decide) rfl
    have e : double.nearest s 0 ((P : Int) - 1074 + -20) = double.nearest s 0 (((0 : Nat) : Int) - 1074) := by
      unfold Format.nearest
      rw [if_pos rfl, if_pos rfl]
    rw [e]
    unfold IsF
    have e0 : sgn s (0 * 2 ^ 0) = 0 * 4294967296 * 2 ^ 1074 := by rw [Int.zero_mul, Int.zero_mul, Nat.zero_mul, sgn_nil]
    rwa [e0] at this
  · have hP : 20 ≤ P := by
      have hab := congrArg Int.natAbs h5
      rw [natAbs_sgn, Int.natAbs_mul, natAbs_two] at hab
      have ha : a.natAbs ≠ 0 := by
        intro h0
        have hz : ∀ V : Nat, a.natAbs * V = m * 2 ^ P → False := by
          intro V e
          rw [h0, Nat.zero_mul] at e
          have h9 := Nat.mul_pos (Nat.pos_of_ne_zero hm) (Nat.two_pow_pos P)
          omega
        exact hz _ hab
      have q1 : 2 ^ 1074 ≤ m * 2 ^ P := by
        rw [← hab]
        have hp : ∀ V : Nat, V ≤ a.natAbs * V := fun V => Nat.le_mul_of_pos_left V (Nat.pos_of_ne_zero ha)
        exact hp _
      have q2 : m * 2 ^ P < 2 ^ 53 * 2 ^ P := Nat.mul_lt_mul_of_pos_right (by simpa using h3) (Nat.two_pow_pos _)
      rw [← Nat.pow_add] at q2
      have := (Nat.pow_lt_pow_iff_right (by decide)).1 (Nat.lt_of_le_of_lt q1 q2)
      omega
    rw [show (P : Int) - 1074 + -20 = ((P - 20 : Nat) : Int) - 1074 by omega]
    refine has_round ?_ hw
    rw [Nat.mul_assoc, show 4503599627370496 = 2 ^ 52 from rfl, ← Nat.pow_add, show 52 + (P - 20) = P + 32 by omega, Nat.pow_add, ← Nat.mul_assoc, sgn_mul, ← h5, Int.mul_assoc, Int.mul_assoc, Int.mul_comm (2 ^ 1074)]
    rfl

/-- 'x * 0', as its word. -/
theorem mul_nil {x : Nat} {a : Int} (hx : IsF x a) : ∃ r, double.mul x 0 = some r ∧ IsF r 0 := by
  obtain ⟨s, m, P, e1, -, -, -⟩ := hx
  unfold Format.mul
  rw [e1, read_zero]
  simp only [Datum.product, Option.map_some, Format.write, Nat.mul_zero, Bool.xor_false]
  refine ⟨_, rfl, ?_⟩
  have := nearest_has s 0 0 0 0 (by decide) (by decide) rfl
  have e : double.nearest s 0 ((P : Int) - 1074 + -1074) = double.nearest s 0 (((0 : Nat) : Int) - 1074) := by
    unfold Format.nearest
    rw [if_pos rfl, if_pos rfl]
  rw [e]
  unfold IsF
  have e0 : sgn s (0 * 2 ^ 0) = 0 * 2 ^ 1074 := by rw [Int.zero_mul, Nat.zero_mul, sgn_nil]
  rwa [e0] at this

end Go.Proofs.YthfkfonfiejbmaaGreat

end

section

/-
  LAYER 10, PLAIN: slots, which is better; heaps as lists; a slot that rises, one that sinks.
-/
namespace Go.Proofs.YthfkfonfiejbmaaGreat

structure Sl where
  id : Int
  r0 : Int
  r1 : Int
  r2 : Int
deriving DecidableEq

def Sl.zero : Sl := ⟨0, 0, 0, 0⟩

/-- Which of two ranks above the other one. -/
def slBet (a b : Sl) : Bool :=
  if a.r0 = b.r0 then (if a.r1 = b.r1 then (if a.r2 = b.r2 then decide (a.id < b.id) else decide (b.r2 < a.r2)) else decide (b.r1 < a.r1)) else decide (b.r0 < a.r0)

/-- The slot at a place. -/
def at0 (l : List Sl) (i : Nat) : Sl := l.getD i Sl.zero

def par (i : Nat) : Nat := (i - 1) / 2

/-- None is better than its parent. -/
def HeapOK (l : List Sl) : Prop := ∀ i, 0 < i → i < l.length → slBet (at0 l i) (at0 l (par i)) = false

/-- All stand well but for the one at 'at', and its children. -/
def Off (l : List Sl) (a : Nat) : Prop :=
  (∀ i, 0 < i → i < l.length → i ≠ a → par i ≠ a → slBet (at0 l i) (at0 l (par i)) = false) ∧
  ∀ c, 0 < c → c < l.length → par c = a → 0 < a → slBet (at0 l c) (at0 l (par a)) = false

/-- All stand well but for the children of the one at 'at'. -/
def Sunk (l : List Sl) (a : Nat) : Prop := Off l a ∧ (0 < a → slBet (at0 l a) (at0 l (par a)) = false)

/-- Two changed about. -/
def swp (l : List Sl) (i j : Nat) : List Sl := (l.set i (at0 l j)).set j (at0 l i)

/-- Ids stand once each. -/
def Once (l : List Sl) : Prop := (l.map Sl.id).Nodup

/-- Where an id stands. -/
def spot (l : List Sl) (id : Int) : Option Nat := l.findIdx? fun s => decide (s.id = id)

end Go.Proofs.YthfkfonfiejbmaaGreat

end

section

/-
  LAYER 11, PLAIN: the best one of sessions, and their presence.
-/
namespace Go.Proofs.YthfkfonfiejbmaaGreat

def besSlot (s : Ses) : Sl := ⟨s.id, s.v.pr, s.v.si, 0⟩
def besShown (s : Ses) : Sl := ⟨s.id, s.v.sh, s.v.pr, s.v.si⟩

abbrev sat (l : List Ses) (i : Nat) : Ses := l.getD i Ses.zero

theorem sgetDB {l : List Ses} {i : Nat} (h : i < l.length) : l.getD i Ses.zero = l[i] := by
  rw [List.getD_eq_getElem?_getD, List.getElem?_eq_getElem h]
  rfl

/-- Is a's slot better than b's? -/
def sbet (a b : Ses) : Bool := slBet (besSlot a) (besSlot b)

/-- The best one of those at 0 to k. -/
def bst (l : List Ses) : Nat → Ses
  | 0 => sat l 0
  | k + 1 => if sbet (sat l (k + 1)) (bst l k) = true then sat l (k + 1) else bst l k

def besOf (l : List Ses) : Ses := bst l (l.length - 1)

/-- The greatest Show of those below k, and v. -/
def shTo (l : List Ses) (v : Int) : Nat → Int
  | 0 => v
  | k + 1 => max (shTo l v k) (sat l k).v.sh

def besV (l : List Ses) : Val := ⟨shTo l (besOf l).v.sh l.length, (besOf l).v.pr, (besOf l).v.si, (besOf l).v.st⟩

def worth (a b : Val) : Int := if a.sh < b.sh then -1 else if b.sh < a.sh then 1 else if a.pr < b.pr then -1 else if b.pr < a.pr then 1 else 0

/-! ### Numbers in halves -/

def sgI (i : Int) : Int := if i < 0 then -1 else if 0 < i then 1 else 0

def orB (x y : Int) : Int := if x = 0 then y else x

/-- How the first number that differs stands. -/
def lead2 (m n m' n' : Int) : Int := orB (sgI (m - m')) (sgI (n - n'))

end Go.Proofs.YthfkfonfiejbmaaGreat

end

section

/-
  LAYER 11: pairs of numbers as complex ones; which of two is above.
-/
namespace Go.Proofs.YthfkfonfiejbmaaGreat
open Go.RowKit

theorem store_cplx (P : Program) (w : World) (a : Addr) (m : Mode) (k : FloatKind) (x y : Nat) : (store a (.complex k x y) m).run P w = stored P w a (.complex k x y) m := run_store P w a _ m rfl

attribute [local go_sem] store_cplx

/-- A pair of numbers, by value: their upper halves, and their lower ones. -/
def pairV (m n : Int) : Value := .agg #[.complex .f64 (floatOfInt .f64 (m / 4294967296)) (floatOfInt .f64 (n / 4294967296)), .complex .f64 (floatOfInt .f64 (m % 4294967296)) (floatOfInt .f64 (n % 4294967296))]

end Go.Proofs.YthfkfonfiejbmaaGreat

end

section

/-
  LAYER 10: a heap in memory: its slots, and where each id's slot stands.
-/
namespace Go.Proofs.YthfkfonfiejbmaaGreat
open Go.RowKit Go.ChangeMaps Go.MapKept

def slVals (s : Sl) : List Value := [.int .i64 s.id, .int .i64 s.r0, .int .i64 s.r1, .int .i64 s.r2]

/-- Numbers that an int holds. -/
def SlFit (s : Sl) : Prop := (Lit.int .i64 s.id).wf = true

/-- A map of the call's own, from ids to places; k ids. -/
def PlacesAt (w : World) (M : Nat) (f : Int → Option Nat) (k : Nat) : Prop :=
  ∃ D : DataW Unit, w.ownsMap Tryz.prog 3 (plainElem Tryz.prog 3) M k D ∧ Maps.size D = k ∧
    ∀ id : Int, Maps.has D (.int .i64 id) = (f id).isSome ∧ D.atKey (.int .i64 id) (.lit (.int .i64 0)) = .lit (.int .i64 (((f id).getD 0 : Nat) : Int))

theorem PlacesAt.kept {w w' : World} {M : Nat} {f : Int → Option Nat} {k : Nat} (h : PlacesAt w M f k) (hb : w'.heap[M]? = w.heap[M]?) : PlacesAt w' M f k := by
  obtain ⟨D, ⟨es, clock, h2, h3, h4, h5⟩, h6⟩ := h
  exact ⟨D, ⟨es, clock, hb.trans h2, h3, h4, h5⟩, h6⟩

theorem PlacesAt.lt {w : World} {M : Nat} {f : Int → Option Nat} {k : Nat} (h : PlacesAt w M f k) : M < w.heap.size := by
  obtain ⟨D, h1, _⟩ := h
  exact h1.lt

theorem PlacesAt.isMap {w : World} {M : Nat} {f : Int → Option Nat} {k : Nat} (h : PlacesAt w M f k) : ∃ es clock, w.heap[M]? = some (.map es clock) := by
  obtain ⟨D, ⟨es, clock, h2, _⟩, _⟩ := h
  exact ⟨es, clock, h2⟩

/-- An id laid at a place. -/
def layF (f : Int → Option Nat) (id : Int) (a : Option Nat) : Int → Option Nat := fun x => if x = id then a else f x

/-- Worlds that differ from w in what is no block of a heap alone. -/
def Spared (w w' : World) (B M : Nat) (v : Value) : Prop := w'.heap[B]? = w.heap[B]? ∧ w'.heap[M]? = w.heap[M]? ∧ ∀ g n c, v = .slice (some ⟨g, 0, none⟩) n c → w'.heap[g]? = w.heap[g]?

theorem OwnS.blocks {α : Type} {vals : α → List Value} {sz : Nat} {T : TypeId} {w w' : World} {base : Nat} {v : Value} {t : List α} (h : OwnS vals sz T w base v t) (hb : ∀ g n c, v = .slice (some ⟨g, 0, none⟩) n c → w'.heap[g]? = w.heap[g]?) : OwnS vals sz T w' base v t := by
  refine ⟨h.1, ?_⟩
  rcases h.2 with h' | ⟨g, cap, cur, h1, h2, h3, h4⟩
  · exact .inl h'
  · exact .inr ⟨g, cap, cur, h1, h2, (hb g _ _ h1).trans h3, h4⟩

theorem OwnS.gblock {α : Type} {vals : α → List Value} {sz : Nat} {T : TypeId} {w : World} {base : Nat} {v : Value} {t : List α} (h : OwnS vals sz T w base v t) {g n c : Nat} (hv : v = .slice (some ⟨g, 0, none⟩) n c) : g < w.heap.size ∧ base ≤ g ∧ ∃ cur, w.heap[g]? = some (.cells cur T (0, 0)) := by
  subst hv
  obtain ⟨_, h2, h3, _, _, cur, h4, _⟩ := h.head
  exact ⟨h3, h2, cur, h4⟩

/-- The blocks that a heap's call may turn. -/
def Foot (B M : Nat) (v : Value) (b : Nat) : Prop := b = B ∨ b = M ∨ ∃ n c, v = .slice (some ⟨b, 0, none⟩) n c

/-- All other blocks are as they were. -/
def Beside (w w' : World) (S : Nat → Prop) : Prop := ∀ b, b < w.heap.size → ¬ S b → w'.heap[b]? = w.heap[b]?

theorem Beside.refl (w : World) (S : Nat → Prop) : Beside w w S := fun _ _ _ => rfl

theorem Beside.trans {a b c : World} {S : Nat → Prop} (h1 : Beside a b S) (hs : a.heap.size ≤ b.heap.size) (h2 : Beside b c S) : Beside a c S :=
  fun x hx hn => (h2 x (Nat.lt_of_lt_of_le hx hs) hn).trans (h1 x hx hn)

end Go.Proofs.YthfkfonfiejbmaaGreat

end
