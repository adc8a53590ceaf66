/-
  TEXTS OF THE PROOF, one behind the other: IdDoc, IdRput, IdRmerge, IdConcat, IdMerge, RosAbout, RosWat, RosLive, RosRef.
-/
import Derived.Test.YthfkfonfiejbmaaGreatProg
import Derived.Lib.Hide
import Derived.Test.YthfkfonfiejbmaaGreatC15
import Derived.Test.YthfkfonfiejbmaaGreatC01
import Derived.Lib.AppendZeros
import Derived.OwnWalk
import Derived.BigQuiet
import Derived.Deep.DeepMust
import Derived.Lib.OwnBridge
import Derived.WalkSpells
import Derived.Test.YthfkfonfiejbmaaGreatC08

section

/-
  THE CONTRACTS OF THE DOCUMENT'S Few AND Same.
-/
namespace Go.Proofs.YthfkfonfiejbmaaGreat
open Go.RowKit

def fewB (ls : List (List UInt8)) : Bool := decide (ls.length ≤ 30) && ls.all fun t => decide (t.length ≤ 30)

end Go.Proofs.YthfkfonfiejbmaaGreat

end

section

/-
  THE CONTRACTS OF THE DOCUMENT'S put AND Merge.
-/
namespace Go.Proofs.YthfkfonfiejbmaaGreat
open Go.RowKit

/-- What Merge hands to put: nil, or a row that is not empty. -/
def Heaped (w : World) (v : Value) (ls : List (List UInt8)) : Prop := Texts w v ls ∧ (ls = [] → v = .slice none 0 0)

end Go.Proofs.YthfkfonfiejbmaaGreat

end

section

/-
  THE CONTRACT OF THE DOCUMENT'S Merge.
-/
namespace Go.Proofs.YthfkfonfiejbmaaGreat
open Go.RowKit

theorem Heaped.later {w w' : World} {v : Value} {ls : List (List UInt8)} (h : Heaped w v ls) (hb : Below w.heap.size w w') : Heaped w' v ls := ⟨h.1.later hb, h.2⟩

/-- A cell of a row, in a later world. -/
theorem Texts.cell {w wr : World} {a : Option Addr} {n cap : Nat} {ls : List (List UInt8)} (h : Texts w (.slice a n cap) ls) (hb : Below w.heap.size w wr) (k : Nat) (hk : k < ls.length) :
    ∃ b off, a = some ⟨b, off, none⟩ ∧ wr.cell? ⟨b, off + k, none⟩ = some (.string ⟨(ls.getD k []).toArray⟩) := by
  obtain ⟨a', cap', e, _, _, _, h⟩ := h.later hb
  simp only [Value.slice.injEq] at e
  rcases h with h | ⟨b, off, e', _, hc⟩
  · rw [h] at hk; simp at hk
  · exact ⟨b, off, e.1.trans e', hc k hk⟩

end Go.Proofs.YthfkfonfiejbmaaGreat

end

section

/-
  THE CONTRACTS OF slices.Grow (of nil) AND slices.Concat (of two rows of texts), AT THIS PROGRAM.
-/
namespace Go.Proofs.YthfkfonfiejbmaaGreat
open Go.RowKit

end Go.Proofs.YthfkfonfiejbmaaGreat

end

section

/-
  THE CONTRACT OF ident.Merge: the lists as one, sorted, each text once.
-/
namespace Go.Proofs.YthfkfonfiejbmaaGreat
open Go.RowKit Go.Lib Go.Sort

end Go.Proofs.YthfkfonfiejbmaaGreat

end

section

/-
  LAYER 8, THE CODE: about; Watchers, where sorting turns nothing.
-/
namespace Go.Proofs.YthfkfonfiejbmaaGreat
open Go.RowKit

end Go.Proofs.YthfkfonfiejbmaaGreat

end

section

/-
  LAYER 8, THE CODE: Watchers, where sorting turns nothing.
-/
namespace Go.Proofs.YthfkfonfiejbmaaGreat
open Go.RowKit

end Go.Proofs.YthfkfonfiejbmaaGreat

end

section

/-
  THE CONTRACT OF live OF LAYER 8's STATEMENTS: it returns true.
-/
namespace Go.Proofs.YthfkfonfiejbmaaGreat
open Go.RowKit

theorem Ents.cut {w : World} {ad : Option Addr} {n cap k : Nat} {l : List Ent} (h : Ents w (.slice ad n cap) l) (hk : k ≤ l.length) : Ents w (.slice ad k cap) (l.take k) := by
  obtain ⟨a', cap', e, h1, h2, h3, h4⟩ := h
  simp only [Value.slice.injEq] at e
  obtain ⟨rfl, rfl, rfl⟩ := e
  have hl : (l.take k).length = k := by rw [List.length_take]; omega
  refine ⟨ad, cap, by rw [hl], by rw [hl]; omega, h2, h3, ?_⟩
  rcases h4 with rfl | ⟨b, off, e, hb, hc⟩
  · exact .inl (by simp)
  · refine .inr ⟨b, off, e, hb, fun i hi => ?_⟩
    rw [hl] at hi
    have := hc i (by omega)
    have e2 : (l.take k).getD i Ent.zero = l.getD i Ent.zero := by simp [List.getD, hi]
    rwa [e2]

def nAnn : List UInt8 := [97, 110, 110]
def nBob : List UInt8 := [98, 111, 98]
def lvM1 : List Ent := [⟨nAnn, nBob, ⟨false, false, false, true, false⟩⟩, ⟨nBob, nAnn, ⟨false, false, true, false, false⟩⟩]
def lvM2 : List Ent := [⟨nAnn, nBob, ⟨false, true, false, false, false⟩⟩, ⟨nBob, nAnn, ⟨true, false, false, false, false⟩⟩]

end Go.Proofs.YthfkfonfiejbmaaGreat

end

section

/-
  LAYER 8, THE DOCUMENT's: Ahead, Few, Same.
-/
namespace Go.Proofs.YthfkfonfiejbmaaGreat
open Go.RowKit

theorem entLt_cases (xo xc yo yc : List UInt8) (i j : It) :
    (idLess xo yo = true ∧ entLt ⟨xo, xc, i⟩ ⟨yo, yc, j⟩ = true) ∨ (idLess xo yo = false ∧ (xo == yo) = false ∧ entLt ⟨xo, xc, i⟩ ⟨yo, yc, j⟩ = false) ∨ (idLess xo yo = false ∧ (xo == yo) = true ∧ entLt ⟨xo, xc, i⟩ ⟨yo, yc, j⟩ = idLess xc yc) := by
  unfold entLt
  cases h : idLess xo yo with
  | true => exact .inl ⟨rfl, by simp⟩
  | false =>
    by_cases he : xo = yo
    · exact .inr (.inr ⟨rfl, by simpa using he, by simp [he]⟩)
    · exact .inr (.inl ⟨rfl, by rw [beq_eq_false_iff_ne]; exact he, by simp [he]⟩)

set_option maxHeartbeats 1600000 in
set_option maxRecDepth 100000 in
theorem rahead8_any (xo xc : List UInt8) (x1 x2 x3 x4 x5 : Bool) (yo yc : List UInt8) (y1 y2 y3 y4 y5 : Bool) {r : Bool} (h : Hid (entLt ⟨xo, xc, ⟨x1, x2, x3, x4, x5⟩⟩ ⟨yo, yc, ⟨y1, y2, y3, y4, y5⟩⟩ = r)) (w : World) :
    Calls Tryz.prog 34 #[.agg #[.string ⟨xo.toArray⟩, .string ⟨xc.toArray⟩, .bool x1, .bool x2, .bool x3, .bool x4, .bool x5], .agg #[.string ⟨yo.toArray⟩, .string ⟨yc.toArray⟩, .bool y1, .bool y2, .bool y3, .bool y4, .bool y5]] w fun e w' => e = .returned (.bool r) ∧ Below w.heap.size w w' := by
  have B0 := Lib.hid (below2Z (bl_newZ w (.cells #[.string ⟨xo.toArray⟩, .string ⟨xc.toArray⟩, .bool x1, .bool x2, .bool x3, .bool x4, .bool x5] 68)) (bl_newZ _ (.cells #[.string ⟨yo.toArray⟩, .string ⟨yc.toArray⟩, .bool y1, .bool y2, .bool y3, .bool y4, .bool y5] 68)))
  rcases entLt_cases xo xc yo yc ⟨x1, x2, x3, x4, x5⟩ ⟨y1, y2, y3, y4, y5⟩ with ⟨h1, h2⟩ | ⟨h1, t1, h2⟩ | ⟨h1, t1, h2⟩
  · have HL : Hid (∀ w, Calls Tryz.prog 76 #[.string ⟨xo.toArray⟩, .string ⟨yo.toArray⟩] w fun e w' => e = .returned (.bool true) ∧ w = w') := Lib.hid (rless_eq xo yo (Lib.hid h1))
    rw [h.out] at h2
    subst h2
    clear h h1
    go_enter Tryz.func34, Tryz.ntmps34
    go_wp2_with fail
    refine (HL.out _).mono ?_
    rintro e w1 ⟨rfl, rfl⟩
    go_wp2_with fail
    go_ret
    exact ⟨rfl, B0.out⟩
  · have HL : Hid (∀ w, Calls Tryz.prog 76 #[.string ⟨xo.toArray⟩, .string ⟨yo.toArray⟩] w fun e w' => e = .returned (.bool false) ∧ w = w') := Lib.hid (rless_eq xo yo (Lib.hid h1))
    rw [h.out] at h2
    subst h2
    clear h h1
    go_enter Tryz.func34, Tryz.ntmps34
    go_wp2_with fail
    refine (HL.out _).mono ?_
    rintro e w1 ⟨rfl, rfl⟩
    go_wp2_with fail
    go_ret
    exact ⟨rfl, B0.out⟩
  · have HL : Hid (∀ w, Calls Tryz.prog 76 #[.string ⟨xo.toArray⟩, .string ⟨yo.toArray⟩] w fun e w' => e = .returned (.bool false) ∧ w = w') := Lib.hid (rless_eq xo yo (Lib.hid h1))
    rw [h.out] at h2
    have HM : Hid (∀ w, Calls Tryz.prog 76 #[.string ⟨xc.toArray⟩, .string ⟨yc.toArray⟩] w fun e w' => e = .returned (.bool r) ∧ w = w') := Lib.hid (rless_eq xc yc (Lib.hid h2.symm))
    have he : xo = yo := by simpa using t1
    subst he
    clear h h1 t1 h2
    go_enter Tryz.func34, Tryz.ntmps34
    go_wp2_with fail
    refine (HL.out _).mono ?_
    rintro e w1 ⟨rfl, rfl⟩
    go_wp2_with fail
    refine (HM.out _).mono ?_
    rintro e w1 ⟨rfl, rfl⟩
    go_wp2_with fail
    go_ret
    exact ⟨rfl, B0.out⟩

def fewE (e : Ent) : Bool := decide (e.o.length ≤ 40) && decide (e.c.length ≤ 40)
def fewR (l : List Ent) : Bool := decide (l.length ≤ 80) && l.all fewE

theorem fewR_get {l : List Ent} (h : fewR l = true) : l.length ≤ 80 ∧ ∀ e ∈ l, e.o.length ≤ 40 ∧ e.c.length ≤ 40 := by
  unfold fewR fewE at h
  simp only [Bool.and_eq_true, List.all_eq_true, decide_eq_true_eq] at h
  exact ⟨h.1, h.2⟩

theorem fewR_short {l : List Ent} (h : fewR l = true) : ShortE l := fun e he => by
  have := (fewR_get h).2 e he
  omega

set_option maxHeartbeats 1600000 in
set_option maxRecDepth 100000 in
theorem few8_any {w : World} {v : Value} {l : List Ent} (hv : Ents w v l) {r : Bool} (h : Hid (fewR l = r)) :
    Calls Tryz.prog 13 #[v] w fun e w' => e = .returned (.bool r) ∧ w = w' := by
  have HV := Lib.hid hv
  obtain ⟨a, cap, rfl, hm⟩ := hv.open'
  clear hv
  by_cases h80 : l.length ≤ 80
  · have t0 : decide (80 < (l.length : Int)) = false := by simp; omega
    go_enter Tryz.func13, Tryz.ntmps13
    go_wp2_with fail
    go_loop [3] (fun i => ∃ k : Nat, k ≤ l.length ∧ i = .int .i64 k ∧ Hid ((l.take k).all fewE = true)) (fun i => l.length - (intOf i).toNat)
    case atStart => exact ⟨0, by omega, rfl, by show _ = _; simp⟩
    case round =>
      obtain ⟨k, hk, rfl, HA⟩ := hrel
      by_cases hlt : k < l.length
      · obtain ⟨b, off, rfl, h0, h1, _⟩ := HV.out.row (Below.refl _ _) k hlt
        obtain ⟨⟨xo, xc, ⟨x1, x2, x3, x4, x5⟩⟩, hr⟩ : ∃ r, l.getD k Ent.zero = r := ⟨_, rfl⟩
        have hnext : (l.take (k + 1)).all fewE = ((l.take k).all fewE && fewE ⟨xo, xc, ⟨x1, x2, x3, x4, x5⟩⟩) := by
          rw [List.take_succ_eq_append_getElem hlt, List.all_append, ← getD_at hlt, hr]
          simp
        have hoff : fewE ⟨xo, xc, ⟨x1, x2, x3, x4, x5⟩⟩ = false → fewR l = false := fun he => by
          rw [Bool.eq_false_iff]
          intro h'
          unfold fewR at h'
          rw [Bool.and_eq_true, List.all_eq_true] at h'
          have := h'.2 _ (List.getElem_mem hlt)
          rw [← getD_at hlt, hr, he] at this
          cases this
        rw [hr] at h0 h1
        simp only at h0 h1
        clear hr
        by_cases ho : xo.length ≤ 40
        · have t1 : decide (40 < (xo.length : Int)) = false := by simp; omega
          by_cases hc : xc.length ≤ 40
          · have t2 : decide (40 < (xc.length : Int)) = false := by simp; omega
            have HA2 : Hid ((l.take (k + 1)).all fewE = true) := by
              show _ = _
              rw [hnext, HA.out]
              unfold fewE
              simp [ho, hc]
            clear hnext hoff ho hc
            go_wp2_with fail
            go_round
            case rel => exact ⟨k + 1, by omega, by go_num, HA2⟩
            case measure => simp [intOf]; omega
          · have t2 : decide (40 < (xc.length : Int)) = true := by simp; omega
            have HR := hoff (by unfold fewE; simp [hc])
            rw [h.out] at HR
            subst HR
            clear hnext hoff ho hc
            go_wp2_with fail
            go_ret
            exact ⟨rfl, rfl⟩
        · have t1 : decide (40 < (xo.length : Int)) = true := by simp; omega
          have HR := hoff (by unfold fewE; simp [ho])
          rw [h.out] at HR
          subst HR
          clear hnext hoff ho
          go_wp2_with fail
          go_ret
          exact ⟨rfl, rfl⟩
      · obtain rfl : k = l.length := by omega
        have HR : fewR l = true := by
          have := HA.out
          rw [List.take_length] at this
          unfold fewR
          simp [h80, this]
        rw [h.out] at HR
        subst HR
        go_wp2_with fail
        go_ret
        exact ⟨rfl, rfl⟩
  · have t0 : decide (80 < (l.length : Int)) = true := by simp; omega
    have HR : fewR l = false := by unfold fewR; simp [h80]
    rw [h.out] at HR
    subst HR
    go_enter Tryz.func13, Tryz.ntmps13
    go_wp2_with fail
    go_ret
    exact ⟨rfl, rfl⟩

end Go.Proofs.YthfkfonfiejbmaaGreat

end
