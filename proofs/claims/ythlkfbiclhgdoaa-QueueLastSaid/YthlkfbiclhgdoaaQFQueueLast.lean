/-
  THE PROOF OF QueueLast: for every input the law returns true, and each argument reads behind the call as it read before. No condition.
-/
import Derived.Test.YthlkfbiclhgdoaaQ07
import Derived.Test.YthlkfbiclhgdoaaQ08
import Derived.Test.YthlkfbiclhgdoaaQ01
import Derived.Test.YthlkfbiclhgdoaaQ03
import Derived.Test.YthlkfbiclhgdoaaQ04
import Derived.ProofKit
import Derived.OpenShut
import Derived.Test.YthlkfbiclhgdoaaQ05
import Derived.Test.YthlkfbiclhgdoaaRows
import Derived.ShutString
import Derived.ChangeOld
import Derived.SliceStrings
import Derived.Lib.SmallJoins

section

/-
  THE WALK OF QueueLast.
-/
namespace Go.Proofs.Ythlkfbiclhgdoaa
open Go.RowKit

theorem fewt_b3 {w : World} {v : Value} {t : List Row} (hv : Tab w v t) {r : Bool} (h : Hid (fewT t = r)) :
    Calls Try.prog 10 #[v] w fun e w' => e = .returned (.bool r) ∧ Below w.heap.size w w' :=
  (fewt_eq hv h).mono fun _ _ ⟨he, hw⟩ => ⟨he, hw ▸ Below.refl _ _⟩

theorem set_tab {w : World} {v : Value} {t : List Row} (hv : Tab w v t) (hl : t.length ≤ 1000) (xc xs : List UInt8) (xo : Bool) (xa xb xd : Int) :
    Calls Try.prog 30 #[v, .agg #[.string ⟨xc.toArray⟩, .bool xo, .int .i64 xa, .int .i64 xb, .int .i64 xd, .string ⟨xs.toArray⟩]] w fun e w' => ∃ u, e = .returned u ∧ Tab w' u (diSet t ⟨xc, xo, ⟨xa, xb, xd, xs⟩⟩) ∧ Below w.heap.size w w' :=
  (set_any hv hl ⟨xc, xo, ⟨xa, xb, xd, xs⟩⟩).mono fun _ _ ⟨u, he, hu, hb⟩ => ⟨u, he, hu.tab, hb⟩

theorem row_in {w : World} {a : Option Addr} {len cap : Nat} {ns : List Int} (h : IsRow .i64 w a len cap ns) :
    len ≤ maxLen ∧ ∀ k, k < len → ∃ b off, a = some ⟨b, off, none⟩ ∧ b < w.heap.size ∧ w.cell? ⟨b, off + k, none⟩ = some (.int .i64 (ns.getD k 0)) := by
  obtain ⟨h1, h2, h3, -⟩ := h.form
  refine ⟨by omega, fun k hk => ?_⟩
  rcases h3 with h3 | ⟨b, off, e, hb, hc⟩
  · omega
  · exact ⟨b, off, e, hb, hc k hk⟩

/-- Two stores into a queue's block: what the block holds then; what they leave alone. -/
theorem que_set {w : World} {b : Nat} {x0 x1 y0 y1 : Value} {T : TypeId} (h : w.heap[b]? = some (.cells #[x0, x1] T (0, 0))) : ((w.setCell ⟨b, 0, none⟩ y0).setCell ⟨b, 1, none⟩ y1).heap[b]? = some (.cells #[y0, y1] T (0, 0)) := by
  have h1 := heap_setCell_same w b 0 _ _ y0 h
  have h2 := heap_setCell_same _ b 1 _ _ y1 h1
  simpa using h2

theorem tab_far {w : World} {v : Value} {l : List Row} (h : Tab w v l) {B : Nat} {x y x' y' : Value} (hb : w.heap[B]? = some (.cells #[x, y] 24 (0, 0))) : Tab ((w.setCell ⟨B, 0, none⟩ x').setCell ⟨B, 1, none⟩ y') v l := by
  obtain ⟨a, cap, h1, h2, h3, h4, h5⟩ := h
  refine ⟨a, cap, h1, h2, h3, h4, ?_⟩
  rcases h5 with h5 | ⟨b, off, e, hlt, hc⟩
  · exact .inl h5
  · by_cases ht : l = []
    · exact .inl ht
    · have hpos : 0 < l.length := List.length_pos_iff.2 ht
      have hne : ¬ b = B := by
        rintro rfl
        have h5 := (hc 0 hpos).2.2.2.2
        rw [Nat.zero_mul, Nat.add_zero] at h5
        simp only [World.cell?, hb] at h5
        simp at h5
      refine .inr ⟨b, off, e, by simpa [World.setCell] using hlt, fun i hi => ?_⟩
      have k : ∀ o, ((w.setCell ⟨B, 0, none⟩ x').setCell ⟨B, 1, none⟩ y').cell? ⟨b, o, none⟩ = w.cell? ⟨b, o, none⟩ := fun o => by
        apply World.cell?_of_block
        show (World.setCell _ _ _).heap[b]? = _
        rw [Below.heap_setCell _ _ _ b hne, Below.heap_setCell _ _ _ b hne]
      obtain ⟨c0, c1, c2, c3, c4⟩ := hc i hi
      exact ⟨(k _).trans c0, (k _).trans c1, (k _).trans c2, (k _).trans c3, (k _).trans c4⟩

theorem push_shortC {q : List Chg} {c : Chg} {room : Int} {pl : List Chg} {pa : Bool} (hq : ShortC q) (hc : c.c.length ≤ 4294967296 ∧ c.v.st.length ≤ 4294967296) (h : quPush ⟨q, false⟩ c room = ⟨pl, pa⟩) : ShortC pl := fun y hy => by
  have hy2 : y ∈ (quPush ⟨q, false⟩ c room).l := by rw [h]; exact hy
  rcases quPush_mem hy2 with e | h'
  · rw [e]; exact hc
  · exact hq y h'

theorem push_latN {q : List Chg} {c : Chg} {room : Int} {pl : List Chg} (h : quPush ⟨q, false⟩ c room = ⟨pl, true⟩) : pl = [] := by
  rcases quPush_ways ⟨q, false⟩ c room with ⟨hl, _⟩ | ⟨_, _, e⟩ | ⟨_, _, _, e⟩ | ⟨_, _, _, e⟩
  · cases hl
  · have := congrArg Que.la (h.symm.trans e); cases this
  · have := congrArg Que.la (h.symm.trans e); cases this
  · exact congrArg Que.l (h.symm.trans e)

def rowHeld (X : World) (b o : Nat) (r : Chg) : Prop := Cells6 X b o r

theorem cell_far {w : World} {B b i : Nat} (hne : ¬ b = B) {x' y' u : Value} (h : w.cell? ⟨b, i, none⟩ = some u) : ((w.setCell ⟨B, 0, none⟩ x').setCell ⟨B, 1, none⟩ y').cell? ⟨b, i, none⟩ = some u := by
  rw [← h]
  apply World.cell?_of_block
  show (World.setCell _ _ _).heap[b]? = _
  rw [Below.heap_setCell _ _ _ b hne, Below.heap_setCell _ _ _ b hne]

set_option maxHeartbeats 6400000 in
set_option maxRecDepth 100000 in
theorem qla_1 {w : World} {vt v : Value} {t : List Row} {l : List Chg} (ht : Tab w vt t) (hv : Chgs w v l) (a2 : Option Addr) (m2 c2 : Nat) (ns : List Int) (hp : IsRow .i64 w a2 m2 c2 ns) (hmx : l.length < 9223372036854775807) (h1 : ((m2 : Int) != (l.length : Int) + 1) = true) :
    Calls Try.prog 6 #[vt, v, .slice a2 m2 c2] w fun e w' => e = .returned (.bool true) ∧ Below w.heap.size w w' := by
  obtain ⟨ao, cap, rfl, _hmx⟩ := hv.open'
  obtain ⟨at_, ct, rfl, _hmt⟩ := ht.open'
  have HB : Hid (Below w.heap.size w w) := Lib.hid (Below.refl _ _)
  have V := Lib.hid hv
  have T := Lib.hid ht
  have R := Lib.hid (row_in hp)
  clear hv ht hp
  have hw1 : IntKind.i64.wrap ((l.length : Int) + 1) = (l.length : Int) + 1 := IntWalk.i64_in _ (by omega)
  clear _hmx
  go_enter Try.func6, Try.ntmps6
  go_wp2_with fail
  refine (live17 _).mono ?_
  rintro e w1 ⟨rfl, b1⟩
  replace V := Lib.hid (V.out.later b1)
  replace T := Lib.hid (T.out.later b1)
  replace HB := Lib.hid (below2Z HB.out b1)
  clear b1
  go_wp2_with fail
  go_ret
  exact ⟨rfl, HB.out⟩

set_option maxHeartbeats 6400000 in
set_option maxRecDepth 100000 in
theorem qla_2 {w : World} {vt v : Value} {t : List Row} {l : List Chg} (ht : Tab w vt t) (hv : Chgs w v l) (a2 : Option Addr) (m2 c2 : Nat) (ns : List Int) (hp : IsRow .i64 w a2 m2 c2 ns) (hmx : l.length < 9223372036854775807) (h1 : ((m2 : Int) != (l.length : Int) + 1) = false) (hf : fewT t = false) :
    Calls Try.prog 6 #[vt, v, .slice a2 m2 c2] w fun e w' => e = .returned (.bool true) ∧ Below w.heap.size w w' := by
  obtain ⟨ao, cap, rfl, _hmx⟩ := hv.open'
  obtain ⟨at_, ct, rfl, _hmt⟩ := ht.open'
  have HB : Hid (Below w.heap.size w w) := Lib.hid (Below.refl _ _)
  have V := Lib.hid hv
  have T := Lib.hid ht
  have R := Lib.hid (row_in hp)
  clear hv ht hp
  have hw1 : IntKind.i64.wrap ((l.length : Int) + 1) = (l.length : Int) + 1 := IntWalk.i64_in _ (by omega)
  clear _hmx
  have H2 := Lib.hid hf
  clear hf
  go_enter Try.func6, Try.ntmps6
  go_wp2_with fail
  refine (fewt_b3 T.out H2).mono ?_
  rintro e w1 ⟨rfl, b1⟩
  replace V := Lib.hid (V.out.later b1)
  replace T := Lib.hid (T.out.later b1)
  replace HB := Lib.hid (below2Z HB.out b1)
  clear b1
  go_wp2_with fail
  refine (live17 _).mono ?_
  rintro e w2 ⟨rfl, b2⟩
  replace V := Lib.hid (V.out.later b2)
  replace T := Lib.hid (T.out.later b2)
  replace HB := Lib.hid (below2Z HB.out b2)
  clear b2
  go_wp2_with fail
  go_ret
  exact ⟨rfl, HB.out⟩

set_option maxHeartbeats 6400000 in
set_option maxRecDepth 100000 in
theorem qla_3 {w : World} {vt v : Value} {t : List Row} {l : List Chg} (ht : Tab w vt t) (hv : Chgs w v l) (a2 : Option Addr) (m2 c2 : Nat) (ns : List Int) (hp : IsRow .i64 w a2 m2 c2 ns) (hmx : l.length < 9223372036854775807) (h1 : ((m2 : Int) != (l.length : Int) + 1) = false) (hf : fewT t = true) (hd : diMay t = false) :
    Calls Try.prog 6 #[vt, v, .slice a2 m2 c2] w fun e w' => e = .returned (.bool true) ∧ Below w.heap.size w w' := by
  obtain ⟨ao, cap, rfl, _hmx⟩ := hv.open'
  obtain ⟨at_, ct, rfl, _hmt⟩ := ht.open'
  have HB : Hid (Below w.heap.size w w) := Lib.hid (Below.refl _ _)
  have V := Lib.hid hv
  have T := Lib.hid ht
  have R := Lib.hid (row_in hp)
  clear hv ht hp
  have hw1 : IntKind.i64.wrap ((l.length : Int) + 1) = (l.length : Int) + 1 := IntWalk.i64_in _ (by omega)
  clear _hmx
  have HSH := Lib.hid (fewT_short hf)
  have H2 := Lib.hid hf
  have H3 := Lib.hid hd
  clear hf hd
  go_enter Try.func6, Try.ntmps6
  go_wp2_with fail
  refine (fewt_b3 T.out H2).mono ?_
  rintro e w1 ⟨rfl, b1⟩
  replace V := Lib.hid (V.out.later b1)
  replace T := Lib.hid (T.out.later b1)
  replace HB := Lib.hid (below2Z HB.out b1)
  clear b1
  go_wp2_with fail
  refine (rdimay_eq T.out HSH.out H3).mono ?_
  rintro e w2 ⟨rfl, b2⟩
  replace V := Lib.hid (V.out.later b2)
  replace T := Lib.hid (T.out.later b2)
  replace HB := Lib.hid (below2Z HB.out b2)
  clear b2
  go_wp2_with fail
  refine (live17 _).mono ?_
  rintro e w3 ⟨rfl, b3⟩
  replace V := Lib.hid (V.out.later b3)
  replace T := Lib.hid (T.out.later b3)
  replace HB := Lib.hid (below2Z HB.out b3)
  clear b3
  go_wp2_with fail
  go_ret
  exact ⟨rfl, HB.out⟩

set_option maxHeartbeats 6400000 in
set_option maxRecDepth 100000 in
theorem qla_4 {w : World} {vt v : Value} {t : List Row} {l : List Chg} (ht : Tab w vt t) (hv : Chgs w v l) (a2 : Option Addr) (m2 c2 : Nat) (ns : List Int) (hp : IsRow .i64 w a2 m2 c2 ns) (hmx : l.length < 9223372036854775807) (h1 : ((m2 : Int) != (l.length : Int) + 1) = false) (hf : fewT t = true) (hd : diMay t = true) (hc : fewC l 60 = false) :
    Calls Try.prog 6 #[vt, v, .slice a2 m2 c2] w fun e w' => e = .returned (.bool true) ∧ Below w.heap.size w w' := by
  obtain ⟨ao, cap, rfl, _hmx⟩ := hv.open'
  obtain ⟨at_, ct, rfl, _hmt⟩ := ht.open'
  have HB : Hid (Below w.heap.size w w) := Lib.hid (Below.refl _ _)
  have V := Lib.hid hv
  have T := Lib.hid ht
  have R := Lib.hid (row_in hp)
  clear hv ht hp
  have hw1 : IntKind.i64.wrap ((l.length : Int) + 1) = (l.length : Int) + 1 := IntWalk.i64_in _ (by omega)
  clear _hmx
  have HSH := Lib.hid (fewT_short hf)
  have H2 := Lib.hid hf
  have H3 := Lib.hid hd
  have H4 := Lib.hid hc
  clear hf hd hc
  go_enter Try.func6, Try.ntmps6
  go_wp2_with fail
  refine (fewt_b3 T.out H2).mono ?_
  rintro e w1 ⟨rfl, b1⟩
  replace V := Lib.hid (V.out.later b1)
  replace T := Lib.hid (T.out.later b1)
  replace HB := Lib.hid (below2Z HB.out b1)
  clear b1
  go_wp2_with fail
  refine (rdimay_eq T.out HSH.out H3).mono ?_
  rintro e w2 ⟨rfl, b2⟩
  replace V := Lib.hid (V.out.later b2)
  replace T := Lib.hid (T.out.later b2)
  replace HB := Lib.hid (below2Z HB.out b2)
  clear b2
  go_wp2_with fail
  refine (fewc_any V.out 60 H4).mono ?_
  rintro e w3 ⟨rfl, b3⟩
  replace V := Lib.hid (V.out.later b3)
  replace T := Lib.hid (T.out.later b3)
  replace HB := Lib.hid (below2Z HB.out b3)
  clear b3
  go_wp2_with fail
  refine (live17 _).mono ?_
  rintro e w4 ⟨rfl, b4⟩
  replace V := Lib.hid (V.out.later b4)
  replace T := Lib.hid (T.out.later b4)
  replace HB := Lib.hid (below2Z HB.out b4)
  clear b4
  go_wp2_with fail
  go_ret
  exact ⟨rfl, HB.out⟩

set_option maxHeartbeats 6400000 in
set_option maxRecDepth 100000 in
theorem qla_5 {w : World} {vt v : Value} {t : List Row} {l : List Chg} (ht : Tab w vt t) (hv : Chgs w v l) (a2 : Option Addr) (m2 c2 : Nat) (ns : List Int) (hp : IsRow .i64 w a2 m2 c2 ns) (hmx : l.length < 9223372036854775807) (h1 : ((m2 : Int) != (l.length : Int) + 1) = false) (hf : fewT t = true) (hd : diMay t = true) (hc : fewC l 60 = true) (hr : ns.getD l.length 0 < 1) :
    Calls Try.prog 6 #[vt, v, .slice a2 m2 c2] w fun e w' => e = .returned (.bool true) ∧ Below w.heap.size w w' := by
  obtain ⟨ao, cap, rfl, _hmx⟩ := hv.open'
  obtain ⟨at_, ct, rfl, _hmt⟩ := ht.open'
  have HB : Hid (Below w.heap.size w w) := Lib.hid (Below.refl _ _)
  have V := Lib.hid hv
  have T := Lib.hid ht
  have R := Lib.hid (row_in hp)
  clear hv ht hp
  have hl60 := (fewC_get hc).1
  obtain rfl : m2 = l.length + 1 := by simp only [bne_eq_false_iff_eq] at h1; omega
  have hw1 : IntKind.i64.wrap ((l.length : Int) + 1) = (l.length : Int) + 1 := IntWalk.i64_in _ (by omega)
  clear _hmx
  have HSH := Lib.hid (fewT_short hf)
  have H2 := Lib.hid hf
  have H3 := Lib.hid hd
  have H4 := Lib.hid hc
  clear hf hd hc
  obtain ⟨b2, o2, rfl, hb2, hrm⟩ := R.out.2 l.length (by omega)
  obtain ⟨room, hroom⟩ : ∃ r, ns.getD l.length 0 = r := ⟨_, rfl⟩
  rw [hroom] at hrm hr
  clear hroom
  have u1 : decide (room < 1) = true := decide_eq_true hr
  clear hr R
  go_enter Try.func6, Try.ntmps6
  go_wp2_with fail
  refine (fewt_b3 T.out H2).mono ?_
  rintro e w1 ⟨rfl, b1⟩
  replace V := Lib.hid (V.out.later b1)
  replace T := Lib.hid (T.out.later b1)
  replace HB := Lib.hid (below2Z HB.out b1)
  clear b1
  go_wp2_with fail
  refine (rdimay_eq T.out HSH.out H3).mono ?_
  rintro e w2 ⟨rfl, b2⟩
  replace V := Lib.hid (V.out.later b2)
  replace T := Lib.hid (T.out.later b2)
  replace HB := Lib.hid (below2Z HB.out b2)
  clear b2
  go_wp2_with fail
  refine (fewc_any V.out 60 H4).mono ?_
  rintro e w3 ⟨rfl, b3⟩
  replace V := Lib.hid (V.out.later b3)
  replace T := Lib.hid (T.out.later b3)
  replace HB := Lib.hid (below2Z HB.out b3)
  clear b3
  have hrm2 := cell_later hrm HB.out
  clear hrm
  go_wp2_with fail
  refine (live17 _).mono ?_
  rintro e w4 ⟨rfl, b4⟩
  replace V := Lib.hid (V.out.later b4)
  replace T := Lib.hid (T.out.later b4)
  replace HB := Lib.hid (below2Z HB.out b4)
  clear b4
  go_wp2_with fail
  go_ret
  exact ⟨rfl, HB.out⟩

set_option maxHeartbeats 6400000 in
set_option maxRecDepth 100000 in
theorem qla_6 {w : World} {vt v : Value} {t : List Row} {l : List Chg} (ht : Tab w vt t) (hv : Chgs w v l) (a2 : Option Addr) (m2 c2 : Nat) (ns : List Int) (hp : IsRow .i64 w a2 m2 c2 ns) (hmx : l.length < 9223372036854775807) (h1 : ((m2 : Int) != (l.length : Int) + 1) = false) (hf : fewT t = true) (hd : diMay t = true) (hc : fewC l 60 = true) (hr : 16 < ns.getD l.length 0) :
    Calls Try.prog 6 #[vt, v, .slice a2 m2 c2] w fun e w' => e = .returned (.bool true) ∧ Below w.heap.size w w' := by
  obtain ⟨ao, cap, rfl, _hmx⟩ := hv.open'
  obtain ⟨at_, ct, rfl, _hmt⟩ := ht.open'
  have HB : Hid (Below w.heap.size w w) := Lib.hid (Below.refl _ _)
  have V := Lib.hid hv
  have T := Lib.hid ht
  have R := Lib.hid (row_in hp)
  clear hv ht hp
  have hl60 := (fewC_get hc).1
  obtain rfl : m2 = l.length + 1 := by simp only [bne_eq_false_iff_eq] at h1; omega
  have hw1 : IntKind.i64.wrap ((l.length : Int) + 1) = (l.length : Int) + 1 := IntWalk.i64_in _ (by omega)
  clear _hmx
  have HSH := Lib.hid (fewT_short hf)
  have H2 := Lib.hid hf
  have H3 := Lib.hid hd
  have H4 := Lib.hid hc
  clear hf hd hc
  obtain ⟨b2, o2, rfl, hb2, hrm⟩ := R.out.2 l.length (by omega)
  obtain ⟨room, hroom⟩ : ∃ r, ns.getD l.length 0 = r := ⟨_, rfl⟩
  rw [hroom] at hrm hr
  clear hroom
  have u1 : decide (room < 1) = false := decide_eq_false (by omega)
  have u2 : decide (16 < room) = true := decide_eq_true hr
  clear hr R
  go_enter Try.func6, Try.ntmps6
  go_wp2_with fail
  refine (fewt_b3 T.out H2).mono ?_
  rintro e w1 ⟨rfl, b1⟩
  replace V := Lib.hid (V.out.later b1)
  replace T := Lib.hid (T.out.later b1)
  replace HB := Lib.hid (below2Z HB.out b1)
  clear b1
  go_wp2_with fail
  refine (rdimay_eq T.out HSH.out H3).mono ?_
  rintro e w2 ⟨rfl, b2⟩
  replace V := Lib.hid (V.out.later b2)
  replace T := Lib.hid (T.out.later b2)
  replace HB := Lib.hid (below2Z HB.out b2)
  clear b2
  go_wp2_with fail
  refine (fewc_any V.out 60 H4).mono ?_
  rintro e w3 ⟨rfl, b3⟩
  replace V := Lib.hid (V.out.later b3)
  replace T := Lib.hid (T.out.later b3)
  replace HB := Lib.hid (below2Z HB.out b3)
  clear b3
  have hrm2 := cell_later hrm HB.out
  clear hrm
  go_wp2_with fail
  refine (live17 _).mono ?_
  rintro e w4 ⟨rfl, b4⟩
  replace V := Lib.hid (V.out.later b4)
  replace T := Lib.hid (T.out.later b4)
  replace HB := Lib.hid (below2Z HB.out b4)
  clear b4
  go_wp2_with fail
  go_ret
  exact ⟨rfl, HB.out⟩

set_option maxHeartbeats 6400000 in
set_option maxRecDepth 100000 in
theorem qla_7 {w : World} {vt v : Value} {t : List Row} {l : List Chg} (ht : Tab w vt t) (hv : Chgs w v l) (a2 : Option Addr) (m2 c2 : Nat) (ns : List Int) (hp : IsRow .i64 w a2 m2 c2 ns) (hmx : l.length < 9223372036854775807) (h1 : ((m2 : Int) != (l.length : Int) + 1) = false) (hf : fewT t = true) (hd : diMay t = true) (hc : fewC l 60 = true) (hr1 : 1 ≤ ns.getD l.length 0) (hr2 : ns.getD l.length 0 ≤ 16) :
    Calls Try.prog 6 #[vt, v, .slice a2 m2 c2] w fun e w' => e = .returned (.bool true) ∧ Below w.heap.size w w' := by
  obtain ⟨ao, cap, rfl, _hmx⟩ := hv.open'
  obtain ⟨at_, ct, rfl, _hmt⟩ := ht.open'
  have HB : Hid (Below w.heap.size w w) := Lib.hid (Below.refl _ _)
  have V := Lib.hid hv
  have T := Lib.hid ht
  have R := Lib.hid (row_in hp)
  clear hv ht hp
  have RF := R
  have hl60 := (fewC_get hc).1
  obtain rfl : m2 = l.length + 1 := by simp only [bne_eq_false_iff_eq] at h1; omega
  have hcl := fewC_short hc
  have HCL := Lib.hid hcl
  have V0 := V
  have hw1 : IntKind.i64.wrap ((l.length : Int) + 1) = (l.length : Int) + 1 := IntWalk.i64_in _ (by omega)
  clear _hmx
  have HSH := Lib.hid (fewT_short hf)
  have H2 := Lib.hid hf
  have H3 := Lib.hid hd
  have H4 := Lib.hid hc
  clear hf hd hc
  obtain ⟨b2, o2, rfl, hb2, hrm⟩ := R.out.2 l.length (by omega)
  have RR : Hid (∀ k, k < l.length + 1 → w.cell? ⟨b2, o2 + k, none⟩ = some (.int .i64 (ns.getD k 0))) := Lib.hid (fun k hk => by obtain ⟨b', o', e', _, h'⟩ := R.out.2 k hk; simp only [Option.some.injEq, Addr.mk.injEq, and_true] at e'; obtain ⟨rfl, rfl⟩ := e'; exact h')
  obtain ⟨room, hroom⟩ : ∃ r, ns.getD l.length 0 = r := ⟨_, rfl⟩
  rw [hroom] at hrm hr1 hr2
  clear hroom R RF hcl
  have u1 : decide (room < 1) = false := decide_eq_false (by omega)
  have u2 : decide (16 < room) = false := decide_eq_false (by omega)
  have HR := Lib.hid (And.intro hr1 hr2)
  clear hr1 hr2
  have KK : Hid (QKeep t t [] room 0) := Lib.hid ⟨quMay_iff.2 ⟨by have := HR.out; simp only [List.length_nil]; omega, (fun _ => rfl), (fun c hc => by cases hc), List.nodup_nil⟩, (diMay_iff.1 H3.out).2.2, rfl, by have := (diMay_iff.1 H3.out).1; simp only [List.length_nil]; omega, by have := (diMay_iff.1 H3.out).1; omega⟩
  go_enter Try.func6, Try.ntmps6
  go_wp2_with fail
  refine (fewt_b3 T.out H2).mono ?_
  rintro e w1 ⟨rfl, b1⟩
  replace V := Lib.hid (Chgs.later V.out b1)
  replace T := Lib.hid (Tab.later T.out b1)
  replace HB := Lib.hid (below2Z HB.out b1)
  clear b1
  go_wp2_with fail
  refine (rdimay_eq T.out HSH.out H3).mono ?_
  rintro e w2 ⟨rfl, b2⟩
  replace V := Lib.hid (Chgs.later V.out b2)
  replace T := Lib.hid (Tab.later T.out b2)
  replace HB := Lib.hid (below2Z HB.out b2)
  clear b2
  go_wp2_with fail
  refine (fewc_any V.out 60 H4).mono ?_
  rintro e w3 ⟨rfl, b3⟩
  replace V := Lib.hid (Chgs.later V.out b3)
  replace T := Lib.hid (Tab.later T.out b3)
  replace HB := Lib.hid (below2Z HB.out b3)
  clear b3
  have hrm2 := cell_later hrm HB.out
  clear hrm
  go_wp2_with fail
  clear u1 u2 hrm2 H2 H3 H4 HSH
  have HQB := Lib.hid (newQ w3 (.cells #[.slice none 0 0, .bool false] 24))
  have hB := HB.out.size
  have b9 := bl_newZ w3 (.cells #[.slice none 0 0, .bool false] 24)
  replace V := Lib.hid (Chgs.later V.out b9)
  replace T := Lib.hid (Tab.later T.out b9)
  replace HB := Lib.hid (below2Z HB.out b9)
  clear b9 V
  generalize w3.alloc (.cells #[.slice none 0 0, .bool false] 24) = W0 at HQB T HB ⊢
  generalize w3.heap.size = B at HQB hB ⊢
  go_loopw [9, 10, 11] (fun o9 o10 i wr => ∃ (k : Nat) (told now : List Row) (ql : List Chg) (n : Nat) (aq : Option Addr) (cq : Nat), k ≤ l.length ∧ i = .int .i64 k ∧ Hid (QKeep told now ql room k) ∧ Hid (ql.length = n) ∧ Hid (ShortC ql) ∧ Hid (Chgs wr (.slice aq n cq) ql) ∧ Hid (wr.heap[B]? = some (.cells #[.slice aq n cq, .bool false] 24 (0, 0))) ∧ Hid (Tab wr o9 told) ∧ Hid (Tab wr o10 now) ∧ Hid (Below w.heap.size w wr)) (fun _ _ i _ => l.length - (intOf i).toNat)
  case atStart => exact ⟨0, t, t, [], 0, none, 0, by omega, rfl, KK, Lib.hid rfl, Lib.hid (fun c hc => by cases hc), Lib.hid (chgs_nil _), HQB, T, T, HB⟩
  case round =>
    clear KK HQB T HB
    obtain ⟨k, told, now, ql, n, aq, cq, hk, rfl, HKP, HN, HSQ, HQ, HQB, HT, HNW, HB⟩ := hrel
    have HLN : Hid (told.length + n ≤ 92 ∧ now.length ≤ 92 ∧ n ≤ 92) := Lib.hid (by have := HKP.out.few; have := HKP.out.seen; have := HN.out; omega)
    by_cases hlt : k < l.length
    · obtain ⟨bo, oo, rfl, hrow⟩ := V0.out.row (Below.refl _ _) k hlt
      clear hrow
      obtain ⟨hs1, hs2⟩ := HCL.out.get hlt
      obtain ⟨⟨xc, xo, ⟨xa, xb, xd, xs⟩⟩, hx⟩ : ∃ r, l.getD k Chg.zero = r := ⟨_, rfl⟩
      have ROW : Hid (∀ X, Below w.heap.size w X → Cells6 X bo (oo + k * 6) ⟨xc, xo, ⟨xa, xb, xd, xs⟩⟩) := Lib.hid (fun X hX => by obtain ⟨b', o', e', hc⟩ := V0.out.row hX k hlt; simp only [Option.some.injEq, Addr.mk.injEq, and_true] at e'; obtain ⟨rfl, rfl⟩ := e'; rw [hx] at hc; exact hc)
      have hpk := RR.out k (by omega)
      obtain ⟨p, hpp⟩ : ∃ p, ns.getD k 0 = p := ⟨_, rfl⟩
      rw [hpp] at hpk
      rw [hx] at hs1 hs2
      simp only at hs1 hs2
      clear hx hpp
      have HPK := Lib.hid hpk
      clear hpk
      have HKL := Lib.hid (And.intro hk hlt)
      obtain ⟨r, hr⟩ : ∃ r, quOne ⟨xc, xo, ⟨xa, xb, xd, xs⟩⟩ = r := ⟨_, rfl⟩
      cases r
      · have HO := Lib.hid hr
        clear hr
        obtain ⟨h0, h1, h2, h3, h4, h5⟩ := ROW.out _ HB.out
        go_wp2_with fail
        clear h0 h1 h2 h3 h4 h5
        refine (rquone_any xc xs xo xa xb xd hs1 hs2 HO _).mono ?_
        rintro e w21 ⟨rfl, b21⟩
        replace HQ := Lib.hid (Chgs.later HQ.out b21)
        replace HQB := Lib.hid (upQ HQB.out b21)
        replace HT := Lib.hid (Tab.later HT.out b21)
        replace HNW := Lib.hid (Tab.later HNW.out b21)
        replace HB := Lib.hid (below2Z HB.out b21)
        clear b21
        go_wp2_with fail
        refine (live17 _).mono ?_
        rintro e w22 ⟨rfl, b22⟩
        replace HQ := Lib.hid (Chgs.later HQ.out b22)
        replace HQB := Lib.hid (upQ HQB.out b22)
        replace HT := Lib.hid (Tab.later HT.out b22)
        replace HNW := Lib.hid (Tab.later HNW.out b22)
        replace HB := Lib.hid (below2Z HB.out b22)
        clear b22
        go_wp2_with fail
        go_ret
        exact ⟨rfl, HB.out⟩
      · have HO := Lib.hid hr
        clear hr
        by_cases hp20 : 20 < p
        · have u3 : decide (20 < p) = true := decide_eq_true hp20
          clear hp20
          obtain ⟨h0, h1, h2, h3, h4, h5⟩ := ROW.out _ HB.out
          go_wp2_with fail
          clear h0 h1 h2 h3 h4 h5
          refine (rquone_any xc xs xo xa xb xd hs1 hs2 HO _).mono ?_
          rintro e w21 ⟨rfl, b21⟩
          replace HQ := Lib.hid (Chgs.later HQ.out b21)
          replace HQB := Lib.hid (upQ HQB.out b21)
          replace HT := Lib.hid (Tab.later HT.out b21)
          replace HNW := Lib.hid (Tab.later HNW.out b21)
          replace HB := Lib.hid (below2Z HB.out b21)
          clear b21
          have pk := cell_later HPK.out HB.out
          go_wp2_with fail
          clear pk
          refine (live17 _).mono ?_
          rintro e w22 ⟨rfl, b22⟩
          replace HQ := Lib.hid (Chgs.later HQ.out b22)
          replace HQB := Lib.hid (upQ HQB.out b22)
          replace HT := Lib.hid (Tab.later HT.out b22)
          replace HNW := Lib.hid (Tab.later HNW.out b22)
          replace HB := Lib.hid (below2Z HB.out b22)
          clear b22
          go_wp2_with fail
          go_ret
          exact ⟨rfl, HB.out⟩
        · have u3 : decide (20 < p) = false := decide_eq_false hp20
          obtain ⟨h0, h1, h2, h3, h4, h5⟩ := ROW.out _ HB.out
          go_wp2_with fail
          clear h0 h1 h2 h3 h4 h5
          refine (rquone_any xc xs xo xa xb xd hs1 hs2 HO _).mono ?_
          rintro e w31 ⟨rfl, b31⟩
          replace HQ := Lib.hid (Chgs.later HQ.out b31)
          replace HQB := Lib.hid (upQ HQB.out b31)
          replace HT := Lib.hid (Tab.later HT.out b31)
          replace HNW := Lib.hid (Tab.later HNW.out b31)
          replace HB := Lib.hid (below2Z HB.out b31)
          clear b31
          have pk := cell_later HPK.out HB.out
          have HP20 := Lib.hid hp20
          clear hp20
          go_upto_region 14 with fail
          clear pk u3
          have s0 : ∀ X, rowHeld X bo (oo + k * 6) ⟨xc, xo, ⟨xa, xb, xd, xs⟩⟩ → X.cell? ⟨bo, oo + k * 6, none⟩ = some (.string ⟨xc.toArray⟩) := fun X hX => hX.1
          have s1 : ∀ X, rowHeld X bo (oo + k * 6) ⟨xc, xo, ⟨xa, xb, xd, xs⟩⟩ → X.cell? ⟨bo, oo + k * 6 + 1, none⟩ = some (.bool xo) := fun X hX => hX.2.1
          have s2 : ∀ X, rowHeld X bo (oo + k * 6) ⟨xc, xo, ⟨xa, xb, xd, xs⟩⟩ → X.cell? ⟨bo, oo + k * 6 + 2, none⟩ = some (.int .i64 xa) := fun X hX => hX.2.2.1
          have s3 : ∀ X, rowHeld X bo (oo + k * 6) ⟨xc, xo, ⟨xa, xb, xd, xs⟩⟩ → X.cell? ⟨bo, oo + k * 6 + 3, none⟩ = some (.int .i64 xb) := fun X hX => hX.2.2.2.1
          have s4 : ∀ X, rowHeld X bo (oo + k * 6) ⟨xc, xo, ⟨xa, xb, xd, xs⟩⟩ → X.cell? ⟨bo, oo + k * 6 + 4, none⟩ = some (.int .i64 xd) := fun X hX => hX.2.2.2.2.1
          have s5 : ∀ X, rowHeld X bo (oo + k * 6) ⟨xc, xo, ⟨xa, xb, xd, xs⟩⟩ → X.cell? ⟨bo, oo + k * 6 + 5, none⟩ = some (.string ⟨xs.toArray⟩) := fun X hX => hX.2.2.2.2.2
          have SSB : Hid (∀ X, Below w.heap.size w X → rowHeld X bo (oo + k * 6) ⟨xc, xo, ⟨xa, xb, xd, xs⟩⟩) := Lib.hid (fun X hX => ROW.out X hX)
          refine wp_region_held_drew (S := (fun X => rowHeld X bo (oo + k * 6) ⟨xc, xo, ⟨xa, xb, xd, xs⟩⟩)) (by kernel_rfl) ?_ (fun hHeld => ?_)
          · exact SSB.out _ HB.out.drew
          have bd : Below w31.heap.size w31 w31.drew := (Below.refl _ _).drew
          replace HQ := Lib.hid (Chgs.later HQ.out bd)
          replace HQB := Lib.hid (upQ HQB.out bd)
          replace HT := Lib.hid (Tab.later HT.out bd)
          replace HNW := Lib.hid (Tab.later HNW.out bd)
          replace HB := Lib.hid (below2Z HB.out bd)
          clear bd
          generalize w31.drew = z0 at HQ HQB HT HNW HB hHeld ⊢
          refine wpAnyH_take (i := 1) (oi := { dst := some 74, op := Op.move (Operand.tmp 1), type := 22, pos := "law.go:98", after := #[], guard := none }) (v := ?_) rfl (by as_aux_lemma => kernel_rfl) (by as_aux_lemma => kernel_rfl) (by as_aux_lemma => kernel_rfl) (fun _ _ _ h => h) (Or.inl ⟨by rfl, ?_⟩) (by assumption) ?_
          rotate_left
          · intro w' hSw
            try dsimp only at hSw
            go_simp
            try with_reducible rfl
          try simp only [Act.put, List.setIfInBounds_toArray, List.set_cons_zero, List.set_cons_succ]
          refine wpAnyH_take (i := 2) (oi := { dst := some 75, op := Op.move (Operand.tmp 11), type := 3, pos := "law.go:98", after := #[], guard := none }) (v := ?_) rfl (by as_aux_lemma => kernel_rfl) (by as_aux_lemma => kernel_rfl) (by as_aux_lemma => kernel_rfl) (fun _ _ _ h => h) (Or.inl ⟨by rfl, ?_⟩) (by assumption) ?_
          rotate_left
          · intro w' hSw
            try dsimp only at hSw
            go_simp
            try with_reducible rfl
          try simp only [Act.put, List.setIfInBounds_toArray, List.set_cons_zero, List.set_cons_succ]
          refine wpAnyH_take (i := 5) (oi := { dst := some 78, op := Op.move (Operand.tmp 7), type := 3, pos := "law.go:98", after := #[], guard := none }) (v := ?_) rfl (by as_aux_lemma => kernel_rfl) (by as_aux_lemma => kernel_rfl) (by as_aux_lemma => kernel_rfl) (fun _ _ _ h => h) (Or.inl ⟨by rfl, ?_⟩) (by assumption) ?_
          rotate_left
          · intro w' hSw
            try dsimp only at hSw
            go_simp
            try with_reducible rfl
          try simp only [Act.put, List.setIfInBounds_toArray, List.set_cons_zero, List.set_cons_succ]
          refine wpAnyH_take (i := 3) (oi := { dst := some 76, op := Op.indexAddr 22 (Operand.tmp 74) (Operand.tmp 75), type := 0, pos := "law.go:98", after := #[{ on := 1, ground := Ground.data }, { on := 2, ground := Ground.data }], guard := none }) (v := ?_) rfl (by as_aux_lemma => kernel_rfl) (by as_aux_lemma => kernel_rfl) (by as_aux_lemma => kernel_rfl) (fun _ _ _ h => h) (Or.inl ⟨by rfl, ?_⟩) (by assumption) ?_
          rotate_left
          · intro w' hSw
            try dsimp only at hSw
            go_simp
            try with_reducible rfl
          try simp only [Act.put, List.setIfInBounds_toArray, List.set_cons_zero, List.set_cons_succ]
          refine wpAnyH_take (i := 4) (oi := { dst := some 77, op := Op.load 33 (Operand.tmp 76), type := 33, pos := "law.go:98", after := #[{ on := 3, ground := Ground.data }], guard := none }) (v := ?_) rfl (by as_aux_lemma => kernel_rfl) (by as_aux_lemma => kernel_rfl) (by as_aux_lemma => kernel_rfl) (fun _ _ _ h => h) (Or.inl ⟨by rfl, ?_⟩) (by assumption) ?_
          rotate_left
          · intro w' hSw
            try dsimp only at hSw
            go_simp
            try with_reducible rfl
          try simp only [Act.put, List.setIfInBounds_toArray, List.set_cons_zero, List.set_cons_succ]
          obtain ⟨⟨q0, q1⟩, f0, f1⟩ := twoQ HQB.out
          refine wpAnyH_ready (rs := [0]) (by as_aux_lemma => kernel_rfl) (by simp) ?_
          refine AllReadyH.cons (o := { dst := some 73, op := Op.load 24 (Operand.tmp 8), type := 24, pos := "law.go:98", after := #[], guard := none }) rfl (fun Kx hK => ?_) AllReadyH.nil
          go_simp
          refine hK.out _ _ ?_ (fun hHeld2 => ?_)
          · exact SSB.out _ HB.out
          clear hK Kx hHeld
          have hHeld := hHeld2
          clear hHeld2
          try simp only [Act.put, List.setIfInBounds_toArray, List.set_cons_zero, List.set_cons_succ]
          clear q0 q1 f0 f1
          obtain ⟨⟨pl, pa⟩, hpush⟩ : ∃ q, quPush ⟨ql, false⟩ ⟨xc, xo, ⟨xa, xb, xd, xs⟩⟩ room = q := ⟨_, rfl⟩
          have HPU := Lib.hid hpush
          obtain ⟨m, hm⟩ : ∃ m, pl.length = m := ⟨_, rfl⟩
          have HM := Lib.hid hm
          clear hpush hm
          refine wpAnyH_ready (rs := [6]) (by as_aux_lemma => kernel_rfl) (by simp) ?_
          refine AllReadyH.cons (o := { dst := some 79, op := Op.call { callee := Callee.value (Operand.func 27), args := #[Operand.tmp 73, Operand.tmp 77, Operand.tmp 78], argTypes := #[24, 33, 3] }, type := 24, pos := "law.go:98", after := #[{ on := 0, ground := Ground.data }, { on := 4, ground := Ground.data }, { on := 5, ground := Ground.data }], guard := none }) rfl (fun Kx hK => ?_) AllReadyH.nil
          go_simp
          refine (qupush_any HQ.out (by have := HLN.out; have := HN.out; omega) false xc xs xo xa xb xd room HPU).mono ?_
          rintro e z1 ⟨u1, rfl, hu1, bz⟩
          obtain ⟨a1, c1, rfl⟩ := chgs_shape hu1 HM.out
          have UP := Lib.hid hu1
          replace HQ := Lib.hid (Chgs.later HQ.out bz)
          replace HQB := Lib.hid (upQ HQB.out bz)
          replace HT := Lib.hid (Tab.later HT.out bz)
          replace HNW := Lib.hid (Tab.later HNW.out bz)
          replace HB := Lib.hid (below2Z HB.out bz)
          clear bz hu1
          go_wp2_with fail
          refine hK.out _ _ ?_ (fun hHeld2 => ?_)
          · exact SSB.out _ HB.out
          clear hK Kx hHeld
          have hHeld := hHeld2
          clear hHeld2
          try simp only [Act.put, List.setIfInBounds_toArray, List.set_cons_zero, List.set_cons_succ]
          obtain ⟨⟨q0, q1⟩, f0, f1⟩ := twoQ HQB.out
          refine wpAnyH_ready (rs := [7]) (by as_aux_lemma => kernel_rfl) (by simp) ?_
          refine AllReadyH.cons (o := { dst := none, op := Op.store 24 (Operand.tmp 8) (Operand.tmp 79), type := 0, pos := "law.go:98", after := #[{ on := 6, ground := Ground.data }, { on := 6, ground := Ground.chain }, { on := 0, ground := Ground.phase }, { on := 1, ground := Ground.phase }, { on := 2, ground := Ground.phase }, { on := 3, ground := Ground.phase }, { on := 4, ground := Ground.phase }, { on := 5, ground := Ground.phase }, { on := 6, ground := Ground.phase }], guard := none }) rfl (fun Kx hK => ?_) AllReadyH.nil
          go_simp
          clear q0 q1 f0 f1
          replace HQ := Lib.hid (chgs_far (x' := .slice a1 m c1) (y' := .bool pa) HQ.out HQB.out)
          replace UP := Lib.hid (chgs_far (x' := .slice a1 m c1) (y' := .bool pa) UP.out HQB.out)
          replace HT := Lib.hid (tab_far (x' := .slice a1 m c1) (y' := .bool pa) HT.out HQB.out)
          replace HNW := Lib.hid (tab_far (x' := .slice a1 m c1) (y' := .bool pa) HNW.out HQB.out)
          replace HB := Lib.hid ((HB.out.setCell (p := ⟨B, 0, none⟩) hB (.slice a1 m c1)).setCell (p := ⟨B, 1, none⟩) hB (.bool pa))
          replace HQB := Lib.hid (que_set (y0 := .slice a1 m c1) (y1 := .bool pa) HQB.out)
          generalize (z1.setCell ⟨B, 0, none⟩ (.slice a1 m c1)).setCell ⟨B, 1, none⟩ (.bool pa) = z2 at HQ UP HT HNW HB HQB hK ⊢
          refine hK.out _ _ ?_ (fun hHeld2 => ?_)
          · exact SSB.out _ HB.out
          clear hK Kx hHeld
          have hHeld := hHeld2
          clear hHeld2
          try simp only [Act.put, List.setIfInBounds_toArray, List.set_cons_zero, List.set_cons_succ]
          refine wpAnyH_done (by kernel_rfl) ?_ _
          clear hHeld SSB s0 s1 s2 s3 s4 s5 HQ
          obtain ⟨h0, h1, h2, h3, h4, h5⟩ := ROW.out _ HB.out
          go_wp2_with fail
          clear h0 h1 h2 h3 h4 h5
          refine (set_tab HNW.out (by have := HLN.out; omega) xc xs xo xa xb xd).mono ?_
          rintro e w32 ⟨vn, rfl, hvn, b32⟩
          replace UP := Lib.hid (Chgs.later UP.out b32)
          replace HQB := Lib.hid (upQ HQB.out b32)
          replace HT := Lib.hid (Tab.later HT.out b32)
          replace HNW := Lib.hid (Tab.later HNW.out b32)
          replace HB := Lib.hid (below2Z HB.out b32)
          clear b32
          replace HNW := Lib.hid hvn
          clear hvn
          cases pa
          · have HKP1 := Lib.hid (qkeep_push HKP.out HO.out HPU.out)
            obtain ⟨now1, hnow1⟩ : ∃ z, diSet now ⟨xc, xo, ⟨xa, xb, xd, xs⟩⟩ = z := ⟨_, rfl⟩
            rw [hnow1] at HKP1 HNW
            have HSP : Hid (ShortC pl) := Lib.hid (push_shortC HSQ.out ⟨hs1, hs2⟩ HPU.out)
            clear hnow1 HPU HKP HSQ HN HLN
            obtain ⟨⟨q0, q1⟩, f0, f1⟩ := twoQ HQB.out
            go_wp2_with fail
            clear q0 q1 f0 f1
            go_loopw [9, 12] (fun o9 i wr => ∃ (j : Nat) (told : List Row) (ql : List Chg) (n : Nat) (aq : Option Addr) (cq : Nat), j ≤ 20 ∧ i = .int .i64 j ∧ Hid (QKeep told now1 ql room (k + 1)) ∧ Hid (ql.length = n) ∧ Hid (ShortC ql) ∧ Hid (Chgs wr (.slice aq n cq) ql) ∧ Hid (wr.heap[B]? = some (.cells #[.slice aq n cq, .bool false] 24 (0, 0))) ∧ Hid (Tab wr o9 told) ∧ Hid (Tab wr vn now1) ∧ Hid (Below w.heap.size w wr)) (fun _ i _ => 20 - (intOf i).toNat)
            case atStart => exact ⟨0, told, pl, m, a1, c1, by omega, rfl, HKP1, HM, HSP, UP, HQB, HT, HNW, HB⟩
            case round =>
              clear HKP1 HM HSP UP HQB HT HNW HB
              skip
              obtain ⟨j, told, ql, n, aq, cq, hj, rfl, HKP, HN, HSQ, HQ, HQB, HT, HNW, HB⟩ := hrel
              have HLN : Hid (told.length + n ≤ 93 ∧ n ≤ 93) := Lib.hid (by have := HKP.out.few; have := HN.out; have := HKL.out; omega)
              by_cases hjp : (j : Int) < p
              · have u4 : decide ((j : Int) < p) = true := decide_eq_true hjp
                cases ql with
                | nil =>
                  obtain rfl : 0 = n := HN.out
                  have HP := Lib.hid (show quPop ⟨([] : List Chg), false⟩ = (⟨[], false, ⟨0, 0, 0, []⟩⟩, ⟨[], false⟩, false) from rfl)
                  have pk := cell_later HPK.out HB.out
                  obtain ⟨⟨q0, q1⟩, f0, f1⟩ := twoQ HQB.out
                  go_wp2_with fail
                  clear pk q0 q1 f0 f1
                  refine (qupop_any HQ.out (by have := HLN.out; have := HN.out; omega) false HP).mono ?_
                  rintro e w81 ⟨u3, rfl, hu3, b81⟩
                  replace HQ := Lib.hid (Chgs.later HQ.out b81)
                  replace HQB := Lib.hid (upQ HQB.out b81)
                  replace HT := Lib.hid (Tab.later HT.out b81)
                  replace HNW := Lib.hid (Tab.later HNW.out b81)
                  replace HB := Lib.hid (below2Z HB.out b81)
                  obtain ⟨a3, c3, rfl⟩ := chgs_shape (n := 0) hu3 rfl
                  have U3 := Lib.hid hu3
                  clear hu3
                  clear b81
                  have b82 := bl_newZ w81 (.cells #[.string ⟨#[]⟩, .bool false, .int .i64 0, .int .i64 0, .int .i64 0, .string ⟨#[]⟩] 33)
                  have C6 := Lib.hid (cellsAt_made (w := w81) (cs := #[.string ⟨#[]⟩, .bool false, .int .i64 0, .int .i64 0, .int .i64 0, .string ⟨#[]⟩]) (vs := [.string ⟨#[]⟩, .bool false, .int .i64 0, .int .i64 0, .int .i64 0, .string ⟨#[]⟩]) rfl 33 rfl)
                  replace HQ := Lib.hid (Chgs.later HQ.out b82)
                  replace HQB := Lib.hid (upQ HQB.out b82)
                  replace HT := Lib.hid (Tab.later HT.out b82)
                  replace HNW := Lib.hid (Tab.later HNW.out b82)
                  replace U3 := Lib.hid (Chgs.later U3.out b82)
                  replace HB := Lib.hid (below2Z HB.out b82)
                  clear b82
                  have b83 := bl_newZ (w81.alloc (.cells #[.string ⟨#[]⟩, .bool false, .int .i64 0, .int .i64 0, .int .i64 0, .string ⟨#[]⟩] 33)) (.cells #[.slice a3 0 c3, .bool false] 24)
                  have C2 := Lib.hid (cellsAt_made (w := (w81.alloc (.cells #[.string ⟨#[]⟩, .bool false, .int .i64 0, .int .i64 0, .int .i64 0, .string ⟨#[]⟩] 33))) (cs := #[.slice a3 0 c3, .bool false]) (vs := [.slice a3 0 c3, .bool false]) rfl 24 (B := w81.heap.size + 1) (by simp))
                  replace HQ := Lib.hid (Chgs.later HQ.out b83)
                  replace HQB := Lib.hid (upQ HQB.out b83)
                  replace HT := Lib.hid (Tab.later HT.out b83)
                  replace HNW := Lib.hid (Tab.later HNW.out b83)
                  replace U3 := Lib.hid (Chgs.later U3.out b83)
                  replace C6 := Lib.hid (CellsAt.later C6.out b83)
                  replace HB := Lib.hid (below2Z HB.out b83)
                  clear b83
                  go_upto_region 22 with fail
                  generalize (w81.alloc (.cells #[.string ⟨#[]⟩, .bool false, .int .i64 0, .int .i64 0, .int .i64 0, .string ⟨#[]⟩] 33)).alloc (.cells #[.slice a3 0 c3, .bool false] 24) = zq at HQ HQB HT HNW U3 C6 C2 HB ⊢
                  generalize w81.heap.size = BC at C6 C2 ⊢
                  obtain ⟨⟨q0, q1⟩, f0, f1⟩ := twoQ HQB.out
                  obtain ⟨e0, e1⟩ := twoAt C2.out
                  go_wp2_with fail
                  clear q0 q1 f0 f1 e0 e1
                  replace U3 := Lib.hid (chgs_far (x' := .slice a3 0 c3) (y' := .bool false) U3.out HQB.out)
                  replace HT := Lib.hid (tab_far (x' := .slice a3 0 c3) (y' := .bool false) HT.out HQB.out)
                  replace HNW := Lib.hid (tab_far (x' := .slice a3 0 c3) (y' := .bool false) HNW.out HQB.out)
                  replace HB := Lib.hid ((HB.out.setCell (p := ⟨B, 0, none⟩) hB (.slice a3 0 c3)).setCell (p := ⟨B, 1, none⟩) hB (.bool false))
                  replace HQB := Lib.hid (que_set (y0 := .slice a3 0 c3) (y1 := .bool false) HQB.out)
                  go_roundw
                  case rel => exact ⟨j + 1, _, [], 0, a3, c3, by have := HP20.out; omega, by go_num, HKP, Lib.hid rfl, HSQ, U3, HQB, HT, HNW, HB⟩
                  case measure => have := HP20.out; simp [intOf]; omega
                | cons y1 q3 =>
                  obtain ⟨n0, hn0⟩ : ∃ n, q3.length = n := ⟨_, rfl⟩
                  obtain rfl : n0 + 1 = n := by rw [← hn0]; exact HN.out
                  obtain ⟨yc, yo, ⟨ya, yb, yd, ys⟩⟩ := y1
                  have HP := Lib.hid (show quPop ⟨⟨yc, yo, ⟨ya, yb, yd, ys⟩⟩ :: q3, false⟩ = (⟨yc, yo, ⟨ya, yb, yd, ys⟩⟩, ⟨q3, false⟩, true) from rfl)
                  have HN0 := Lib.hid hn0
                  clear hn0
                  have u6 : decide (0 < n0 + 1) = true := decide_eq_true (by omega)
                  have pk := cell_later HPK.out HB.out
                  obtain ⟨⟨q0, q1⟩, f0, f1⟩ := twoQ HQB.out
                  go_wp2_with fail
                  clear pk q0 q1 f0 f1
                  refine (qupop_any HQ.out (by have := HLN.out; have := HN.out; omega) false HP).mono ?_
                  rintro e w81 ⟨u3, rfl, hu3, b81⟩
                  replace HQ := Lib.hid (Chgs.later HQ.out b81)
                  replace HQB := Lib.hid (upQ HQB.out b81)
                  replace HT := Lib.hid (Tab.later HT.out b81)
                  replace HNW := Lib.hid (Tab.later HNW.out b81)
                  replace HB := Lib.hid (below2Z HB.out b81)
                  obtain ⟨a3, c3, rfl⟩ := chgs_shape (n := n0) hu3 HN0.out
                  have U3 := Lib.hid hu3
                  clear hu3
                  clear b81
                  have b82 := bl_newZ w81 (.cells #[.string ⟨yc.toArray⟩, .bool yo, .int .i64 ya, .int .i64 yb, .int .i64 yd, .string ⟨ys.toArray⟩] 33)
                  have C6 := Lib.hid (cellsAt_made (w := w81) (cs := #[.string ⟨yc.toArray⟩, .bool yo, .int .i64 ya, .int .i64 yb, .int .i64 yd, .string ⟨ys.toArray⟩]) (vs := [.string ⟨yc.toArray⟩, .bool yo, .int .i64 ya, .int .i64 yb, .int .i64 yd, .string ⟨ys.toArray⟩]) rfl 33 rfl)
                  replace HQ := Lib.hid (Chgs.later HQ.out b82)
                  replace HQB := Lib.hid (upQ HQB.out b82)
                  replace HT := Lib.hid (Tab.later HT.out b82)
                  replace HNW := Lib.hid (Tab.later HNW.out b82)
                  replace U3 := Lib.hid (Chgs.later U3.out b82)
                  replace HB := Lib.hid (below2Z HB.out b82)
                  clear b82
                  have b83 := bl_newZ (w81.alloc (.cells #[.string ⟨yc.toArray⟩, .bool yo, .int .i64 ya, .int .i64 yb, .int .i64 yd, .string ⟨ys.toArray⟩] 33)) (.cells #[.slice a3 n0 c3, .bool false] 24)
                  have C2 := Lib.hid (cellsAt_made (w := (w81.alloc (.cells #[.string ⟨yc.toArray⟩, .bool yo, .int .i64 ya, .int .i64 yb, .int .i64 yd, .string ⟨ys.toArray⟩] 33))) (cs := #[.slice a3 n0 c3, .bool false]) (vs := [.slice a3 n0 c3, .bool false]) rfl 24 (B := w81.heap.size + 1) (by simp))
                  replace HQ := Lib.hid (Chgs.later HQ.out b83)
                  replace HQB := Lib.hid (upQ HQB.out b83)
                  replace HT := Lib.hid (Tab.later HT.out b83)
                  replace HNW := Lib.hid (Tab.later HNW.out b83)
                  replace U3 := Lib.hid (Chgs.later U3.out b83)
                  replace C6 := Lib.hid (CellsAt.later C6.out b83)
                  replace HB := Lib.hid (below2Z HB.out b83)
                  clear b83
                  go_upto_region 22 with fail
                  generalize (w81.alloc (.cells #[.string ⟨yc.toArray⟩, .bool yo, .int .i64 ya, .int .i64 yb, .int .i64 yd, .string ⟨ys.toArray⟩] 33)).alloc (.cells #[.slice a3 n0 c3, .bool false] 24) = zq at HQ HQB HT HNW U3 C6 C2 HB ⊢
                  generalize w81.heap.size = BC at C6 C2 ⊢
                  obtain ⟨⟨q0, q1⟩, f0, f1⟩ := twoQ HQB.out
                  obtain ⟨g0, g1, g2, g3, g4, g5⟩ := sixAt C6.out
                  go_wp2_with fail
                  clear q0 q1 f0 f1 g0 g1 g2 g3 g4 g5
                  refine (set_tab HT.out (by have := HLN.out; omega) yc ys yo ya yb yd).mono ?_
                  rintro e w84 ⟨vt3, rfl, ht3, b84⟩
                  replace HQ := Lib.hid (Chgs.later HQ.out b84)
                  replace HQB := Lib.hid (upQ HQB.out b84)
                  replace HT := Lib.hid (Tab.later HT.out b84)
                  replace HNW := Lib.hid (Tab.later HNW.out b84)
                  replace U3 := Lib.hid (Chgs.later U3.out b84)
                  replace C6 := Lib.hid (CellsAt.later C6.out b84)
                  replace C2 := Lib.hid (CellsAt.later C2.out b84)
                  replace HB := Lib.hid (below2Z HB.out b84)
                  replace HT := Lib.hid ht3
                  clear ht3
                  clear b84
                  obtain ⟨⟨q0, q1⟩, f0, f1⟩ := twoQ HQB.out
                  obtain ⟨e0, e1⟩ := twoAt C2.out
                  go_wp2_with fail
                  clear q0 q1 f0 f1 e0 e1
                  replace U3 := Lib.hid (chgs_far (x' := .slice a3 n0 c3) (y' := .bool false) U3.out HQB.out)
                  replace HT := Lib.hid (tab_far (x' := .slice a3 n0 c3) (y' := .bool false) HT.out HQB.out)
                  replace HNW := Lib.hid (tab_far (x' := .slice a3 n0 c3) (y' := .bool false) HNW.out HQB.out)
                  replace HB := Lib.hid ((HB.out.setCell (p := ⟨B, 0, none⟩) hB (.slice a3 n0 c3)).setCell (p := ⟨B, 1, none⟩) hB (.bool false))
                  replace HQB := Lib.hid (que_set (y0 := .slice a3 n0 c3) (y1 := .bool false) HQB.out)
                  go_roundw
                  case rel => exact ⟨j + 1, _, q3, n0, a3, c3, by have := HP20.out; omega, by go_num, Lib.hid (qkeep_pop HKP.out), HN0, Lib.hid (fun y hy => HSQ.out y (List.mem_cons_of_mem _ hy)), U3, HQB, HT, HNW, HB⟩
                  case measure => have := HP20.out; simp [intOf]; omega
              · have u4 : decide ((j : Int) < p) = false := decide_eq_false hjp
                have HJ := hjp
                clear hjp HJ
                have pk := cell_later HPK.out HB.out
                obtain ⟨⟨q0, q1⟩, f0, f1⟩ := twoQ HQB.out
                go_wp2_with fail
                clear pk q0 q1 f0 f1
                refine (quover_any HT.out (by have := HLN.out; omega) HQ.out (by have := HLN.out; have := HN.out; omega) false).mono ?_
                rintro e w91 ⟨vo, rfl, hvo, b91⟩
                replace HQ := Lib.hid (Chgs.later HQ.out b91)
                replace HQB := Lib.hid (upQ HQB.out b91)
                replace HT := Lib.hid (Tab.later HT.out b91)
                replace HNW := Lib.hid (Tab.later HNW.out b91)
                replace HB := Lib.hid (below2Z HB.out b91)
                have UO := Lib.hid (show Tab _ vo now1 from by have := HKP.out.over; rw [this] at hvo; exact hvo)
                clear hvo
                clear b91
                go_wp2_with fail
                refine (tsame_eq (UO.out) HNW.out (Lib.hid (tSame_iff.2 rfl))).mono ?_
                rintro e w92 ⟨rfl, b92⟩
                replace HQ := Lib.hid (Chgs.later HQ.out b92)
                replace HQB := Lib.hid (upQ HQB.out b92)
                replace HT := Lib.hid (Tab.later HT.out b92)
                replace HNW := Lib.hid (Tab.later HNW.out b92)
                replace HB := Lib.hid (below2Z HB.out b92)
                clear b92
                clear UO
                go_wp2_with fail
                go_roundw
                case rel => exact ⟨k + 1, told, now1, ql, n, aq, cq, by have := HKL.out; omega, by go_num, HKP, HN, HSQ, HQ, HQB, HT, HNW, HB⟩
                case measure => have := HKL.out; simp [intOf]; omega
          · obtain rfl : pl = [] := push_latN HPU.out
            obtain rfl : 0 = m := HM.out
            obtain ⟨⟨q0, q1⟩, f0, f1⟩ := twoQ HQB.out
            go_wp2_with fail
            clear q0 q1 f0 f1
            refine (live17 _).mono ?_
            rintro e w111 ⟨rfl, b111⟩
            replace UP := Lib.hid (Chgs.later UP.out b111)
            replace HQB := Lib.hid (upQ HQB.out b111)
            replace HT := Lib.hid (Tab.later HT.out b111)
            replace HNW := Lib.hid (Tab.later HNW.out b111)
            replace HB := Lib.hid (below2Z HB.out b111)
            clear b111
            go_wp2_with fail
            go_ret
            exact ⟨rfl, HB.out⟩
    · obtain rfl : k = l.length := by omega
      clear hlt hk
      have HMAY := Lib.hid HKP.out.may
      go_upto_region 29 with fail
      obtain ⟨⟨q0, q1⟩, f0, f1⟩ := twoQ HQB.out
      go_wp2_with fail
      clear q0 q1 f0 f1
      refine (qumay_any HQ.out HSQ.out (by have := HLN.out; have := HN.out; omega) false HMAY).mono ?_
      rintro e w121 ⟨rfl, b121⟩
      replace HQ := Lib.hid (Chgs.later HQ.out b121)
      replace HQB := Lib.hid (upQ HQB.out b121)
      replace HT := Lib.hid (Tab.later HT.out b121)
      replace HNW := Lib.hid (Tab.later HNW.out b121)
      replace HB := Lib.hid (below2Z HB.out b121)
      clear b121
      cases ql with
      | nil =>
        have HE := Lib.hid (show quEmpty ⟨([] : List Chg), false⟩ = true from rfl)
        obtain rfl : 0 = n := HN.out
        obtain ⟨⟨q0, q1⟩, f0, f1⟩ := twoQ HQB.out
        go_wp2_with fail
        clear q0 q1 f0 f1
        refine (quempty_any HQ.out false HE).mono ?_
        rintro e w131 ⟨rfl, b131⟩
        replace HQ := Lib.hid (Chgs.later HQ.out b131)
        replace HQB := Lib.hid (upQ HQB.out b131)
        replace HT := Lib.hid (Tab.later HT.out b131)
        replace HNW := Lib.hid (Tab.later HNW.out b131)
        replace HB := Lib.hid (below2Z HB.out b131)
        clear b131
        go_wp2_with fail
        refine (tsame_eq HT.out HNW.out (Lib.hid (tSame_iff.2 (show told = now from HKP.out.over)))).mono ?_
        rintro e w132 ⟨rfl, b132⟩
        replace HQ := Lib.hid (Chgs.later HQ.out b132)
        replace HQB := Lib.hid (upQ HQB.out b132)
        replace HT := Lib.hid (Tab.later HT.out b132)
        replace HNW := Lib.hid (Tab.later HNW.out b132)
        replace HB := Lib.hid (below2Z HB.out b132)
        clear b132
        go_wp2_with fail
        refine (live17 _).mono ?_
        rintro e w133 ⟨rfl, b133⟩
        replace HQ := Lib.hid (Chgs.later HQ.out b133)
        replace HQB := Lib.hid (upQ HQB.out b133)
        replace HT := Lib.hid (Tab.later HT.out b133)
        replace HNW := Lib.hid (Tab.later HNW.out b133)
        replace HB := Lib.hid (below2Z HB.out b133)
        clear b133
        go_wp2_with fail
        go_ret
        exact ⟨rfl, HB.out⟩
      | cons y1 q3 =>
        have HE := Lib.hid (show quEmpty ⟨y1 :: q3, false⟩ = false from rfl)
        obtain ⟨⟨q0, q1⟩, f0, f1⟩ := twoQ HQB.out
        go_wp2_with fail
        clear q0 q1 f0 f1
        refine (quempty_any HQ.out false HE).mono ?_
        rintro e w131 ⟨rfl, b131⟩
        replace HQ := Lib.hid (Chgs.later HQ.out b131)
        replace HQB := Lib.hid (upQ HQB.out b131)
        replace HT := Lib.hid (Tab.later HT.out b131)
        replace HNW := Lib.hid (Tab.later HNW.out b131)
        replace HB := Lib.hid (below2Z HB.out b131)
        clear b131
        go_wp2_with fail
        refine (live17 _).mono ?_
        rintro e w132 ⟨rfl, b132⟩
        replace HQ := Lib.hid (Chgs.later HQ.out b132)
        replace HQB := Lib.hid (upQ HQB.out b132)
        replace HT := Lib.hid (Tab.later HT.out b132)
        replace HNW := Lib.hid (Tab.later HNW.out b132)
        replace HB := Lib.hid (below2Z HB.out b132)
        clear b132
        go_wp2_with fail
        go_ret
        exact ⟨rfl, HB.out⟩

set_option maxHeartbeats 6400000 in
set_option maxRecDepth 100000 in
theorem qla_0 {w : World} {vt v : Value} {t : List Row} {l : List Chg} (ht : Tab w vt t) (hv : Chgs w v l) (a2 : Option Addr) (m2 c2 : Nat) (ns : List Int) (hp : IsRow .i64 w a2 m2 c2 ns) (hmx : l.length = 9223372036854775807) :
    Calls Try.prog 6 #[vt, v, .slice a2 m2 c2] w fun e w' => e = .returned (.bool true) ∧ Below w.heap.size w w' := by
  obtain ⟨ao, cap, rfl, _hmx⟩ := hv.open'
  obtain ⟨at_, ct, rfl, _hmt⟩ := ht.open'
  have HB : Hid (Below w.heap.size w w) := Lib.hid (Below.refl _ _)
  have V := Lib.hid hv
  have T := Lib.hid ht
  have R := Lib.hid (row_in hp)
  clear hv ht hp
  have hm2 := R.out.1
  unfold maxLen at hm2
  have hw1 : IntKind.i64.wrap ((l.length : Int) + 1) = -9223372036854775808 := by rw [hmx]; rfl
  have u1 : ((m2 : Int) != -9223372036854775808) = true := by rw [bne_iff_ne]; omega
  clear hmx hm2
  go_enter Try.func6, Try.ntmps6
  go_wp2_with fail
  refine (live17 _).mono ?_
  rintro e w1 ⟨rfl, b1⟩
  replace V := Lib.hid (V.out.later b1)
  replace T := Lib.hid (T.out.later b1)
  replace HB := Lib.hid (below2Z HB.out b1)
  clear b1
  go_wp2_with fail
  go_ret
  exact ⟨rfl, HB.out⟩

theorem walkQueueLast {w : World} {vt v : Value} {t : List Row} {l : List Chg} (ht : Tab w vt t) (hv : Chgs w v l) (a2 : Option Addr) (m2 c2 : Nat) (ns : List Int) (hp : IsRow .i64 w a2 m2 c2 ns) :
    Calls Try.prog 6 #[vt, v, .slice a2 m2 c2] w fun e w' => e = .returned (.bool true) ∧ Below w.heap.size w w' := by
  obtain ⟨_, _, _, hmx⟩ := hv.open'
  by_cases hbig : l.length < 9223372036854775807
  · cases h1 : ((m2 : Int) != (l.length : Int) + 1) with
    | true => exact qla_1 ht hv a2 m2 c2 ns hp hbig h1
    | false =>
      cases hf : fewT t with
      | false => exact qla_2 ht hv a2 m2 c2 ns hp hbig h1 hf
      | true =>
        cases hd : diMay t with
        | false => exact qla_3 ht hv a2 m2 c2 ns hp hbig h1 hf hd
        | true =>
          cases hc : fewC l 60 with
          | false => exact qla_4 ht hv a2 m2 c2 ns hp hbig h1 hf hd hc
          | true =>
            by_cases hr1 : ns.getD l.length 0 < 1
            · exact qla_5 ht hv a2 m2 c2 ns hp hbig h1 hf hd hc hr1
            · by_cases hr2 : 16 < ns.getD l.length 0
              · exact qla_6 ht hv a2 m2 c2 ns hp hbig h1 hf hd hc hr2
              · exact qla_7 ht hv a2 m2 c2 ns hp hbig h1 hf hd hc (by omega) (by omega)
  · exact qla_0 ht hv a2 m2 c2 ns hp (by omega)

end Go.Proofs.Ythlkfbiclhgdoaa

end

section

/-
  THE FRAME OF THE PROOF OF QueueLast: for every input the law returns true, and each argument reads behind the call as it read before. No condition.
-/
namespace Go.Proofs.Ythlkfbiclhgdoaa.queueLast
open Go.ChangeShapes Go.WideShapes Go.ChangeAt Go.RowKit
open Go.ChangeMaps (open_string shut_string)
set_option linter.unusedVariables false

theorem own : ownKnob Try.prog.godebug = none := by kernel_rfl
theorem laidOut : laidOutB Try.prog = true := by kernel_rfl

set_option maxRecDepth 100000 in
theorem lifted (os : Os) (started : os.Started) (H : Type) (enc : TypeId × Value → H) :
    ReturnsInHanded {} Try.checked os 6 .any (Rows.queueLastSpec.pre6 enc Try.prog Try.f6 Rows.queueLastRow.domain false) (Rows.queueLastSpec.post enc Try.prog Try.f6 false true false false) := by
  refine returnsInHanded_of_change (C := Try.checked) own started (by kernel_rfl) Try.func6
    (ChangeSpec.witness6 (enc := enc) (C := Try.checked) false ⟨#[], #[.slice none 0 0, .slice none 0 0, .slice none 0 0], []⟩ 8 (by kernel_rfl) (by kernel_rfl) (by kernel_rfl) (by kernel_rfl)) ?_
  intro W base args ds gs before hval0 hW hcnd _
  have hval : ∀ (j : Nat) t v, Try.f6.params[j]? = some t → args[j]? = some v → Value.okWide Try.prog W .any base t v := hval0
  have hW' := hW
  obtain ⟨p, q, hA0, hV, rfl, hfz, hnd⟩ := hW
  have hA : DataW.TrodAll enc Try.prog W 0 (fun _ => true) true Try.f6.params.toList args.toList ds p := hA0
  rw [Try.params6] at hA hval
  obtain ⟨v0, vs0, d0, ds0, p0, q0, hargs, rfl, rfl, h0, r0⟩ := trodAll_cons hA
  obtain ⟨v1, vs1, d1, ds1, p1, q1, rfl, rfl, rfl, h1, r1⟩ := trodAll_cons r0
  obtain ⟨v2, vs2, d2, ds2, p2, q2, rfl, rfl, rfl, h2, r2⟩ := trodAll_cons r1
  obtain ⟨rfl, rfl, rfl⟩ := trodAll_nil r2
  obtain rfl : args = #[v0, v1, v2] := by cases args; simp_all
  obtain ⟨rfl, rfl⟩ := trodVars_none hV
  have k0 := h0
  have lt0 : ∀ x ∈ p0, x.block < W.heap.size := by obtain ⟨m, hm⟩ := k0; exact DataW.trod_lt m _ _ _ hm
  obtain ⟨l0, w0, f0⟩ := open_tab (hval 0 25 v0 rfl rfl) h0
  have k1 := h1
  have lt1 : ∀ x ∈ p1, x.block < W.heap.size := by obtain ⟨m, hm⟩ := k1; exact DataW.trod_lt m _ _ _ hm
  obtain ⟨l1, w1⟩ := open_chgs (hval 1 22 v1 rfl rfl) h1
  have k2 := h2
  have lt2 : ∀ x ∈ p2, x.block < W.heap.size := by obtain ⟨m, hm⟩ := k2; exact DataW.trod_lt m _ _ _ hm
  obtain ⟨a2, len2, cap2, rfl⟩ := okWide_slice Try.underlying46 (hval 2 46 v2 rfl rfl)
  obtain ⟨z2, w2⟩ : ∃ zs, IsRow .i64 W a2 len2 cap2 zs := by
    obtain ⟨fuel, hf⟩ := h2
    rcases open_ints Try.underlying46 Try.underlying3 (by kernel_rfl) hf with ⟨hcs, _⟩ | ⟨x, l, c, zs, hcs, _, hl, hm, hz, _, hcell, hwz⟩
    · simp [Value.cells] at hcs
      obtain ⟨rfl, rfl, rfl⟩ := hcs
      exact ⟨[], .inl ⟨rfl, rfl, rfl, rfl⟩⟩
    · simp [Value.cells] at hcs
      obtain ⟨rfl, rfl, rfl⟩ := hcs
      exact ⟨zs, .inr ⟨_, rfl, hl, hm, by simpa using hz, hcell, hwz⟩⟩
  clear hA0 hval0
  refine (walkQueueLast (w := W) w0 w1 a2 len2 cap2 z2 w2).mono fun e W' ⟨he, bel⟩ => ?_
  subst he
  exact ⟨_, rfl, _, _, _, [], _, [], hW', trodAll_mk1 (shut_bool Try.underlying4 _), (trodAll_cons_mk (Below.trod laidOut (by kernel_rfl) (of_decide_eq_true (by kernel_rfl)) k0 bel lt0) (trodAll_cons_mk (Below.trod laidOut (by kernel_rfl) (of_decide_eq_true (by kernel_rfl)) k1 bel lt1) (trodAll_cons_mk (Below.trod laidOut (by kernel_rfl) (of_decide_eq_true (by kernel_rfl)) k2 bel lt2) trodAll_mk0))), rfl, bel.frame _, fun h => by cases h⟩

theorem over : Rows.queueLastRow.holds Try.pinned (OpenSpec.ofChange Rows.queueLastSpec) :=
  OpenClaim.holds_of_wide 6 Try.f6 rfl rfl rfl rfl rfl rfl rfl ⟨rfl, rfl, rfl, rfl, rfl⟩ rfl rfl rfl rfl rfl (by kernel_rfl) Try.func6 (by kernel_rfl)
    (of_decide_eq_true (by kernel_rfl)) (by unfold Func.isWrapper; first | (rw [if_pos (by decide +kernel)]; kernel_rfl) | (rw [if_neg (by decide +kernel)]; exact ⟨rfl, rfl⟩))
    (fun os started H enc _ => lifted os started H enc)

/-- THE STATEMENT. -/
theorem proved : Rows.QueueLastSaid := over
#print axioms proved
end Go.Proofs.Ythlkfbiclhgdoaa.queueLast

end
