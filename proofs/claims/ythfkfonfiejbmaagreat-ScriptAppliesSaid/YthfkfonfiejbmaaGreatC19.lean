/-
  TEXTS OF THE PROOF, one behind the other: SesPutC, SesDropC, StaDo.
-/
import Derived.Test.YthfkfonfiejbmaaGreatC18
import Derived.Test.YthfkfonfiejbmaaGreatC08
import Derived.Test.YthfkfonfiejbmaaGreatC07
import Derived.Test.YthfkfonfiejbmaaGreatC15

set_option linter.unusedVariables false

section

/-
  LAYER 9, THE CODE: Put.
-/
namespace Go.Proofs.YthfkfonfiejbmaaGreat
open Go.RowKit

/-- Six cells of a block. -/
def SixS (X : World) (b : Nat) (u st : List UInt8) (i a c d : Int) : Prop :=
  X.cell? ⟨b, 0, none⟩ = some (.string ⟨u.toArray⟩) ∧ X.cell? ⟨b, 1, none⟩ = some (.int .i64 i) ∧ X.cell? ⟨b, 2, none⟩ = some (.int .i64 a) ∧ X.cell? ⟨b, 3, none⟩ = some (.int .i64 c) ∧ X.cell? ⟨b, 4, none⟩ = some (.int .i64 d) ∧ X.cell? ⟨b, 5, none⟩ = some (.string ⟨st.toArray⟩)

theorem sixS_of {X : World} {b : Nat} {u st : List UInt8} {i a c d : Int} (h : CellsAt X b 0 (sesVals ⟨u, i, ⟨a, c, d, st⟩⟩)) : SixS X b u st i a c d := by
  obtain ⟨h0, h1, h2, h3, h4, h5⟩ := cells6 h
  simp only [Nat.zero_add] at h0 h1 h2 h3 h4 h5
  exact ⟨h0, h1, h2, h3, h4, h5⟩

theorem sixS_up {X X' : World} {b : Nat} {u st : List UInt8} {i a c d : Int} (hb : Below X.heap.size X X') (h : SixS X b u st i a c d) : SixS X' b u st i a c d := by
  have up : ∀ {j : Nat} {v : Value}, X.cell? ⟨b, j, none⟩ = some v → X'.cell? ⟨b, j, none⟩ = some v := fun hv => (hb.cell (World.block_lt_of_cell? _ _ hv)).trans hv
  exact ⟨up h.1, up h.2.1, up h.2.2.1, up h.2.2.2.1, up h.2.2.2.2.1, up h.2.2.2.2.2⟩

theorem sixS_low {X X' : World} {base b : Nat} {u st : List UInt8} {i a c d : Int} (hb : Below base X X') (hlt : b < base) (h : SixS X b u st i a c d) : SixS X' b u st i a c d := by
  have up : ∀ {j : Nat} {v : Value}, X.cell? ⟨b, j, none⟩ = some v → X'.cell? ⟨b, j, none⟩ = some v := fun hv => (hb.cell hlt).trans hv
  exact ⟨up h.1, up h.2.1, up h.2.2.1, up h.2.2.2.1, up h.2.2.2.2.1, up h.2.2.2.2.2⟩

/-- A session stored, cell by cell. -/
theorem ses_store {w : World} {base g n cap : Nat} {l : List Ses} (h : OwnSes w base (.slice (some ⟨g, 0, none⟩) n cap) l) {i : Nat} (hi : i < l.length) (u st : List UInt8) (id a b c : Int) :
    OwnSes ((((((w.setCell ⟨g, i * 6, none⟩ (.string ⟨u.toArray⟩)).setCell ⟨g, i * 6 + 1, none⟩ (.int .i64 id)).setCell ⟨g, i * 6 + 2, none⟩ (.int .i64 a)).setCell ⟨g, i * 6 + 3, none⟩ (.int .i64 b)).setCell ⟨g, i * 6 + 4, none⟩ (.int .i64 c)).setCell ⟨g, i * 6 + 5, none⟩ (.string ⟨st.toArray⟩)) base (.slice (some ⟨g, 0, none⟩) n cap) (l.set i ⟨u, id, ⟨a, b, c, st⟩⟩) :=
  ownS_set sesOK h hi ⟨u, id, ⟨a, b, c, st⟩⟩

theorem below_store6 {w0 w : World} {base g : Nat} (h : Below base w0 w) (hg : base ≤ g) (a0 a1 a2 a3 a4 a5 : Nat) (v0 v1 v2 v3 v4 v5 : Value) :
    Below base w0 ((((((w.setCell ⟨g, a0, none⟩ v0).setCell ⟨g, a1, none⟩ v1).setCell ⟨g, a2, none⟩ v2).setCell ⟨g, a3, none⟩ v3).setCell ⟨g, a4, none⟩ v4).setCell ⟨g, a5, none⟩ v5) :=
  (((((h.setCell hg _).setCell hg _).setCell hg _).setCell hg _).setCell hg _).setCell hg _

set_option maxHeartbeats 3200000 in
set_option maxRecDepth 100000 in
theorem sput_a {w : World} {v : Value} {l : List Ses} (hv : Sess w v l) (hs : ShortS l) (u st : List UInt8) (id a b c : Int) (_hu : u.length ≤ 4294967296) (_hst : st.length ≤ 4294967296) (h : seMay l = false) :
    Calls Tryz.prog 29 #[v, .agg #[.string ⟨u.toArray⟩, .int .i64 id, .int .i64 a, .int .i64 b, .int .i64 c, .string ⟨st.toArray⟩]] w fun e w' => e = .returned (.tuple #[v, .int .i64 1]) ∧ Below w.heap.size w w' := by
  have bn := bl_newZ w (.cells #[.string ⟨u.toArray⟩, .int .i64 id, .int .i64 a, .int .i64 b, .int .i64 c, .string ⟨st.toArray⟩] 62)
  have B0 := Lib.hid bn
  have C0 := Lib.hid (cellsAt_made (w := w) (cs := #[.string ⟨u.toArray⟩, .int .i64 id, .int .i64 a, .int .i64 b, .int .i64 c, .string ⟨st.toArray⟩]) (vs := sesVals ⟨u, id, ⟨a, b, c, st⟩⟩) rfl 62 rfl)
  have V0 := Lib.hid (hv.later bn)
  have HM := Lib.hid (smay9_any V0.out hs (Lib.hid h))
  obtain ⟨ao, cap, rfl, _⟩ := hv.open'
  clear hv bn h hs
  go_enter Tryz.func29, Tryz.ntmps29
  go_wp2_with fail
  refine HM.out.mono ?_
  rintro e w1 ⟨rfl, b1⟩
  have B1 := Lib.hid (below2Z B0.out b1)
  clear b1
  go_wp2_with fail
  go_ret2
  exact ⟨rfl, B1.out⟩

set_option maxHeartbeats 3200000 in
set_option maxRecDepth 100000 in
theorem sput_b {w : World} {v : Value} {l : List Ses} (hv : Sess w v l) (hs : ShortS l) (u st : List UInt8) (id a b c : Int) (hu : u.length ≤ 4294967296) (hst : st.length ≤ 4294967296) (h : seMay l = true) (ho : seOne ⟨u, id, ⟨a, b, c, st⟩⟩ = false) :
    Calls Tryz.prog 29 #[v, .agg #[.string ⟨u.toArray⟩, .int .i64 id, .int .i64 a, .int .i64 b, .int .i64 c, .string ⟨st.toArray⟩]] w fun e w' => e = .returned (.tuple #[v, .int .i64 1]) ∧ Below w.heap.size w w' := by
  have bn := bl_newZ w (.cells #[.string ⟨u.toArray⟩, .int .i64 id, .int .i64 a, .int .i64 b, .int .i64 c, .string ⟨st.toArray⟩] 62)
  have B0 := Lib.hid bn
  have C0 := Lib.hid (cellsAt_made (w := w) (cs := #[.string ⟨u.toArray⟩, .int .i64 id, .int .i64 a, .int .i64 b, .int .i64 c, .string ⟨st.toArray⟩]) (vs := sesVals ⟨u, id, ⟨a, b, c, st⟩⟩) rfl 62 rfl)
  have V0 := Lib.hid (hv.later bn)
  have HM := Lib.hid (smay9_any V0.out hs (Lib.hid h))
  have HO := Lib.hid (mayBe_any u st id a b c hu hst (Lib.hid ho))
  obtain ⟨ao, cap, rfl, _⟩ := hv.open'
  clear hv bn h ho hs
  go_enter Tryz.func29, Tryz.ntmps29
  go_wp2_with fail
  refine HM.out.mono ?_
  rintro e w1 ⟨rfl, b1⟩
  have B1 := Lib.hid (below2Z B0.out b1)
  have V1 := Lib.hid (V0.out.later b1)
  have C1 := Lib.hid (C0.out.later b1)
  clear b1
  obtain ⟨c0, c1, c2, c3, c4, c5⟩ := sixS_of C1.out
  go_wp2_with fail
  refine (HO.out _).mono ?_
  rintro e w2 ⟨rfl, b2⟩
  have B2 := Lib.hid (below2Z B1.out b2)
  have V2 := Lib.hid (V1.out.later b2)
  have C2 := Lib.hid (C1.out.later b2)
  clear b2 c0 c1 c2 c3 c4 c5 B0 V0 C0 B1 V1 C1
  go_wp2_with fail
  go_ret2
  exact ⟨rfl, B2.out⟩

set_option maxHeartbeats 3200000 in
set_option maxRecDepth 100000 in
theorem sput_c {w : World} {v : Value} {l : List Ses} (hv : Sess w v l) (hs : ShortS l) (u st : List UInt8) (id a b c : Int) (hu : u.length ≤ 4294967296) (hst : st.length ≤ 4294967296) (h : seMay l = true) (ho : seOne ⟨u, id, ⟨a, b, c, st⟩⟩ = true) {i : Nat} (hf : findO seIs l (keyS u id) = some i) :
    Calls Tryz.prog 29 #[v, .agg #[.string ⟨u.toArray⟩, .int .i64 id, .int .i64 a, .int .i64 b, .int .i64 c, .string ⟨st.toArray⟩]] w fun e w' => ∃ x, e = .returned (.tuple #[x, .int .i64 0]) ∧ OwnSes w' w.heap.size x (l.set i ⟨u, id, ⟨a, b, c, st⟩⟩) ∧ Below w.heap.size w w' := by
  have bn := bl_newZ w (.cells #[.string ⟨u.toArray⟩, .int .i64 id, .int .i64 a, .int .i64 b, .int .i64 c, .string ⟨st.toArray⟩] 62)
  have B0 := Lib.hid bn
  have C0 := Lib.hid (cellsAt_made (w := w) (cs := #[.string ⟨u.toArray⟩, .int .i64 id, .int .i64 a, .int .i64 b, .int .i64 c, .string ⟨st.toArray⟩]) (vs := sesVals ⟨u, id, ⟨a, b, c, st⟩⟩) rfl 62 rfl)
  have V0 := Lib.hid (hv.later bn)
  have HM := Lib.hid (smay9_any V0.out hs (Lib.hid h))
  have HO := Lib.hid (mayBe_any u st id a b c hu hst (Lib.hid ho))
  have hi : i < l.length := (findO_some hf).1
  have hl32 := (seMay_rise h).1
  have HF1 := Lib.hid (seFind_some hf)
  obtain ⟨ao, cap, rfl, _⟩ := hv.open'
  clear hv bn h ho hs hf
  go_enter Tryz.func29, Tryz.ntmps29
  go_wp2_with fail
  refine HM.out.mono ?_
  rintro e w1 ⟨rfl, b1⟩
  have B1 := Lib.hid (below2Z B0.out b1)
  have V1 := Lib.hid (V0.out.later b1)
  have C1 := Lib.hid (C0.out.later b1)
  clear b1
  obtain ⟨c0, c1, c2, c3, c4, c5⟩ := sixS_of C1.out
  go_wp2_with fail
  refine (HO.out _).mono ?_
  rintro e w2 ⟨rfl, b2⟩
  have B2 := Lib.hid (below2Z B1.out b2)
  have V2 := Lib.hid (V1.out.later b2)
  have C2 := Lib.hid (C1.out.later b2)
  clear b2 c0 c1 c2 c3 c4 c5 B0 V0 C0 B1 V1 C1
  have HK := Lib.hid (keyOf_any u st id a b c)
  obtain ⟨c0, c1, c2, c3, c4, c5⟩ := sixS_of C2.out
  go_wp2_with fail
  refine (HK.out _).mono ?_
  rintro e w3 ⟨rfl, b3⟩
  have B3 := Lib.hid (below2Z B2.out b3)
  have V3 := Lib.hid (V2.out.later b3)
  have C3 := Lib.hid (C2.out.later b3)
  clear b3 c0 c1 c2 c3 c4 c5 B2 V2 C2
  have HF := Lib.hid (sefind_any V3.out u id (Lib.hid HF1.out))
  go_wp2_with fail
  refine HF.out.mono ?_
  rintro e w4 ⟨rfl, b4⟩
  have B4 := Lib.hid (below2Z B3.out b4)
  have V4 := Lib.hid (V3.out.later b4)
  have C4 := Lib.hid (C3.out.later b4)
  clear b4 B3 V3 C3 HF
  have HC := Lib.hid (ses_clone V4.out (by omega))
  go_wp2_with fail
  refine HC.out.mono ?_
  rintro e w5 ⟨x, rfl, ho5, b5⟩
  have B5 := Lib.hid (below2Z B4.out b5)
  have C5 := Lib.hid (C4.out.later b5)
  have hz4 := B4.out.size
  obtain ⟨g, cg, rfl⟩ : ∃ g cg, x = .slice (some ⟨g, 0, none⟩) l.length cg := by
    rcases ho5.2 with ⟨rfl, h0⟩ | ⟨g, cg, cur, rfl, _⟩
    · omega
    · exact ⟨g, cg, rfl⟩
  have hgb := ho5.head.2.1
  have O5 := Lib.hid (ownS_low ho5 hz4)
  clear ho5 b5 HC B4 C4 V4
  have f0 := O5.out.frozenAt (i * 6)
  have f1 := O5.out.frozenAt (i * 6 + 1)
  have f2 := O5.out.frozenAt (i * 6 + 2)
  have f3 := O5.out.frozenAt (i * 6 + 3)
  have f4 := O5.out.frozenAt (i * 6 + 4)
  have f5 := O5.out.frozenAt (i * 6 + 5)
  obtain ⟨y0, y1, y2, y3, y4, y5⟩ := cells6 (O5.out.row sesOK hi)
  obtain ⟨c0, c1, c2, c3, c4, c5⟩ := sixS_of C5.out
  have hnn : (0 : Int) ≤ (i : Int) := by omega
  have hli : (i : Int) < (l.length : Int) := by omega
  have O6 := Lib.hid (ses_store O5.out hi u st id a b c)
  have B6 := Lib.hid (below_store6 B5.out (by omega : w.heap.size ≤ g) (i * 6) (i * 6 + 1) (i * 6 + 2) (i * 6 + 3) (i * 6 + 4) (i * 6 + 5) (.string ⟨u.toArray⟩) (.int .i64 id) (.int .i64 a) (.int .i64 b) (.int .i64 c) (.string ⟨st.toArray⟩))
  clear O5 B5 C5
  go_wp2_with fail
  go_ret2
  exact ⟨_, rfl, O6.out, B6.out⟩

set_option maxHeartbeats 3200000 in
set_option maxRecDepth 100000 in
theorem sput_d {w : World} {v : Value} {l : List Ses} (hv : Sess w v l) (hs : ShortS l) (u st : List UInt8) (id a b c : Int) (hu : u.length ≤ 4294967296) (hst : st.length ≤ 4294967296) (h : seMay l = true) (ho : seOne ⟨u, id, ⟨a, b, c, st⟩⟩ = true) (hf : findO seIs l (keyS u id) = none) (h32 : ¬ l.length < 32) :
    Calls Tryz.prog 29 #[v, .agg #[.string ⟨u.toArray⟩, .int .i64 id, .int .i64 a, .int .i64 b, .int .i64 c, .string ⟨st.toArray⟩]] w fun e w' => e = .returned (.tuple #[v, .int .i64 5]) ∧ Below w.heap.size w w' := by
  have bn := bl_newZ w (.cells #[.string ⟨u.toArray⟩, .int .i64 id, .int .i64 a, .int .i64 b, .int .i64 c, .string ⟨st.toArray⟩] 62)
  have B0 := Lib.hid bn
  have C0 := Lib.hid (cellsAt_made (w := w) (cs := #[.string ⟨u.toArray⟩, .int .i64 id, .int .i64 a, .int .i64 b, .int .i64 c, .string ⟨st.toArray⟩]) (vs := sesVals ⟨u, id, ⟨a, b, c, st⟩⟩) rfl 62 rfl)
  have V0 := Lib.hid (hv.later bn)
  have HM := Lib.hid (smay9_any V0.out hs (Lib.hid h))
  have HO := Lib.hid (mayBe_any u st id a b c hu hst (Lib.hid ho))
  have HF1 := Lib.hid (seFind_none hf)
  have t32 : decide (32 ≤ (l.length : Int)) = true := by rw [decide_eq_true_eq]; omega
  obtain ⟨ao, cap, rfl, _⟩ := hv.open'
  clear hv bn h ho hs hf h32
  go_enter Tryz.func29, Tryz.ntmps29
  go_wp2_with fail
  refine HM.out.mono ?_
  rintro e w1 ⟨rfl, b1⟩
  have B1 := Lib.hid (below2Z B0.out b1)
  have V1 := Lib.hid (V0.out.later b1)
  have C1 := Lib.hid (C0.out.later b1)
  clear b1
  obtain ⟨c0, c1, c2, c3, c4, c5⟩ := sixS_of C1.out
  go_wp2_with fail
  refine (HO.out _).mono ?_
  rintro e w2 ⟨rfl, b2⟩
  have B2 := Lib.hid (below2Z B1.out b2)
  have V2 := Lib.hid (V1.out.later b2)
  have C2 := Lib.hid (C1.out.later b2)
  clear b2 c0 c1 c2 c3 c4 c5 B0 V0 C0 B1 V1 C1
  have HK := Lib.hid (keyOf_any u st id a b c)
  obtain ⟨c0, c1, c2, c3, c4, c5⟩ := sixS_of C2.out
  go_wp2_with fail
  refine (HK.out _).mono ?_
  rintro e w3 ⟨rfl, b3⟩
  have B3 := Lib.hid (below2Z B2.out b3)
  have V3 := Lib.hid (V2.out.later b3)
  have C3 := Lib.hid (C2.out.later b3)
  clear b3 c0 c1 c2 c3 c4 c5 B2 V2 C2
  have HF := Lib.hid (sefind_any V3.out u id (Lib.hid HF1.out))
  go_wp2_with fail
  refine HF.out.mono ?_
  rintro e w4 ⟨rfl, b4⟩
  have B4 := Lib.hid (below2Z B3.out b4)
  have V4 := Lib.hid (V3.out.later b4)
  have C4 := Lib.hid (C3.out.later b4)
  clear b4 B3 V3 C3 HF
  go_wp2_with fail
  go_ret2
  exact ⟨rfl, B4.out⟩

theorem mpr2' {p q : Prop} (hp : p) (h : p → q) : q := h hp

set_option maxHeartbeats 3200000 in
set_option maxRecDepth 100000 in
theorem sput_e {w : World} {v : Value} {l : List Ses} (hv : Sess w v l) (hs : ShortS l) (u st : List UInt8) (id a b c : Int) (hu : u.length ≤ 4294967296) (hst : st.length ≤ 4294967296) (h : seMay l = true) (ho : seOne ⟨u, id, ⟨a, b, c, st⟩⟩ = true) (hf : findO seIs l (keyS u id) = none) (h32 : l.length < 32) {i : Nat} (hpl : placeO seLt l (keyS u id) = i) :
    Calls Tryz.prog 29 #[v, .agg #[.string ⟨u.toArray⟩, .int .i64 id, .int .i64 a, .int .i64 b, .int .i64 c, .string ⟨st.toArray⟩]] w fun e w' => ∃ x, e = .returned (.tuple #[x, .int .i64 0]) ∧ OwnSes w' w.heap.size x (putS l i ⟨u, id, ⟨a, b, c, st⟩⟩) ∧ Below w.heap.size w w' := by
  have bn := bl_newZ w (.cells #[.string ⟨u.toArray⟩, .int .i64 id, .int .i64 a, .int .i64 b, .int .i64 c, .string ⟨st.toArray⟩] 62)
  have B0 := Lib.hid bn
  have C0 := Lib.hid (cellsAt_made (w := w) (cs := #[.string ⟨u.toArray⟩, .int .i64 id, .int .i64 a, .int .i64 b, .int .i64 c, .string ⟨st.toArray⟩]) (vs := sesVals ⟨u, id, ⟨a, b, c, st⟩⟩) rfl 62 rfl)
  have V0 := Lib.hid (hv.later bn)
  have HM := Lib.hid (smay9_any V0.out hs (Lib.hid h))
  have HO := Lib.hid (mayBe_any u st id a b c hu hst (Lib.hid ho))
  have HF1 := Lib.hid (seFind_none hf)
  have HRI := Lib.hid (seMay_rise h).2.1
  have hil : i ≤ l.length := by rw [← hpl]; exact placeO_le _ _
  have HPL : Hid (placeO seLt l (keyS u id) = i) := Lib.hid hpl
  have t32 : decide (32 ≤ (l.length : Int)) = false := by rw [decide_eq_false_iff_not]; omega
  obtain ⟨ao, cap, rfl, _⟩ := hv.open'
  clear hv bn h ho hs hf hpl
  go_enter Tryz.func29, Tryz.ntmps29
  go_wp2_with fail
  refine HM.out.mono ?_
  rintro e w1 ⟨rfl, b1⟩
  have B1 := Lib.hid (below2Z B0.out b1)
  have V1 := Lib.hid (V0.out.later b1)
  have C1 := Lib.hid (C0.out.later b1)
  clear b1
  obtain ⟨c0, c1, c2, c3, c4, c5⟩ := sixS_of C1.out
  go_wp2_with fail
  refine (HO.out _).mono ?_
  rintro e w2 ⟨rfl, b2⟩
  have B2 := Lib.hid (below2Z B1.out b2)
  have V2 := Lib.hid (V1.out.later b2)
  have C2 := Lib.hid (C1.out.later b2)
  clear b2 c0 c1 c2 c3 c4 c5 B0 V0 C0 B1 V1 C1
  have HK := Lib.hid (keyOf_any u st id a b c)
  obtain ⟨c0, c1, c2, c3, c4, c5⟩ := sixS_of C2.out
  go_wp2_with fail
  refine (HK.out _).mono ?_
  rintro e w3 ⟨rfl, b3⟩
  have B3 := Lib.hid (below2Z B2.out b3)
  have V3 := Lib.hid (V2.out.later b3)
  have C3 := Lib.hid (C2.out.later b3)
  clear b3 c0 c1 c2 c3 c4 c5 B2 V2 C2
  have HF := Lib.hid (sefind_any V3.out u id (Lib.hid HF1.out))
  go_wp2_with fail
  refine HF.out.mono ?_
  rintro e w4 ⟨rfl, b4⟩
  have B4 := Lib.hid (below2Z B3.out b4)
  have V4 := Lib.hid (V3.out.later b4)
  have C4 := Lib.hid (C3.out.later b4)
  clear b4 B3 V3 C3 HF
  have hS4 : SixS w4 w.heap.size u st id a b c := sixS_of C4.out
  have hw4 : w.heap.size < w4.heap.size := World.block_lt_of_cell? _ _ hS4.1
  clear HM HO
  go_wp2_with fail
  go_region_held (fun W => W.cell? ⟨w.heap.size, 0, none⟩ = some (.string ⟨u.toArray⟩) ∧ W.cell? ⟨w.heap.size, 1, none⟩ = some (.int .i64 id) ∧ W.cell? ⟨w.heap.size, 2, none⟩ = some (.int .i64 a) ∧ W.cell? ⟨w.heap.size, 3, none⟩ = some (.int .i64 b) ∧ W.cell? ⟨w.heap.size, 4, none⟩ = some (.int .i64 c) ∧ W.cell? ⟨w.heap.size, 5, none⟩ = some (.string ⟨st.toArray⟩))
    (first | exact hS8 | exact hS7 | exact sixS_up (bl_newZ _ _) hS7 | exact hS6 | exact sixS_up (bl_newZ _ _) hS6 | exact hS5 | exact sixS_up (bl_newZ _ _) hS5 | exact hS4 | exact sixS_up ((Below.refl _ _).drew.alloc (by simp) _) hS4 | go_keep)
    ((first
      | (go_at_call 72; go_loud (refine (ses_clone (t := l) (by first | with_reducible exact V4.out.later (Below.refl _ _).drew | exact V4.out.later ((Below.refl _ _).drew.alloc (by simp) _)) (by omega)).mono ?_; rintro e w5 ⟨x5, rfl, ho5, b5⟩; (have B5 : Hid (Below w4.heap.size w4 w5) := Lib.hid (by first | with_reducible exact below2Z (Below.refl _ _).drew b5 | exact below2Z ((Below.refl _ _).drew.alloc (by simp) _) b5)); (have V5 := Lib.hid (V4.out.later B5.out)); (have O5 := Lib.hid ho5); (have z5 := B5.out.size); (have hS5 : SixS w5 w.heap.size u st id a b c := sixS_up B5.out hS4); (try (refine mpr2' (p := LoneS sesVals 62 w5 w4.heap.size ⟨u, id, ⟨a, b, c, st⟩⟩) ?_ ?_; (· exact LoneS.later (loneS_new (w := w4.drew) (cs := #[.string ⟨u.toArray⟩, .int .i64 id, .int .i64 a, .int .i64 b, .int .i64 c, .string ⟨st.toArray⟩]) rfl rfl) b5); intro hL5; (have L5 := Lib.hid hL5); clear hL5))))
      | (go_at_call 71; go_loud (refine (HK.out _).mono ?_; rintro e w6 ⟨rfl, b6⟩; (have B6 : Hid (Below w5.heap.size w5 w6) := Lib.hid (by first | with_reducible exact b6 | exact below2Z (bl_newZ _ _) b6)); (have z6 := B6.out.size); (have hS6 : SixS w6 w.heap.size u st id a b c := sixS_up B6.out hS5); (have V6 := Lib.hid (V5.out.later B6.out)); (have O6 := Lib.hid (O5.out.later B6.out)); (try (refine mpr2' (p := LoneS sesVals 62 w6 w4.heap.size ⟨u, id, ⟨a, b, c, st⟩⟩) ?_ ?_; (· exact LoneS.later L5.out B6.out); intro hL6; (have L6 := Lib.hid hL6); clear hL6)); (try (refine mpr2' (p := LoneS sesVals 62 w6 w5.heap.size ⟨u, id, ⟨a, b, c, st⟩⟩) ?_ ?_; (· exact LoneS.later (loneS_new (w := w5) (cs := #[.string ⟨u.toArray⟩, .int .i64 id, .int .i64 a, .int .i64 b, .int .i64 c, .string ⟨st.toArray⟩]) rfl rfl) b6); intro hL6; (have L6 := Lib.hid hL6); clear hL6))))
      | (go_at_call 74; go_loud (refine (seplace_any (l := l) (by first | with_reducible exact V6.out | exact V6.out.later (bl_newZ _ _)) HRI.out u id HPL).mono ?_; rintro e w7 ⟨rfl, b7⟩; (have B7 : Hid (Below w6.heap.size w6 w7) := Lib.hid (by first | with_reducible exact b7 | exact below2Z (bl_newZ _ _) b7)); (have z7 := B7.out.size); (have hS7 : SixS w7 w.heap.size u st id a b c := sixS_up B7.out hS6); (have O7 := Lib.hid (O6.out.later B7.out)); (try (refine mpr2' (p := LoneS sesVals 62 w7 w4.heap.size ⟨u, id, ⟨a, b, c, st⟩⟩) ?_ ?_; (· exact LoneS.later L6.out B7.out); intro hL7; (have L7 := Lib.hid hL7); clear hL7)); (try (refine mpr2' (p := LoneS sesVals 62 w7 w5.heap.size ⟨u, id, ⟨a, b, c, st⟩⟩) ?_ ?_; (· exact LoneS.later L6.out B7.out); intro hL7; (have L7 := Lib.hid hL7); clear hL7)); (try (refine mpr2' (p := LoneS sesVals 62 w7 w6.heap.size ⟨u, id, ⟨a, b, c, st⟩⟩) ?_ ?_; (· exact LoneS.later (loneS_new (w := w6) (cs := #[.string ⟨u.toArray⟩, .int .i64 id, .int .i64 a, .int .i64 b, .int .i64 c, .string ⟨st.toArray⟩]) rfl rfl) b7); intro hL7; (have L7 := Lib.hid hL7); clear hL7))))
      | (go_at_call 73; go_loud (refine (ses_insert (base := w4.heap.size) (t := l) (i := i) (r := ⟨u, id, ⟨a, b, c, st⟩⟩) (by first | with_reducible exact ownS_low O7.out (by simp) | exact ownS_low (O7.out.alloc _) (by simp)) (by first | omega | (simp; omega)) (by omega) hil (by first | with_reducible exact L7.out | exact loneS_new (w := w7) (cs := #[.string ⟨u.toArray⟩, .int .i64 id, .int .i64 a, .int .i64 b, .int .i64 c, .string ⟨st.toArray⟩]) rfl rfl) (fun g n c e => by have h1 := (OwnS.gblock O5.out e).1; have h2 := (OwnS.gblock O5.out e).2.1; simp at h2; omega)).mono ?_; rintro e w8 ⟨x8, rfl, ho8, b8⟩; (have O8 := Lib.hid ho8); (have B8 : Hid (Below w4.heap.size w7 w8) := Lib.hid (by first | with_reducible exact b8 | exact ((Below.refl _ w7).alloc (by omega) _).trans b8)); (have hS8 : SixS w8 w.heap.size u st id a b c := sixS_low B8.out hw4 hS7); clear ho8 b8))))
  all_goals
    have B9 := Lib.hid ((below2Z (below2Z (below2Z B4.out B5.out) B6.out) B7.out).trans (B8.out.mono B4.out.size))
    go_wp2_with fail
    go_ret2
    exact ⟨_, rfl, ownS_low O8.out B4.out.size, B9.out⟩

theorem sput_any {w : World} {v : Value} {l : List Ses} (hv : Sess w v l) (hs : ShortS l) (s : Ses) (hu : s.u.length ≤ 4294967296) (hst : s.v.st.length ≤ 4294967296) {m : List Ses} {n : Nat} (h : Hid (sePut l s = (m, n))) :
    Calls Tryz.prog 29 #[v, sesAgg s] w fun e w' => ∃ x, e = .returned (.tuple #[x, .int .i64 n]) ∧ Sess w' x m ∧ Below w.heap.size w w' := by
  obtain ⟨u, id, ⟨a, b, c, st⟩⟩ := s
  have h := h.out
  cases hm : seMay l with
  | false =>
    rw [sePut_arg (.inl hm)] at h
    simp only [Prod.mk.injEq] at h
    obtain ⟨rfl, rfl⟩ := h
    exact (sput_a hv hs u st id a b c hu hst hm).mono (fun e w' ⟨h1, h2⟩ => ⟨v, h1, hv.later h2, h2⟩)
  | true =>
    cases ho : seOne ⟨u, id, ⟨a, b, c, st⟩⟩ with
    | false =>
      rw [sePut_arg (.inr ho)] at h
      simp only [Prod.mk.injEq] at h
      obtain ⟨rfl, rfl⟩ := h
      exact (sput_b hv hs u st id a b c hu hst hm ho).mono (fun e w' ⟨h1, h2⟩ => ⟨v, h1, hv.later h2, h2⟩)
    | true =>
      cases hf : findO seIs l ⟨u, id, ⟨a, b, c, st⟩⟩ with
      | some i =>
        rw [sePut_set hm ho hf] at h
        simp only [Prod.mk.injEq] at h
        obtain ⟨rfl, rfl⟩ := h
        exact (sput_c hv hs u st id a b c hu hst hm ho hf).mono (fun e w' ⟨x, h1, h2, h3⟩ => ⟨x, h1, h2.rd sesOK, h3⟩)
      | none =>
        by_cases h32 : l.length < 32
        · rw [sePut_new hm ho hf h32] at h
          simp only [Prod.mk.injEq] at h
          obtain ⟨rfl, rfl⟩ := h
          exact (sput_e hv hs u st id a b c hu hst hm ho hf h32 rfl).mono (fun e w' ⟨x, h1, h2, h3⟩ => ⟨x, h1, h2.rd sesOK, h3⟩)
        · rw [sePut_full hm ho hf h32] at h
          simp only [Prod.mk.injEq] at h
          obtain ⟨rfl, rfl⟩ := h
          exact (sput_d hv hs u st id a b c hu hst hm ho hf h32).mono (fun e w' ⟨h1, h2⟩ => ⟨v, h1, hv.later h2, h2⟩)

end Go.Proofs.YthfkfonfiejbmaaGreat

end

section

/-
  LAYER 9: Drop; the document's place, Put and Drop.
-/
namespace Go.Proofs.YthfkfonfiejbmaaGreat
open Go.RowKit

set_option maxHeartbeats 3200000 in
set_option maxRecDepth 100000 in
theorem sdrop_a {w : World} {v : Value} {l : List Ses} (hv : Sess w v l) (hs : ShortS l) (u : List UInt8) (id : Int) (h : seMay l = false) :
    Calls Tryz.prog 30 #[v, .string ⟨u.toArray⟩, .int .i64 id] w fun e w' => e = .returned (.tuple #[v, .int .i64 1]) ∧ Below w.heap.size w w' := by
  have HM := Lib.hid (smay9_any hv hs (Lib.hid h))
  obtain ⟨ao, cap, rfl, _⟩ := hv.open'
  clear hv h hs
  go_enter Tryz.func30, Tryz.ntmps30
  go_wp2_with fail
  refine HM.out.mono ?_
  rintro e w1 ⟨rfl, b1⟩
  have B1 := Lib.hid b1
  clear b1
  go_wp2_with fail
  go_ret2
  exact ⟨rfl, B1.out⟩

set_option maxHeartbeats 3200000 in
set_option maxRecDepth 100000 in
theorem sdrop_b {w : World} {v : Value} {l : List Ses} (hv : Sess w v l) (hs : ShortS l) (u : List UInt8) (id : Int) (h : seMay l = true) (hf : findO seIs l (keyS u id) = none) :
    Calls Tryz.prog 30 #[v, .string ⟨u.toArray⟩, .int .i64 id] w fun e w' => e = .returned (.tuple #[v, .int .i64 6]) ∧ Below w.heap.size w w' := by
  have HM := Lib.hid (smay9_any hv hs (Lib.hid h))
  have V0 := Lib.hid hv
  have HF1 := Lib.hid (seFind_none hf)
  obtain ⟨ao, cap, rfl, _⟩ := hv.open'
  clear hv h hs hf
  go_enter Tryz.func30, Tryz.ntmps30
  go_wp2_with fail
  refine HM.out.mono ?_
  rintro e w1 ⟨rfl, b1⟩
  have B1 := Lib.hid b1
  have V1 := Lib.hid (V0.out.later b1)
  clear b1
  have HF := Lib.hid (sefind_any V1.out u id (Lib.hid HF1.out))
  go_wp2_with fail
  refine HF.out.mono ?_
  rintro e w4 ⟨rfl, b4⟩
  have B4 := Lib.hid (below2Z B1.out b4)
  have V4 := Lib.hid (V1.out.later b4)
  clear b4 B1 V1 HF
  go_wp2_with fail
  go_ret2
  exact ⟨rfl, B4.out⟩

set_option maxHeartbeats 3200000 in
set_option maxRecDepth 100000 in
theorem sdrop_c {w : World} {v : Value} {l : List Ses} (hv : Sess w v l) (hs : ShortS l) (u : List UInt8) (id : Int) (h : seMay l = true) {i : Nat} (hf : findO seIs l (keyS u id) = some i) :
    Calls Tryz.prog 30 #[v, .string ⟨u.toArray⟩, .int .i64 id] w fun e w' => ∃ x, e = .returned (.tuple #[x, .int .i64 0]) ∧ OwnSes w' w.heap.size x (l.take i ++ l.drop (i + 1)) ∧ Below w.heap.size w w' := by
  have HM := Lib.hid (smay9_any hv hs (Lib.hid h))
  have V0 := Lib.hid hv
  have hi : i < l.length := (findO_some hf).1
  have hl32 := (seMay_rise h).1
  have HF1 := Lib.hid (seFind_some hf)
  obtain ⟨ao, cap, rfl, _⟩ := hv.open'
  clear hv h hs hf
  go_enter Tryz.func30, Tryz.ntmps30
  go_wp2_with fail
  refine HM.out.mono ?_
  rintro e w1 ⟨rfl, b1⟩
  have B1 := Lib.hid b1
  have V1 := Lib.hid (V0.out.later b1)
  clear b1
  have HF := Lib.hid (sefind_any V1.out u id (Lib.hid HF1.out))
  go_wp2_with fail
  refine HF.out.mono ?_
  rintro e w4 ⟨rfl, b4⟩
  have B4 := Lib.hid (below2Z B1.out b4)
  have V4 := Lib.hid (V1.out.later b4)
  clear b4 B1 V1 HF
  have HC := Lib.hid (ses_clone V4.out (by omega))
  have hw1 : IntKind.i64.wrap ((i : Int) + 1) = (i : Int) + 1 := IntWalk.i64_in _ (by omega)
  go_wp2_with fail
  refine HC.out.mono ?_
  rintro e w5 ⟨x, rfl, ho5, b5⟩
  have B5 := Lib.hid (below2Z B4.out b5)
  have hz4 := B4.out.size
  obtain ⟨g, cg, rfl, hcm⟩ : ∃ g cg, x = .slice (some ⟨g, 0, none⟩) l.length cg ∧ cg ≤ maxLen := by
    rcases ho5.2 with ⟨rfl, h0⟩ | ⟨g, cg, cur, rfl, _, _, _, hcm, _⟩
    · omega
    · exact ⟨g, cg, rfl, hcm⟩
  unfold maxLen at hcm
  have HD := Lib.hid (ses_delete (ownS_low ho5 hz4) hcm hi (by omega))
  clear ho5 b5 HC B4 V4
  go_wp2_with fail
  refine HD.out.mono ?_
  rintro e w6 ⟨y, rfl, ho6, b6⟩
  have O6 := Lib.hid ho6
  have B6 := Lib.hid (B5.out.trans b6)
  clear ho6 b6 HD
  go_wp2_with fail
  go_ret2
  exact ⟨_, rfl, O6.out, B6.out⟩

theorem sdrop_any {w : World} {v : Value} {l : List Ses} (hv : Sess w v l) (hs : ShortS l) (u : List UInt8) (id : Int) {m : List Ses} {n : Nat} (h : Hid (seDrop l u id = (m, n))) :
    Calls Tryz.prog 30 #[v, .string ⟨u.toArray⟩, .int .i64 id] w fun e w' => ∃ x, e = .returned (.tuple #[x, .int .i64 n]) ∧ Sess w' x m ∧ Below w.heap.size w w' := by
  have h := h.out
  cases hm : seMay l with
  | false =>
    rw [seDrop_arg hm] at h
    simp only [Prod.mk.injEq] at h
    obtain ⟨rfl, rfl⟩ := h
    exact (sdrop_a hv hs u id hm).mono (fun e w' ⟨h1, h2⟩ => ⟨v, h1, hv.later h2, h2⟩)
  | true =>
    cases hf : findO seIs l (keyS u id) with
    | some i =>
      rw [seDrop_at hm hf] at h
      simp only [Prod.mk.injEq] at h
      obtain ⟨rfl, rfl⟩ := h
      exact (sdrop_c hv hs u id hm hf).mono (fun e w' ⟨x, h1, h2, h3⟩ => ⟨x, h1, h2.rd sesOK, h3⟩)
    | none =>
      rw [seDrop_none hm hf] at h
      simp only [Prod.mk.injEq] at h
      obtain ⟨rfl, rfl⟩ := h
      exact (sdrop_b hv hs u id hm hf).mono (fun e w' ⟨h1, h2⟩ => ⟨v, h1, hv.later h2, h2⟩)

/-- What the document's place tells. -/
def sePl (l : List Ses) (x : Ses) : Int := match findO seIs l x with | some i => (i : Int) | none => -1

end Go.Proofs.YthfkfonfiejbmaaGreat

end

section

/-
  LAYER 14: Apply of the code.
-/
namespace Go.Proofs.YthfkfonfiejbmaaGreat
open Go.RowKit

theorem allSl_nil : AllSl #[.slice none 0 0, .slice none 0 0] := by
  intro j u h
  match j, h with
  | 0, h => simp at h; exact ⟨_, _, _, h.symm⟩
  | 1, h => simp at h; exact ⟨_, _, _, h.symm⟩
  | j + 2, h => simp at h

theorem allSl_two {x y : Value} (hx : ∃ a n c, x = .slice a n c) (hy : ∃ a n c, y = .slice a n c) : AllSl #[x, y] := by
  intro j u h
  match j, h with
  | 0, h => simp at h; exact h ▸ hx
  | 1, h => simp at h; exact h ▸ hy
  | j + 2, h => simp at h

theorem StAt.sl {w : World} {x y : Value} {t : Sta} (h : StAt w x y t) : AllSl #[x, y] := by
  obtain ⟨a, c, e1, -⟩ := h.1.open'
  obtain ⟨a', c', e2, -⟩ := RdS.open' h.2
  exact allSl_two ⟨_, _, _, e1⟩ ⟨_, _, _, e2⟩

theorem eightT {X : World} {B : Nat} {k id a b c : Int} {u o st : List UInt8} (h : CellsAt X B 0 (evVals ⟨k, u, o, id, ⟨a, b, c, st⟩⟩)) :
    X.cell? ⟨B, 0, none⟩ = some (.int .i64 k) ∧ X.cell? ⟨B, 1, none⟩ = some (.string ⟨u.toArray⟩) ∧ X.cell? ⟨B, 2, none⟩ = some (.string ⟨o.toArray⟩) ∧ X.cell? ⟨B, 3, none⟩ = some (.int .i64 id) ∧ X.cell? ⟨B, 4, none⟩ = some (.int .i64 a) ∧ X.cell? ⟨B, 5, none⟩ = some (.int .i64 b) ∧ X.cell? ⟨B, 6, none⟩ = some (.int .i64 c) ∧ X.cell? ⟨B, 7, none⟩ = some (.string ⟨st.toArray⟩) := by
  have h0 := h 0 _ rfl
  have h1 := h 1 _ rfl
  have h2 := h 2 _ rfl
  have h3 := h 3 _ rfl
  have h4 := h 4 _ rfl
  have h5 := h 5 _ rfl
  have h6 := h 6 _ rfl
  have h7 := h 7 _ rfl
  simp only [Nat.zero_add] at h0 h1 h2 h3 h4 h5 h6 h7
  exact ⟨h0, h1, h2, h3, h4, h5, h6, h7⟩

/-- One cell of a block of slices, written. -/
theorem st_one {w0 W : World} {x y : Value} {t : Sta} (h : StAt W x y t) (hb : Below w0.heap.size w0 W) {A : Nat} (hA : w0.heap.size ≤ A) {a0 a1 : Value} {T : TypeId} (ha : W.heap[A]? = some (.cells #[a0, a1] T (0, 0))) (hs : AllSl #[a0, a1]) (i : Nat) (u : Value) {R : Nat} (hne : A ≠ R) {o : Obj} (hr : W.heap[R]? = some o) :
    StAt (W.setCell ⟨A, i, none⟩ u) x y t ∧ Below w0.heap.size w0 (W.setCell ⟨A, i, none⟩ u) ∧ (W.setCell ⟨A, i, none⟩ u).heap[R]? = some o :=
  ⟨h.keep ha hs.no i u, hb.setCell hA u, (heap_setCell_other W ⟨A, i, none⟩ R u (fun e => hne e.symm)).trans hr⟩

/-- The result's block, written. -/
theorem st_fin {w0 W : World} {x y : Value} {t : Sta} (h : StAt W x y t) (hb : Below w0.heap.size w0 W) {R : Nat} (hR : w0.heap.size ≤ R) {r0 r1 : Value} {T : TypeId} (hr : W.heap[R]? = some (.cells #[r0, r1] T (0, 0))) (hs : AllSl #[r0, r1]) :
    StAt ((W.setCell ⟨R, 0, none⟩ x).setCell ⟨R, 1, none⟩ y) x y t ∧ Below w0.heap.size w0 ((W.setCell ⟨R, 0, none⟩ x).setCell ⟨R, 1, none⟩ y) ∧
      ((W.setCell ⟨R, 0, none⟩ x).setCell ⟨R, 1, none⟩ y).cell? ⟨R, 0, none⟩ = some x ∧ ((W.setCell ⟨R, 0, none⟩ x).setCell ⟨R, 1, none⟩ y).cell? ⟨R, 1, none⟩ = some y := by
  have k0 := heap_setCell_same W R 0 _ _ x hr
  have k1 := heap_setCell_same _ R 1 _ _ y k0
  have hs1 : AllSl #[x, r1] := allSl_two (h.sl 0 x rfl) (hs 1 r1 rfl)
  obtain ⟨c0, c1, -, -⟩ := two_T k1
  exact ⟨(h.keep hr hs.no 0 x).keep k0 hs1.no 1 y, (hb.setCell hR x).setCell hR y, c0, c1⟩

set_option maxHeartbeats 3200000 in
set_option maxRecDepth 100000 in
theorem stdo_a {w : World} {ax ay : Option Addr} {nx cx ny cy : Nat} {t : Sta} (h : StAt w (.slice ax nx cx) (.slice ay ny cy) t) (he : ShortE t.e) (hl : t.e.length ≤ 900) (hs : ShortS t.s) (u o st : List UInt8) (id a b c : Int) (hu : u.length ≤ 4294967296) (ho : o.length ≤ 4294967296) (hst : st.length ≤ 4294967296) (k : Int) (hm : stMay t = false) :
    Calls Tryz.prog 11 #[.agg #[.slice ax nx cx, .slice ay ny cy], .agg #[.int .i64 k, .string ⟨u.toArray⟩, .string ⟨o.toArray⟩, .int .i64 id, .int .i64 a, .int .i64 b, .int .i64 c, .string ⟨st.toArray⟩]] w fun e w' => ∃ x' y', e = .returned (.tuple #[.agg #[x', y'], .int .i64 1]) ∧ StAt w' x' y' ⟨t.e, t.s⟩ ∧ Below w.heap.size w w' := by
  have HM := Lib.hid hm
  have b1 := bl_newZ w (.cells #[.slice ax nx cx, .slice ay ny cy] 25)
  have b2 := bl_newZ (w.alloc (.cells #[.slice ax nx cx, .slice ay ny cy] 25)) (.cells #[.int .i64 k, .string ⟨u.toArray⟩, .string ⟨o.toArray⟩, .int .i64 id, .int .i64 a, .int .i64 b, .int .i64 c, .string ⟨st.toArray⟩] 29)
  have b3 := bl_newZ ((w.alloc (.cells #[.slice ax nx cx, .slice ay ny cy] 25)).alloc (.cells #[.int .i64 k, .string ⟨u.toArray⟩, .string ⟨o.toArray⟩, .int .i64 id, .int .i64 a, .int .i64 b, .int .i64 c, .string ⟨st.toArray⟩] 29)) (.cells #[.slice none 0 0, .slice none 0 0] 25)
  have b123 := below2Z b1 (below2Z b2 b3)
  have HB := Lib.hid b123
  have H := Lib.hid (h.later b123)
  have FS := Lib.hid (upT (heap_newT w (.cells #[.slice ax nx cx, .slice ay ny cy] 25)) (below2Z b2 b3))
  have FE := Lib.hid ((cellsAt_made (w := w.alloc (.cells #[.slice ax nx cx, .slice ay ny cy] 25)) (cs := #[.int .i64 k, .string ⟨u.toArray⟩, .string ⟨o.toArray⟩, .int .i64 id, .int .i64 a, .int .i64 b, .int .i64 c, .string ⟨st.toArray⟩]) (vs := evVals ⟨k, u, o, id, ⟨a, b, c, st⟩⟩) rfl 29 (B := w.heap.size + 1) (by simp)).later b3)
  have FR : Hid ((((w.alloc (.cells #[.slice ax nx cx, .slice ay ny cy] 25)).alloc (.cells #[.int .i64 k, .string ⟨u.toArray⟩, .string ⟨o.toArray⟩, .int .i64 id, .int .i64 a, .int .i64 b, .int .i64 c, .string ⟨st.toArray⟩] 29)).alloc (.cells #[.slice none 0 0, .slice none 0 0] 25)).heap[w.heap.size + 1 + 1]? = some (.cells #[.slice none 0 0, .slice none 0 0] 25 (0, 0))) := by
    have hz := heap_newT ((w.alloc (.cells #[.slice ax nx cx, .slice ay ny cy] 25)).alloc (.cells #[.int .i64 k, .string ⟨u.toArray⟩, .string ⟨o.toArray⟩, .int .i64 id, .int .i64 a, .int .i64 b, .int .i64 c, .string ⟨st.toArray⟩] 29)) (.cells #[.slice none 0 0, .slice none 0 0] 25)
    simp only [World.size_alloc] at hz
    exact hz
  have HE := Lib.hid he
  have HS := Lib.hid hs
  obtain ⟨s0, s1, f0, f1⟩ := two_T FS.out
  obtain ⟨e0, e1, e2, e3, e4, e5, e6, e7⟩ := eightT FE.out
  clear b1 b2 b3 b123 h he hs
  clear hm
  go_enter Tryz.func11, Tryz.ntmps11
  go_wp2_with fail
  refine (stmay_any H.out HE.out HS.out HM).mono ?_
  rintro e w1 ⟨rfl, c1⟩
  replace HB := Lib.hid (below2Z HB.out c1)
  replace H := Lib.hid (H.out.later c1)
  replace FS := Lib.hid (upT FS.out c1)
  replace FE := Lib.hid (FE.out.later c1)
  replace FR := Lib.hid (upT FR.out c1)
  clear s0 s1 f0 f1 e0 e1 e2 e3 e4 e5 e6 e7 c1
  obtain ⟨s0, s1, f0, f1⟩ := two_T FS.out
  obtain ⟨e0, e1, e2, e3, e4, e5, e6, e7⟩ := eightT FE.out
  obtain ⟨r0, r1, g0, g1⟩ := two_T FR.out
  go_wp2_with fail
  obtain ⟨z1, z2, o0, o1⟩ := st_fin H.out HB.out (show w.heap.size ≤ w.heap.size + 1 + 1 by omega) FR.out allSl_nil
  refine bodyPost_ret (v := .tuple #[.agg #[.slice ax nx cx, .slice ay ny cy], .int .i64 1]) (by simp [results, Tryz.results11, go_sem, o0, o1]) rfl ⟨_, _, rfl, z1, z2⟩

set_option maxHeartbeats 3200000 in
set_option maxRecDepth 100000 in
theorem stdo_b {w : World} {ax ay : Option Addr} {nx cx ny cy : Nat} {t : Sta} (h : StAt w (.slice ax nx cx) (.slice ay ny cy) t) (he : ShortE t.e) (hl : t.e.length ≤ 900) (hs : ShortS t.s) (u o st : List UInt8) (id a b c : Int) (hu : u.length ≤ 4294967296) (ho : o.length ≤ 4294967296) (hst : st.length ≤ 4294967296) (k : Int) (hm : stMay t = true) (hb : k < 1 ∨ 8 < k) :
    Calls Tryz.prog 11 #[.agg #[.slice ax nx cx, .slice ay ny cy], .agg #[.int .i64 k, .string ⟨u.toArray⟩, .string ⟨o.toArray⟩, .int .i64 id, .int .i64 a, .int .i64 b, .int .i64 c, .string ⟨st.toArray⟩]] w fun e w' => ∃ x' y', e = .returned (.tuple #[.agg #[x', y'], .int .i64 1]) ∧ StAt w' x' y' ⟨t.e, t.s⟩ ∧ Below w.heap.size w w' := by
  have HM := Lib.hid hm
  have t1 : (k == 1) = false := by rw [beq_eq_false_iff_ne]; omega
  have t2 : (k == 2) = false := by rw [beq_eq_false_iff_ne]; omega
  have t3 : (k == 3) = false := by rw [beq_eq_false_iff_ne]; omega
  have t4 : (k == 4) = false := by rw [beq_eq_false_iff_ne]; omega
  have t5 : (k == 5) = false := by rw [beq_eq_false_iff_ne]; omega
  have t6 : (k == 6) = false := by rw [beq_eq_false_iff_ne]; omega
  have t7 : (k == 7) = false := by rw [beq_eq_false_iff_ne]; omega
  have t8 : (k == 8) = false := by rw [beq_eq_false_iff_ne]; omega
  have b1 := bl_newZ w (.cells #[.slice ax nx cx, .slice ay ny cy] 25)
  have b2 := bl_newZ (w.alloc (.cells #[.slice ax nx cx, .slice ay ny cy] 25)) (.cells #[.int .i64 k, .string ⟨u.toArray⟩, .string ⟨o.toArray⟩, .int .i64 id, .int .i64 a, .int .i64 b, .int .i64 c, .string ⟨st.toArray⟩] 29)
  have b3 := bl_newZ ((w.alloc (.cells #[.slice ax nx cx, .slice ay ny cy] 25)).alloc (.cells #[.int .i64 k, .string ⟨u.toArray⟩, .string ⟨o.toArray⟩, .int .i64 id, .int .i64 a, .int .i64 b, .int .i64 c, .string ⟨st.toArray⟩] 29)) (.cells #[.slice none 0 0, .slice none 0 0] 25)
  have b123 := below2Z b1 (below2Z b2 b3)
  have HB := Lib.hid b123
  have H := Lib.hid (h.later b123)
  have FS := Lib.hid (upT (heap_newT w (.cells #[.slice ax nx cx, .slice ay ny cy] 25)) (below2Z b2 b3))
  have FE := Lib.hid ((cellsAt_made (w := w.alloc (.cells #[.slice ax nx cx, .slice ay ny cy] 25)) (cs := #[.int .i64 k, .string ⟨u.toArray⟩, .string ⟨o.toArray⟩, .int .i64 id, .int .i64 a, .int .i64 b, .int .i64 c, .string ⟨st.toArray⟩]) (vs := evVals ⟨k, u, o, id, ⟨a, b, c, st⟩⟩) rfl 29 (B := w.heap.size + 1) (by simp)).later b3)
  have FR : Hid ((((w.alloc (.cells #[.slice ax nx cx, .slice ay ny cy] 25)).alloc (.cells #[.int .i64 k, .string ⟨u.toArray⟩, .string ⟨o.toArray⟩, .int .i64 id, .int .i64 a, .int .i64 b, .int .i64 c, .string ⟨st.toArray⟩] 29)).alloc (.cells #[.slice none 0 0, .slice none 0 0] 25)).heap[w.heap.size + 1 + 1]? = some (.cells #[.slice none 0 0, .slice none 0 0] 25 (0, 0))) := by
    have hz := heap_newT ((w.alloc (.cells #[.slice ax nx cx, .slice ay ny cy] 25)).alloc (.cells #[.int .i64 k, .string ⟨u.toArray⟩, .string ⟨o.toArray⟩, .int .i64 id, .int .i64 a, .int .i64 b, .int .i64 c, .string ⟨st.toArray⟩] 29)) (.cells #[.slice none 0 0, .slice none 0 0] 25)
    simp only [World.size_alloc] at hz
    exact hz
  have HE := Lib.hid he
  have HS := Lib.hid hs
  obtain ⟨s0, s1, f0, f1⟩ := two_T FS.out
  obtain ⟨e0, e1, e2, e3, e4, e5, e6, e7⟩ := eightT FE.out
  clear b1 b2 b3 b123 h he hs
  clear hm hb
  go_enter Tryz.func11, Tryz.ntmps11
  go_wp2_with fail
  refine (stmay_any H.out HE.out HS.out HM).mono ?_
  rintro e w1 ⟨rfl, c1⟩
  replace HB := Lib.hid (below2Z HB.out c1)
  replace H := Lib.hid (H.out.later c1)
  replace FS := Lib.hid (upT FS.out c1)
  replace FE := Lib.hid (FE.out.later c1)
  replace FR := Lib.hid (upT FR.out c1)
  clear s0 s1 f0 f1 e0 e1 e2 e3 e4 e5 e6 e7 c1
  obtain ⟨s0, s1, f0, f1⟩ := two_T FS.out
  obtain ⟨e0, e1, e2, e3, e4, e5, e6, e7⟩ := eightT FE.out
  obtain ⟨r0, r1, g0, g1⟩ := two_T FR.out
  go_wp2_with fail
  obtain ⟨z1, z2, o0, o1⟩ := st_fin H.out HB.out (show w.heap.size ≤ w.heap.size + 1 + 1 by omega) FR.out allSl_nil
  refine bodyPost_ret (v := .tuple #[.agg #[.slice ax nx cx, .slice ay ny cy], .int .i64 1]) (by simp [results, Tryz.results11, go_sem, o0, o1]) rfl ⟨_, _, rfl, z1, z2⟩

set_option maxHeartbeats 3200000 in
set_option maxRecDepth 100000 in
theorem stdo_c1 {w : World} {ax ay : Option Addr} {nx cx ny cy : Nat} {t : Sta} (h : StAt w (.slice ax nx cx) (.slice ay ny cy) t) (he : ShortE t.e) (hl : t.e.length ≤ 900) (hs : ShortS t.s) (u o st : List UInt8) (id a b c : Int) (hu : u.length ≤ 4294967296) (ho : o.length ≤ 4294967296) (hst : st.length ≤ 4294967296) (hm : stMay t = true) {m : List Ent} {n : Nat} (hd : roDo t.e 1 u o = (m, n)) :
    Calls Tryz.prog 11 #[.agg #[.slice ax nx cx, .slice ay ny cy], .agg #[.int .i64 1, .string ⟨u.toArray⟩, .string ⟨o.toArray⟩, .int .i64 id, .int .i64 a, .int .i64 b, .int .i64 c, .string ⟨st.toArray⟩]] w fun e w' => ∃ x' y', e = .returned (.tuple #[.agg #[x', y'], .int .i64 n]) ∧ StAt w' x' y' ⟨m, t.s⟩ ∧ Below w.heap.size w w' := by
  have HM := Lib.hid hm
  have HD := Lib.hid hd
  have b1 := bl_newZ w (.cells #[.slice ax nx cx, .slice ay ny cy] 25)
  have b2 := bl_newZ (w.alloc (.cells #[.slice ax nx cx, .slice ay ny cy] 25)) (.cells #[.int .i64 1, .string ⟨u.toArray⟩, .string ⟨o.toArray⟩, .int .i64 id, .int .i64 a, .int .i64 b, .int .i64 c, .string ⟨st.toArray⟩] 29)
  have b3 := bl_newZ ((w.alloc (.cells #[.slice ax nx cx, .slice ay ny cy] 25)).alloc (.cells #[.int .i64 1, .string ⟨u.toArray⟩, .string ⟨o.toArray⟩, .int .i64 id, .int .i64 a, .int .i64 b, .int .i64 c, .string ⟨st.toArray⟩] 29)) (.cells #[.slice none 0 0, .slice none 0 0] 25)
  have b123 := below2Z b1 (below2Z b2 b3)
  have HB := Lib.hid b123
  have H := Lib.hid (h.later b123)
  have FS := Lib.hid (upT (heap_newT w (.cells #[.slice ax nx cx, .slice ay ny cy] 25)) (below2Z b2 b3))
  have FE := Lib.hid ((cellsAt_made (w := w.alloc (.cells #[.slice ax nx cx, .slice ay ny cy] 25)) (cs := #[.int .i64 1, .string ⟨u.toArray⟩, .string ⟨o.toArray⟩, .int .i64 id, .int .i64 a, .int .i64 b, .int .i64 c, .string ⟨st.toArray⟩]) (vs := evVals ⟨1, u, o, id, ⟨a, b, c, st⟩⟩) rfl 29 (B := w.heap.size + 1) (by simp)).later b3)
  have FR : Hid ((((w.alloc (.cells #[.slice ax nx cx, .slice ay ny cy] 25)).alloc (.cells #[.int .i64 1, .string ⟨u.toArray⟩, .string ⟨o.toArray⟩, .int .i64 id, .int .i64 a, .int .i64 b, .int .i64 c, .string ⟨st.toArray⟩] 29)).alloc (.cells #[.slice none 0 0, .slice none 0 0] 25)).heap[w.heap.size + 1 + 1]? = some (.cells #[.slice none 0 0, .slice none 0 0] 25 (0, 0))) := by
    have hz := heap_newT ((w.alloc (.cells #[.slice ax nx cx, .slice ay ny cy] 25)).alloc (.cells #[.int .i64 1, .string ⟨u.toArray⟩, .string ⟨o.toArray⟩, .int .i64 id, .int .i64 a, .int .i64 b, .int .i64 c, .string ⟨st.toArray⟩] 29)) (.cells #[.slice none 0 0, .slice none 0 0] 25)
    simp only [World.size_alloc] at hz
    exact hz
  have HE := Lib.hid he
  have HS := Lib.hid hs
  obtain ⟨s0, s1, f0, f1⟩ := two_T FS.out
  obtain ⟨e0, e1, e2, e3, e4, e5, e6, e7⟩ := eightT FE.out
  clear b1 b2 b3 b123 h he hs
  clear hm hd
  go_enter Tryz.func11, Tryz.ntmps11
  go_wp2_with fail
  refine (stmay_any H.out HE.out HS.out HM).mono ?_
  rintro e w1 ⟨rfl, c1⟩
  replace HB := Lib.hid (below2Z HB.out c1)
  replace H := Lib.hid (H.out.later c1)
  replace FS := Lib.hid (upT FS.out c1)
  replace FE := Lib.hid (FE.out.later c1)
  replace FR := Lib.hid (upT FR.out c1)
  clear s0 s1 f0 f1 e0 e1 e2 e3 e4 e5 e6 e7 c1
  obtain ⟨s0, s1, f0, f1⟩ := two_T FS.out
  obtain ⟨e0, e1, e2, e3, e4, e5, e6, e7⟩ := eightT FE.out
  obtain ⟨r0, r1, g0, g1⟩ := two_T FR.out
  go_wp2_with fail
  refine (rdo_any H.out.1 HE.out hl u o hu ho 1 (by decide) HD.out).mono ?_
  rintro e w2 ⟨x', rfl, hx, c2⟩
  obtain ⟨ap, np, cp, rfl⟩ : ∃ a n c, x' = .slice a n c := by obtain ⟨a, c, e, -⟩ := Ents.open' hx; exact ⟨_, _, _, e⟩
  replace HB := Lib.hid (below2Z HB.out c2)
  replace H := Lib.hid (H.out.later c2)
  replace FS := Lib.hid (upT FS.out c2)
  replace FE := Lib.hid (FE.out.later c2)
  replace FR := Lib.hid (upT FR.out c2)
  clear s0 s1 f0 f1 e0 e1 e2 e3 e4 e5 e6 e7 r0 r1 g0 g1 c2
  obtain ⟨s0, s1, f0, f1⟩ := two_T FS.out
  obtain ⟨e0, e1, e2, e3, e4, e5, e6, e7⟩ := eightT FE.out
  obtain ⟨r0, r1, g0, g1⟩ := two_T FR.out
  have HN : Hid (StAt w2 (.slice ap np cp) (.slice ay ny cy) ⟨m, t.s⟩) := Lib.hid ⟨hx, H.out.2⟩
  go_wp2_with fail
  obtain ⟨q1, q2, q3⟩ := st_one HN.out HB.out (Nat.le_refl _) FS.out H.out.sl 0 (.slice ap np cp) (show w.heap.size ≠ w.heap.size + 1 + 1 by omega) FR.out
  obtain ⟨z1, z2, o0, o1⟩ := st_fin q1 q2 (show w.heap.size ≤ w.heap.size + 1 + 1 by omega) q3 allSl_nil
  refine bodyPost_ret (v := .tuple #[.agg #[.slice ap np cp, .slice ay ny cy], .int .i64 n]) (by simp [results, Tryz.results11, go_sem, o0, o1]) rfl ⟨_, _, rfl, z1, z2⟩

set_option maxHeartbeats 3200000 in
set_option maxRecDepth 100000 in
theorem stdo_c2 {w : World} {ax ay : Option Addr} {nx cx ny cy : Nat} {t : Sta} (h : StAt w (.slice ax nx cx) (.slice ay ny cy) t) (he : ShortE t.e) (hl : t.e.length ≤ 900) (hs : ShortS t.s) (u o st : List UInt8) (id a b c : Int) (hu : u.length ≤ 4294967296) (ho : o.length ≤ 4294967296) (hst : st.length ≤ 4294967296) (hm : stMay t = true) {m : List Ent} {n : Nat} (hd : roDo t.e 2 u o = (m, n)) :
    Calls Tryz.prog 11 #[.agg #[.slice ax nx cx, .slice ay ny cy], .agg #[.int .i64 2, .string ⟨u.toArray⟩, .string ⟨o.toArray⟩, .int .i64 id, .int .i64 a, .int .i64 b, .int .i64 c, .string ⟨st.toArray⟩]] w fun e w' => ∃ x' y', e = .returned (.tuple #[.agg #[x', y'], .int .i64 n]) ∧ StAt w' x' y' ⟨m, t.s⟩ ∧ Below w.heap.size w w' := by
  have HM := Lib.hid hm
  have HD := Lib.hid hd
  have b1 := bl_newZ w (.cells #[.slice ax nx cx, .slice ay ny cy] 25)
  have b2 := bl_newZ (w.alloc (.cells #[.slice ax nx cx, .slice ay ny cy] 25)) (.cells #[.int .i64 2, .string ⟨u.toArray⟩, .string ⟨o.toArray⟩, .int .i64 id, .int .i64 a, .int .i64 b, .int .i64 c, .string ⟨st.toArray⟩] 29)
  have b3 := bl_newZ ((w.alloc (.cells #[.slice ax nx cx, .slice ay ny cy] 25)).alloc (.cells #[.int .i64 2, .string ⟨u.toArray⟩, .string ⟨o.toArray⟩, .int .i64 id, .int .i64 a, .int .i64 b, .int .i64 c, .string ⟨st.toArray⟩] 29)) (.cells #[.slice none 0 0, .slice none 0 0] 25)
  have b123 := below2Z b1 (below2Z b2 b3)
  have HB := Lib.hid b123
  have H := Lib.hid (h.later b123)
  have FS := Lib.hid (upT (heap_newT w (.cells #[.slice ax nx cx, .slice ay ny cy] 25)) (below2Z b2 b3))
  have FE := Lib.hid ((cellsAt_made (w := w.alloc (.cells #[.slice ax nx cx, .slice ay ny cy] 25)) (cs := #[.int .i64 2, .string ⟨u.toArray⟩, .string ⟨o.toArray⟩, .int .i64 id, .int .i64 a, .int .i64 b, .int .i64 c, .string ⟨st.toArray⟩]) (vs := evVals ⟨2, u, o, id, ⟨a, b, c, st⟩⟩) rfl 29 (B := w.heap.size + 1) (by simp)).later b3)
  have FR : Hid ((((w.alloc (.cells #[.slice ax nx cx, .slice ay ny cy] 25)).alloc (.cells #[.int .i64 2, .string ⟨u.toArray⟩, .string ⟨o.toArray⟩, .int .i64 id, .int .i64 a, .int .i64 b, .int .i64 c, .string ⟨st.toArray⟩] 29)).alloc (.cells #[.slice none 0 0, .slice none 0 0] 25)).heap[w.heap.size + 1 + 1]? = some (.cells #[.slice none 0 0, .slice none 0 0] 25 (0, 0))) := by
    have hz := heap_newT ((w.alloc (.cells #[.slice ax nx cx, .slice ay ny cy] 25)).alloc (.cells #[.int .i64 2, .string ⟨u.toArray⟩, .string ⟨o.toArray⟩, .int .i64 id, .int .i64 a, .int .i64 b, .int .i64 c, .string ⟨st.toArray⟩] 29)) (.cells #[.slice none 0 0, .slice none 0 0] 25)
    simp only [World.size_alloc] at hz
    exact hz
  have HE := Lib.hid he
  have HS := Lib.hid hs
  obtain ⟨s0, s1, f0, f1⟩ := two_T FS.out
  obtain ⟨e0, e1, e2, e3, e4, e5, e6, e7⟩ := eightT FE.out
  clear b1 b2 b3 b123 h he hs
  clear hm hd
  go_enter Tryz.func11, Tryz.ntmps11
  go_wp2_with fail
  refine (stmay_any H.out HE.out HS.out HM).mono ?_
  rintro e w1 ⟨rfl, c1⟩
  replace HB := Lib.hid (below2Z HB.out c1)
  replace H := Lib.hid (H.out.later c1)
  replace FS := Lib.hid (upT FS.out c1)
  replace FE := Lib.hid (FE.out.later c1)
  replace FR := Lib.hid (upT FR.out c1)
  clear s0 s1 f0 f1 e0 e1 e2 e3 e4 e5 e6 e7 c1
  obtain ⟨s0, s1, f0, f1⟩ := two_T FS.out
  obtain ⟨e0, e1, e2, e3, e4, e5, e6, e7⟩ := eightT FE.out
  obtain ⟨r0, r1, g0, g1⟩ := two_T FR.out
  go_wp2_with fail
  refine (rdo_any H.out.1 HE.out hl u o hu ho 2 (by decide) HD.out).mono ?_
  rintro e w2 ⟨x', rfl, hx, c2⟩
  obtain ⟨ap, np, cp, rfl⟩ : ∃ a n c, x' = .slice a n c := by obtain ⟨a, c, e, -⟩ := Ents.open' hx; exact ⟨_, _, _, e⟩
  replace HB := Lib.hid (below2Z HB.out c2)
  replace H := Lib.hid (H.out.later c2)
  replace FS := Lib.hid (upT FS.out c2)
  replace FE := Lib.hid (FE.out.later c2)
  replace FR := Lib.hid (upT FR.out c2)
  clear s0 s1 f0 f1 e0 e1 e2 e3 e4 e5 e6 e7 r0 r1 g0 g1 c2
  obtain ⟨s0, s1, f0, f1⟩ := two_T FS.out
  obtain ⟨e0, e1, e2, e3, e4, e5, e6, e7⟩ := eightT FE.out
  obtain ⟨r0, r1, g0, g1⟩ := two_T FR.out
  have HN : Hid (StAt w2 (.slice ap np cp) (.slice ay ny cy) ⟨m, t.s⟩) := Lib.hid ⟨hx, H.out.2⟩
  go_wp2_with fail
  obtain ⟨q1, q2, q3⟩ := st_one HN.out HB.out (Nat.le_refl _) FS.out H.out.sl 0 (.slice ap np cp) (show w.heap.size ≠ w.heap.size + 1 + 1 by omega) FR.out
  obtain ⟨z1, z2, o0, o1⟩ := st_fin q1 q2 (show w.heap.size ≤ w.heap.size + 1 + 1 by omega) q3 allSl_nil
  refine bodyPost_ret (v := .tuple #[.agg #[.slice ap np cp, .slice ay ny cy], .int .i64 n]) (by simp [results, Tryz.results11, go_sem, o0, o1]) rfl ⟨_, _, rfl, z1, z2⟩

set_option maxHeartbeats 3200000 in
set_option maxRecDepth 100000 in
theorem stdo_c3 {w : World} {ax ay : Option Addr} {nx cx ny cy : Nat} {t : Sta} (h : StAt w (.slice ax nx cx) (.slice ay ny cy) t) (he : ShortE t.e) (hl : t.e.length ≤ 900) (hs : ShortS t.s) (u o st : List UInt8) (id a b c : Int) (hu : u.length ≤ 4294967296) (ho : o.length ≤ 4294967296) (hst : st.length ≤ 4294967296) (hm : stMay t = true) {m : List Ent} {n : Nat} (hd : roDo t.e 3 u o = (m, n)) :
    Calls Tryz.prog 11 #[.agg #[.slice ax nx cx, .slice ay ny cy], .agg #[.int .i64 3, .string ⟨u.toArray⟩, .string ⟨o.toArray⟩, .int .i64 id, .int .i64 a, .int .i64 b, .int .i64 c, .string ⟨st.toArray⟩]] w fun e w' => ∃ x' y', e = .returned (.tuple #[.agg #[x', y'], .int .i64 n]) ∧ StAt w' x' y' ⟨m, t.s⟩ ∧ Below w.heap.size w w' := by
  have HM := Lib.hid hm
  have HD := Lib.hid hd
  have b1 := bl_newZ w (.cells #[.slice ax nx cx, .slice ay ny cy] 25)
  have b2 := bl_newZ (w.alloc (.cells #[.slice ax nx cx, .slice ay ny cy] 25)) (.cells #[.int .i64 3, .string ⟨u.toArray⟩, .string ⟨o.toArray⟩, .int .i64 id, .int .i64 a, .int .i64 b, .int .i64 c, .string ⟨st.toArray⟩] 29)
  have b3 := bl_newZ ((w.alloc (.cells #[.slice ax nx cx, .slice ay ny cy] 25)).alloc (.cells #[.int .i64 3, .string ⟨u.toArray⟩, .string ⟨o.toArray⟩, .int .i64 id, .int .i64 a, .int .i64 b, .int .i64 c, .string ⟨st.toArray⟩] 29)) (.cells #[.slice none 0 0, .slice none 0 0] 25)
  have b123 := below2Z b1 (below2Z b2 b3)
  have HB := Lib.hid b123
  have H := Lib.hid (h.later b123)
  have FS := Lib.hid (upT (heap_newT w (.cells #[.slice ax nx cx, .slice ay ny cy] 25)) (below2Z b2 b3))
  have FE := Lib.hid ((cellsAt_made (w := w.alloc (.cells #[.slice ax nx cx, .slice ay ny cy] 25)) (cs := #[.int .i64 3, .string ⟨u.toArray⟩, .string ⟨o.toArray⟩, .int .i64 id, .int .i64 a, .int .i64 b, .int .i64 c, .string ⟨st.toArray⟩]) (vs := evVals ⟨3, u, o, id, ⟨a, b, c, st⟩⟩) rfl 29 (B := w.heap.size + 1) (by simp)).later b3)
  have FR : Hid ((((w.alloc (.cells #[.slice ax nx cx, .slice ay ny cy] 25)).alloc (.cells #[.int .i64 3, .string ⟨u.toArray⟩, .string ⟨o.toArray⟩, .int .i64 id, .int .i64 a, .int .i64 b, .int .i64 c, .string ⟨st.toArray⟩] 29)).alloc (.cells #[.slice none 0 0, .slice none 0 0] 25)).heap[w.heap.size + 1 + 1]? = some (.cells #[.slice none 0 0, .slice none 0 0] 25 (0, 0))) := by
    have hz := heap_newT ((w.alloc (.cells #[.slice ax nx cx, .slice ay ny cy] 25)).alloc (.cells #[.int .i64 3, .string ⟨u.toArray⟩, .string ⟨o.toArray⟩, .int .i64 id, .int .i64 a, .int .i64 b, .int .i64 c, .string ⟨st.toArray⟩] 29)) (.cells #[.slice none 0 0, .slice none 0 0] 25)
    simp only [World.size_alloc] at hz
    exact hz
  have HE := Lib.hid he
  have HS := Lib.hid hs
  obtain ⟨s0, s1, f0, f1⟩ := two_T FS.out
  obtain ⟨e0, e1, e2, e3, e4, e5, e6, e7⟩ := eightT FE.out
  clear b1 b2 b3 b123 h he hs
  clear hm hd
  go_enter Tryz.func11, Tryz.ntmps11
  go_wp2_with fail
  refine (stmay_any H.out HE.out HS.out HM).mono ?_
  rintro e w1 ⟨rfl, c1⟩
  replace HB := Lib.hid (below2Z HB.out c1)
  replace H := Lib.hid (H.out.later c1)
  replace FS := Lib.hid (upT FS.out c1)
  replace FE := Lib.hid (FE.out.later c1)
  replace FR := Lib.hid (upT FR.out c1)
  clear s0 s1 f0 f1 e0 e1 e2 e3 e4 e5 e6 e7 c1
  obtain ⟨s0, s1, f0, f1⟩ := two_T FS.out
  obtain ⟨e0, e1, e2, e3, e4, e5, e6, e7⟩ := eightT FE.out
  obtain ⟨r0, r1, g0, g1⟩ := two_T FR.out
  go_wp2_with fail
  refine (rdo_any H.out.1 HE.out hl u o hu ho 3 (by decide) HD.out).mono ?_
  rintro e w2 ⟨x', rfl, hx, c2⟩
  obtain ⟨ap, np, cp, rfl⟩ : ∃ a n c, x' = .slice a n c := by obtain ⟨a, c, e, -⟩ := Ents.open' hx; exact ⟨_, _, _, e⟩
  replace HB := Lib.hid (below2Z HB.out c2)
  replace H := Lib.hid (H.out.later c2)
  replace FS := Lib.hid (upT FS.out c2)
  replace FE := Lib.hid (FE.out.later c2)
  replace FR := Lib.hid (upT FR.out c2)
  clear s0 s1 f0 f1 e0 e1 e2 e3 e4 e5 e6 e7 r0 r1 g0 g1 c2
  obtain ⟨s0, s1, f0, f1⟩ := two_T FS.out
  obtain ⟨e0, e1, e2, e3, e4, e5, e6, e7⟩ := eightT FE.out
  obtain ⟨r0, r1, g0, g1⟩ := two_T FR.out
  have HN : Hid (StAt w2 (.slice ap np cp) (.slice ay ny cy) ⟨m, t.s⟩) := Lib.hid ⟨hx, H.out.2⟩
  go_wp2_with fail
  obtain ⟨q1, q2, q3⟩ := st_one HN.out HB.out (Nat.le_refl _) FS.out H.out.sl 0 (.slice ap np cp) (show w.heap.size ≠ w.heap.size + 1 + 1 by omega) FR.out
  obtain ⟨z1, z2, o0, o1⟩ := st_fin q1 q2 (show w.heap.size ≤ w.heap.size + 1 + 1 by omega) q3 allSl_nil
  refine bodyPost_ret (v := .tuple #[.agg #[.slice ap np cp, .slice ay ny cy], .int .i64 n]) (by simp [results, Tryz.results11, go_sem, o0, o1]) rfl ⟨_, _, rfl, z1, z2⟩

set_option maxHeartbeats 3200000 in
set_option maxRecDepth 100000 in
theorem stdo_c4 {w : World} {ax ay : Option Addr} {nx cx ny cy : Nat} {t : Sta} (h : StAt w (.slice ax nx cx) (.slice ay ny cy) t) (he : ShortE t.e) (hl : t.e.length ≤ 900) (hs : ShortS t.s) (u o st : List UInt8) (id a b c : Int) (hu : u.length ≤ 4294967296) (ho : o.length ≤ 4294967296) (hst : st.length ≤ 4294967296) (hm : stMay t = true) {m : List Ent} {n : Nat} (hd : roDo t.e 4 u o = (m, n)) :
    Calls Tryz.prog 11 #[.agg #[.slice ax nx cx, .slice ay ny cy], .agg #[.int .i64 4, .string ⟨u.toArray⟩, .string ⟨o.toArray⟩, .int .i64 id, .int .i64 a, .int .i64 b, .int .i64 c, .string ⟨st.toArray⟩]] w fun e w' => ∃ x' y', e = .returned (.tuple #[.agg #[x', y'], .int .i64 n]) ∧ StAt w' x' y' ⟨m, t.s⟩ ∧ Below w.heap.size w w' := by
  have HM := Lib.hid hm
  have HD := Lib.hid hd
  have b1 := bl_newZ w (.cells #[.slice ax nx cx, .slice ay ny cy] 25)
  have b2 := bl_newZ (w.alloc (.cells #[.slice ax nx cx, .slice ay ny cy] 25)) (.cells #[.int .i64 4, .string ⟨u.toArray⟩, .string ⟨o.toArray⟩, .int .i64 id, .int .i64 a, .int .i64 b, .int .i64 c, .string ⟨st.toArray⟩] 29)
  have b3 := bl_newZ ((w.alloc (.cells #[.slice ax nx cx, .slice ay ny cy] 25)).alloc (.cells #[.int .i64 4, .string ⟨u.toArray⟩, .string ⟨o.toArray⟩, .int .i64 id, .int .i64 a, .int .i64 b, .int .i64 c, .string ⟨st.toArray⟩] 29)) (.cells #[.slice none 0 0, .slice none 0 0] 25)
  have b123 := below2Z b1 (below2Z b2 b3)
  have HB := Lib.hid b123
  have H := Lib.hid (h.later b123)
  have FS := Lib.hid (upT (heap_newT w (.cells #[.slice ax nx cx, .slice ay ny cy] 25)) (below2Z b2 b3))
  have FE := Lib.hid ((cellsAt_made (w := w.alloc (.cells #[.slice ax nx cx, .slice ay ny cy] 25)) (cs := #[.int .i64 4, .string ⟨u.toArray⟩, .string ⟨o.toArray⟩, .int .i64 id, .int .i64 a, .int .i64 b, .int .i64 c, .string ⟨st.toArray⟩]) (vs := evVals ⟨4, u, o, id, ⟨a, b, c, st⟩⟩) rfl 29 (B := w.heap.size + 1) (by simp)).later b3)
  have FR : Hid ((((w.alloc (.cells #[.slice ax nx cx, .slice ay ny cy] 25)).alloc (.cells #[.int .i64 4, .string ⟨u.toArray⟩, .string ⟨o.toArray⟩, .int .i64 id, .int .i64 a, .int .i64 b, .int .i64 c, .string ⟨st.toArray⟩] 29)).alloc (.cells #[.slice none 0 0, .slice none 0 0] 25)).heap[w.heap.size + 1 + 1]? = some (.cells #[.slice none 0 0, .slice none 0 0] 25 (0, 0))) := by
    have hz := heap_newT ((w.alloc (.cells #[.slice ax nx cx, .slice ay ny cy] 25)).alloc (.cells #[.int .i64 4, .string ⟨u.toArray⟩, .string ⟨o.toArray⟩, .int .i64 id, .int .i64 a, .int .i64 b, .int .i64 c, .string ⟨st.toArray⟩] 29)) (.cells #[.slice none 0 0, .slice none 0 0] 25)
    simp only [World.size_alloc] at hz
    exact hz
  have HE := Lib.hid he
  have HS := Lib.hid hs
  obtain ⟨s0, s1, f0, f1⟩ := two_T FS.out
  obtain ⟨e0, e1, e2, e3, e4, e5, e6, e7⟩ := eightT FE.out
  clear b1 b2 b3 b123 h he hs
  clear hm hd
  go_enter Tryz.func11, Tryz.ntmps11
  go_wp2_with fail
  refine (stmay_any H.out HE.out HS.out HM).mono ?_
  rintro e w1 ⟨rfl, c1⟩
  replace HB := Lib.hid (below2Z HB.out c1)
  replace H := Lib.hid (H.out.later c1)
  replace FS := Lib.hid (upT FS.out c1)
  replace FE := Lib.hid (FE.out.later c1)
  replace FR := Lib.hid (upT FR.out c1)
  clear s0 s1 f0 f1 e0 e1 e2 e3 e4 e5 e6 e7 c1
  obtain ⟨s0, s1, f0, f1⟩ := two_T FS.out
  obtain ⟨e0, e1, e2, e3, e4, e5, e6, e7⟩ := eightT FE.out
  obtain ⟨r0, r1, g0, g1⟩ := two_T FR.out
  go_wp2_with fail
  refine (rdo_any H.out.1 HE.out hl u o hu ho 4 (by decide) HD.out).mono ?_
  rintro e w2 ⟨x', rfl, hx, c2⟩
  obtain ⟨ap, np, cp, rfl⟩ : ∃ a n c, x' = .slice a n c := by obtain ⟨a, c, e, -⟩ := Ents.open' hx; exact ⟨_, _, _, e⟩
  replace HB := Lib.hid (below2Z HB.out c2)
  replace H := Lib.hid (H.out.later c2)
  replace FS := Lib.hid (upT FS.out c2)
  replace FE := Lib.hid (FE.out.later c2)
  replace FR := Lib.hid (upT FR.out c2)
  clear s0 s1 f0 f1 e0 e1 e2 e3 e4 e5 e6 e7 r0 r1 g0 g1 c2
  obtain ⟨s0, s1, f0, f1⟩ := two_T FS.out
  obtain ⟨e0, e1, e2, e3, e4, e5, e6, e7⟩ := eightT FE.out
  obtain ⟨r0, r1, g0, g1⟩ := two_T FR.out
  have HN : Hid (StAt w2 (.slice ap np cp) (.slice ay ny cy) ⟨m, t.s⟩) := Lib.hid ⟨hx, H.out.2⟩
  go_wp2_with fail
  obtain ⟨q1, q2, q3⟩ := st_one HN.out HB.out (Nat.le_refl _) FS.out H.out.sl 0 (.slice ap np cp) (show w.heap.size ≠ w.heap.size + 1 + 1 by omega) FR.out
  obtain ⟨z1, z2, o0, o1⟩ := st_fin q1 q2 (show w.heap.size ≤ w.heap.size + 1 + 1 by omega) q3 allSl_nil
  refine bodyPost_ret (v := .tuple #[.agg #[.slice ap np cp, .slice ay ny cy], .int .i64 n]) (by simp [results, Tryz.results11, go_sem, o0, o1]) rfl ⟨_, _, rfl, z1, z2⟩

set_option maxHeartbeats 3200000 in
set_option maxRecDepth 100000 in
theorem stdo_c5 {w : World} {ax ay : Option Addr} {nx cx ny cy : Nat} {t : Sta} (h : StAt w (.slice ax nx cx) (.slice ay ny cy) t) (he : ShortE t.e) (hl : t.e.length ≤ 900) (hs : ShortS t.s) (u o st : List UInt8) (id a b c : Int) (hu : u.length ≤ 4294967296) (ho : o.length ≤ 4294967296) (hst : st.length ≤ 4294967296) (hm : stMay t = true) {m : List Ent} {n : Nat} (hd : roDo t.e 5 u o = (m, n)) :
    Calls Tryz.prog 11 #[.agg #[.slice ax nx cx, .slice ay ny cy], .agg #[.int .i64 5, .string ⟨u.toArray⟩, .string ⟨o.toArray⟩, .int .i64 id, .int .i64 a, .int .i64 b, .int .i64 c, .string ⟨st.toArray⟩]] w fun e w' => ∃ x' y', e = .returned (.tuple #[.agg #[x', y'], .int .i64 n]) ∧ StAt w' x' y' ⟨m, t.s⟩ ∧ Below w.heap.size w w' := by
  have HM := Lib.hid hm
  have HD := Lib.hid hd
  have b1 := bl_newZ w (.cells #[.slice ax nx cx, .slice ay ny cy] 25)
  have b2 := bl_newZ (w.alloc (.cells #[.slice ax nx cx, .slice ay ny cy] 25)) (.cells #[.int .i64 5, .string ⟨u.toArray⟩, .string ⟨o.toArray⟩, .int .i64 id, .int .i64 a, .int .i64 b, .int .i64 c, .string ⟨st.toArray⟩] 29)
  have b3 := bl_newZ ((w.alloc (.cells #[.slice ax nx cx, .slice ay ny cy] 25)).alloc (.cells #[.int .i64 5, .string ⟨u.toArray⟩, .string ⟨o.toArray⟩, .int .i64 id, .int .i64 a, .int .i64 b, .int .i64 c, .string ⟨st.toArray⟩] 29)) (.cells #[.slice none 0 0, .slice none 0 0] 25)
  have b123 := below2Z b1 (below2Z b2 b3)
  have HB := Lib.hid b123
  have H := Lib.hid (h.later b123)
  have FS := Lib.hid (upT (heap_newT w (.cells #[.slice ax nx cx, .slice ay ny cy] 25)) (below2Z b2 b3))
  have FE := Lib.hid ((cellsAt_made (w := w.alloc (.cells #[.slice ax nx cx, .slice ay ny cy] 25)) (cs := #[.int .i64 5, .string ⟨u.toArray⟩, .string ⟨o.toArray⟩, .int .i64 id, .int .i64 a, .int .i64 b, .int .i64 c, .string ⟨st.toArray⟩]) (vs := evVals ⟨5, u, o, id, ⟨a, b, c, st⟩⟩) rfl 29 (B := w.heap.size + 1) (by simp)).later b3)
  have FR : Hid ((((w.alloc (.cells #[.slice ax nx cx, .slice ay ny cy] 25)).alloc (.cells #[.int .i64 5, .string ⟨u.toArray⟩, .string ⟨o.toArray⟩, .int .i64 id, .int .i64 a, .int .i64 b, .int .i64 c, .string ⟨st.toArray⟩] 29)).alloc (.cells #[.slice none 0 0, .slice none 0 0] 25)).heap[w.heap.size + 1 + 1]? = some (.cells #[.slice none 0 0, .slice none 0 0] 25 (0, 0))) := by
    have hz := heap_newT ((w.alloc (.cells #[.slice ax nx cx, .slice ay ny cy] 25)).alloc (.cells #[.int .i64 5, .string ⟨u.toArray⟩, .string ⟨o.toArray⟩, .int .i64 id, .int .i64 a, .int .i64 b, .int .i64 c, .string ⟨st.toArray⟩] 29)) (.cells #[.slice none 0 0, .slice none 0 0] 25)
    simp only [World.size_alloc] at hz
    exact hz
  have HE := Lib.hid he
  have HS := Lib.hid hs
  obtain ⟨s0, s1, f0, f1⟩ := two_T FS.out
  obtain ⟨e0, e1, e2, e3, e4, e5, e6, e7⟩ := eightT FE.out
  clear b1 b2 b3 b123 h he hs
  clear hm hd
  go_enter Tryz.func11, Tryz.ntmps11
  go_wp2_with fail
  refine (stmay_any H.out HE.out HS.out HM).mono ?_
  rintro e w1 ⟨rfl, c1⟩
  replace HB := Lib.hid (below2Z HB.out c1)
  replace H := Lib.hid (H.out.later c1)
  replace FS := Lib.hid (upT FS.out c1)
  replace FE := Lib.hid (FE.out.later c1)
  replace FR := Lib.hid (upT FR.out c1)
  clear s0 s1 f0 f1 e0 e1 e2 e3 e4 e5 e6 e7 c1
  obtain ⟨s0, s1, f0, f1⟩ := two_T FS.out
  obtain ⟨e0, e1, e2, e3, e4, e5, e6, e7⟩ := eightT FE.out
  obtain ⟨r0, r1, g0, g1⟩ := two_T FR.out
  go_wp2_with fail
  refine (rdo_any H.out.1 HE.out hl u o hu ho 5 (by decide) HD.out).mono ?_
  rintro e w2 ⟨x', rfl, hx, c2⟩
  obtain ⟨ap, np, cp, rfl⟩ : ∃ a n c, x' = .slice a n c := by obtain ⟨a, c, e, -⟩ := Ents.open' hx; exact ⟨_, _, _, e⟩
  replace HB := Lib.hid (below2Z HB.out c2)
  replace H := Lib.hid (H.out.later c2)
  replace FS := Lib.hid (upT FS.out c2)
  replace FE := Lib.hid (FE.out.later c2)
  replace FR := Lib.hid (upT FR.out c2)
  clear s0 s1 f0 f1 e0 e1 e2 e3 e4 e5 e6 e7 r0 r1 g0 g1 c2
  obtain ⟨s0, s1, f0, f1⟩ := two_T FS.out
  obtain ⟨e0, e1, e2, e3, e4, e5, e6, e7⟩ := eightT FE.out
  obtain ⟨r0, r1, g0, g1⟩ := two_T FR.out
  have HN : Hid (StAt w2 (.slice ap np cp) (.slice ay ny cy) ⟨m, t.s⟩) := Lib.hid ⟨hx, H.out.2⟩
  go_wp2_with fail
  obtain ⟨q1, q2, q3⟩ := st_one HN.out HB.out (Nat.le_refl _) FS.out H.out.sl 0 (.slice ap np cp) (show w.heap.size ≠ w.heap.size + 1 + 1 by omega) FR.out
  obtain ⟨z1, z2, o0, o1⟩ := st_fin q1 q2 (show w.heap.size ≤ w.heap.size + 1 + 1 by omega) q3 allSl_nil
  refine bodyPost_ret (v := .tuple #[.agg #[.slice ap np cp, .slice ay ny cy], .int .i64 n]) (by simp [results, Tryz.results11, go_sem, o0, o1]) rfl ⟨_, _, rfl, z1, z2⟩

set_option maxHeartbeats 3200000 in
set_option maxRecDepth 100000 in
theorem stdo_c6 {w : World} {ax ay : Option Addr} {nx cx ny cy : Nat} {t : Sta} (h : StAt w (.slice ax nx cx) (.slice ay ny cy) t) (he : ShortE t.e) (hl : t.e.length ≤ 900) (hs : ShortS t.s) (u o st : List UInt8) (id a b c : Int) (hu : u.length ≤ 4294967296) (ho : o.length ≤ 4294967296) (hst : st.length ≤ 4294967296) (hm : stMay t = true) {m : List Ent} {n : Nat} (hd : roDo t.e 6 u o = (m, n)) :
    Calls Tryz.prog 11 #[.agg #[.slice ax nx cx, .slice ay ny cy], .agg #[.int .i64 6, .string ⟨u.toArray⟩, .string ⟨o.toArray⟩, .int .i64 id, .int .i64 a, .int .i64 b, .int .i64 c, .string ⟨st.toArray⟩]] w fun e w' => ∃ x' y', e = .returned (.tuple #[.agg #[x', y'], .int .i64 n]) ∧ StAt w' x' y' ⟨m, t.s⟩ ∧ Below w.heap.size w w' := by
  have HM := Lib.hid hm
  have HD := Lib.hid hd
  have b1 := bl_newZ w (.cells #[.slice ax nx cx, .slice ay ny cy] 25)
  have b2 := bl_newZ (w.alloc (.cells #[.slice ax nx cx, .slice ay ny cy] 25)) (.cells #[.int .i64 6, .string ⟨u.toArray⟩, .string ⟨o.toArray⟩, .int .i64 id, .int .i64 a, .int .i64 b, .int .i64 c, .string ⟨st.toArray⟩] 29)
  have b3 := bl_newZ ((w.alloc (.cells #[.slice ax nx cx, .slice ay ny cy] 25)).alloc (.cells #[.int .i64 6, .string ⟨u.toArray⟩, .string ⟨o.toArray⟩, .int .i64 id, .int .i64 a, .int .i64 b, .int .i64 c, .string ⟨st.toArray⟩] 29)) (.cells #[.slice none 0 0, .slice none 0 0] 25)
  have b123 := below2Z b1 (below2Z b2 b3)
  have HB := Lib.hid b123
  have H := Lib.hid (h.later b123)
  have FS := Lib.hid (upT (heap_newT w (.cells #[.slice ax nx cx, .slice ay ny cy] 25)) (below2Z b2 b3))
  have FE := Lib.hid ((cellsAt_made (w := w.alloc (.cells #[.slice ax nx cx, .slice ay ny cy] 25)) (cs := #[.int .i64 6, .string ⟨u.toArray⟩, .string ⟨o.toArray⟩, .int .i64 id, .int .i64 a, .int .i64 b, .int .i64 c, .string ⟨st.toArray⟩]) (vs := evVals ⟨6, u, o, id, ⟨a, b, c, st⟩⟩) rfl 29 (B := w.heap.size + 1) (by simp)).later b3)
  have FR : Hid ((((w.alloc (.cells #[.slice ax nx cx, .slice ay ny cy] 25)).alloc (.cells #[.int .i64 6, .string ⟨u.toArray⟩, .string ⟨o.toArray⟩, .int .i64 id, .int .i64 a, .int .i64 b, .int .i64 c, .string ⟨st.toArray⟩] 29)).alloc (.cells #[.slice none 0 0, .slice none 0 0] 25)).heap[w.heap.size + 1 + 1]? = some (.cells #[.slice none 0 0, .slice none 0 0] 25 (0, 0))) := by
    have hz := heap_newT ((w.alloc (.cells #[.slice ax nx cx, .slice ay ny cy] 25)).alloc (.cells #[.int .i64 6, .string ⟨u.toArray⟩, .string ⟨o.toArray⟩, .int .i64 id, .int .i64 a, .int .i64 b, .int .i64 c, .string ⟨st.toArray⟩] 29)) (.cells #[.slice none 0 0, .slice none 0 0] 25)
    simp only [World.size_alloc] at hz
    exact hz
  have HE := Lib.hid he
  have HS := Lib.hid hs
  obtain ⟨s0, s1, f0, f1⟩ := two_T FS.out
  obtain ⟨e0, e1, e2, e3, e4, e5, e6, e7⟩ := eightT FE.out
  clear b1 b2 b3 b123 h he hs
  clear hm hd
  go_enter Tryz.func11, Tryz.ntmps11
  go_wp2_with fail
  refine (stmay_any H.out HE.out HS.out HM).mono ?_
  rintro e w1 ⟨rfl, c1⟩
  replace HB := Lib.hid (below2Z HB.out c1)
  replace H := Lib.hid (H.out.later c1)
  replace FS := Lib.hid (upT FS.out c1)
  replace FE := Lib.hid (FE.out.later c1)
  replace FR := Lib.hid (upT FR.out c1)
  clear s0 s1 f0 f1 e0 e1 e2 e3 e4 e5 e6 e7 c1
  obtain ⟨s0, s1, f0, f1⟩ := two_T FS.out
  obtain ⟨e0, e1, e2, e3, e4, e5, e6, e7⟩ := eightT FE.out
  obtain ⟨r0, r1, g0, g1⟩ := two_T FR.out
  go_wp2_with fail
  refine (rdo_any H.out.1 HE.out hl u o hu ho 6 (by decide) HD.out).mono ?_
  rintro e w2 ⟨x', rfl, hx, c2⟩
  obtain ⟨ap, np, cp, rfl⟩ : ∃ a n c, x' = .slice a n c := by obtain ⟨a, c, e, -⟩ := Ents.open' hx; exact ⟨_, _, _, e⟩
  replace HB := Lib.hid (below2Z HB.out c2)
  replace H := Lib.hid (H.out.later c2)
  replace FS := Lib.hid (upT FS.out c2)
  replace FE := Lib.hid (FE.out.later c2)
  replace FR := Lib.hid (upT FR.out c2)
  clear s0 s1 f0 f1 e0 e1 e2 e3 e4 e5 e6 e7 r0 r1 g0 g1 c2
  obtain ⟨s0, s1, f0, f1⟩ := two_T FS.out
  obtain ⟨e0, e1, e2, e3, e4, e5, e6, e7⟩ := eightT FE.out
  obtain ⟨r0, r1, g0, g1⟩ := two_T FR.out
  have HN : Hid (StAt w2 (.slice ap np cp) (.slice ay ny cy) ⟨m, t.s⟩) := Lib.hid ⟨hx, H.out.2⟩
  go_wp2_with fail
  obtain ⟨q1, q2, q3⟩ := st_one HN.out HB.out (Nat.le_refl _) FS.out H.out.sl 0 (.slice ap np cp) (show w.heap.size ≠ w.heap.size + 1 + 1 by omega) FR.out
  obtain ⟨z1, z2, o0, o1⟩ := st_fin q1 q2 (show w.heap.size ≤ w.heap.size + 1 + 1 by omega) q3 allSl_nil
  refine bodyPost_ret (v := .tuple #[.agg #[.slice ap np cp, .slice ay ny cy], .int .i64 n]) (by simp [results, Tryz.results11, go_sem, o0, o1]) rfl ⟨_, _, rfl, z1, z2⟩

set_option maxHeartbeats 3200000 in
set_option maxRecDepth 100000 in
theorem stdo_d {w : World} {ax ay : Option Addr} {nx cx ny cy : Nat} {t : Sta} (h : StAt w (.slice ax nx cx) (.slice ay ny cy) t) (he : ShortE t.e) (hl : t.e.length ≤ 900) (hs : ShortS t.s) (u o st : List UInt8) (id a b c : Int) (hu : u.length ≤ 4294967296) (ho : o.length ≤ 4294967296) (hst : st.length ≤ 4294967296) (hm : stMay t = true) {m : List Ses} {n : Nat} (hd : sePut t.s ⟨u, id, ⟨a, b, c, st⟩⟩ = (m, n)) :
    Calls Tryz.prog 11 #[.agg #[.slice ax nx cx, .slice ay ny cy], .agg #[.int .i64 7, .string ⟨u.toArray⟩, .string ⟨o.toArray⟩, .int .i64 id, .int .i64 a, .int .i64 b, .int .i64 c, .string ⟨st.toArray⟩]] w fun e w' => ∃ x' y', e = .returned (.tuple #[.agg #[x', y'], .int .i64 n]) ∧ StAt w' x' y' ⟨t.e, m⟩ ∧ Below w.heap.size w w' := by
  have HM := Lib.hid hm
  have HD := Lib.hid hd
  have b1 := bl_newZ w (.cells #[.slice ax nx cx, .slice ay ny cy] 25)
  have b2 := bl_newZ (w.alloc (.cells #[.slice ax nx cx, .slice ay ny cy] 25)) (.cells #[.int .i64 7, .string ⟨u.toArray⟩, .string ⟨o.toArray⟩, .int .i64 id, .int .i64 a, .int .i64 b, .int .i64 c, .string ⟨st.toArray⟩] 29)
  have b3 := bl_newZ ((w.alloc (.cells #[.slice ax nx cx, .slice ay ny cy] 25)).alloc (.cells #[.int .i64 7, .string ⟨u.toArray⟩, .string ⟨o.toArray⟩, .int .i64 id, .int .i64 a, .int .i64 b, .int .i64 c, .string ⟨st.toArray⟩] 29)) (.cells #[.slice none 0 0, .slice none 0 0] 25)
  have b123 := below2Z b1 (below2Z b2 b3)
  have HB := Lib.hid b123
  have H := Lib.hid (h.later b123)
  have FS := Lib.hid (upT (heap_newT w (.cells #[.slice ax nx cx, .slice ay ny cy] 25)) (below2Z b2 b3))
  have FE := Lib.hid ((cellsAt_made (w := w.alloc (.cells #[.slice ax nx cx, .slice ay ny cy] 25)) (cs := #[.int .i64 7, .string ⟨u.toArray⟩, .string ⟨o.toArray⟩, .int .i64 id, .int .i64 a, .int .i64 b, .int .i64 c, .string ⟨st.toArray⟩]) (vs := evVals ⟨7, u, o, id, ⟨a, b, c, st⟩⟩) rfl 29 (B := w.heap.size + 1) (by simp)).later b3)
  have FR : Hid ((((w.alloc (.cells #[.slice ax nx cx, .slice ay ny cy] 25)).alloc (.cells #[.int .i64 7, .string ⟨u.toArray⟩, .string ⟨o.toArray⟩, .int .i64 id, .int .i64 a, .int .i64 b, .int .i64 c, .string ⟨st.toArray⟩] 29)).alloc (.cells #[.slice none 0 0, .slice none 0 0] 25)).heap[w.heap.size + 1 + 1]? = some (.cells #[.slice none 0 0, .slice none 0 0] 25 (0, 0))) := by
    have hz := heap_newT ((w.alloc (.cells #[.slice ax nx cx, .slice ay ny cy] 25)).alloc (.cells #[.int .i64 7, .string ⟨u.toArray⟩, .string ⟨o.toArray⟩, .int .i64 id, .int .i64 a, .int .i64 b, .int .i64 c, .string ⟨st.toArray⟩] 29)) (.cells #[.slice none 0 0, .slice none 0 0] 25)
    simp only [World.size_alloc] at hz
    exact hz
  have HE := Lib.hid he
  have HS := Lib.hid hs
  obtain ⟨s0, s1, f0, f1⟩ := two_T FS.out
  obtain ⟨e0, e1, e2, e3, e4, e5, e6, e7⟩ := eightT FE.out
  clear b1 b2 b3 b123 h he hs
  clear hm hd
  go_enter Tryz.func11, Tryz.ntmps11
  go_wp2_with fail
  refine (stmay_any H.out HE.out HS.out HM).mono ?_
  rintro e w1 ⟨rfl, c1⟩
  replace HB := Lib.hid (below2Z HB.out c1)
  replace H := Lib.hid (H.out.later c1)
  replace FS := Lib.hid (upT FS.out c1)
  replace FE := Lib.hid (FE.out.later c1)
  replace FR := Lib.hid (upT FR.out c1)
  clear s0 s1 f0 f1 e0 e1 e2 e3 e4 e5 e6 e7 c1
  obtain ⟨s0, s1, f0, f1⟩ := two_T FS.out
  obtain ⟨e0, e1, e2, e3, e4, e5, e6, e7⟩ := eightT FE.out
  obtain ⟨r0, r1, g0, g1⟩ := two_T FR.out
  go_wp2_with fail
  refine (sput_any H.out.2 HS.out ⟨u, id, ⟨a, b, c, st⟩⟩ hu hst HD).mono ?_
  rintro e w2 ⟨x', rfl, hx, c2⟩
  obtain ⟨ap, np, cp, rfl⟩ : ∃ a n c, x' = .slice a n c := by obtain ⟨a, c, e, -⟩ := RdS.open' hx; exact ⟨_, _, _, e⟩
  replace HB := Lib.hid (below2Z HB.out c2)
  replace H := Lib.hid (H.out.later c2)
  replace FS := Lib.hid (upT FS.out c2)
  replace FE := Lib.hid (FE.out.later c2)
  replace FR := Lib.hid (upT FR.out c2)
  clear s0 s1 f0 f1 e0 e1 e2 e3 e4 e5 e6 e7 r0 r1 g0 g1 c2
  obtain ⟨s0, s1, f0, f1⟩ := two_T FS.out
  obtain ⟨e0, e1, e2, e3, e4, e5, e6, e7⟩ := eightT FE.out
  obtain ⟨r0, r1, g0, g1⟩ := two_T FR.out
  have HN : Hid (StAt w2 (.slice ax nx cx) (.slice ap np cp) ⟨t.e, m⟩) := Lib.hid ⟨H.out.1, hx⟩
  go_wp2_with fail
  obtain ⟨q1, q2, q3⟩ := st_one HN.out HB.out (Nat.le_refl _) FS.out H.out.sl 1 (.slice ap np cp) (show w.heap.size ≠ w.heap.size + 1 + 1 by omega) FR.out
  obtain ⟨z1, z2, o0, o1⟩ := st_fin q1 q2 (show w.heap.size ≤ w.heap.size + 1 + 1 by omega) q3 allSl_nil
  refine bodyPost_ret (v := .tuple #[.agg #[.slice ax nx cx, .slice ap np cp], .int .i64 n]) (by simp [results, Tryz.results11, go_sem, o0, o1]) rfl ⟨_, _, rfl, z1, z2⟩

set_option maxHeartbeats 3200000 in
set_option maxRecDepth 100000 in
theorem stdo_e {w : World} {ax ay : Option Addr} {nx cx ny cy : Nat} {t : Sta} (h : StAt w (.slice ax nx cx) (.slice ay ny cy) t) (he : ShortE t.e) (hl : t.e.length ≤ 900) (hs : ShortS t.s) (u o st : List UInt8) (id a b c : Int) (hu : u.length ≤ 4294967296) (ho : o.length ≤ 4294967296) (hst : st.length ≤ 4294967296) (hm : stMay t = true) {m : List Ses} {n : Nat} (hd : seDrop t.s u id = (m, n)) :
    Calls Tryz.prog 11 #[.agg #[.slice ax nx cx, .slice ay ny cy], .agg #[.int .i64 8, .string ⟨u.toArray⟩, .string ⟨o.toArray⟩, .int .i64 id, .int .i64 a, .int .i64 b, .int .i64 c, .string ⟨st.toArray⟩]] w fun e w' => ∃ x' y', e = .returned (.tuple #[.agg #[x', y'], .int .i64 n]) ∧ StAt w' x' y' ⟨t.e, m⟩ ∧ Below w.heap.size w w' := by
  have HM := Lib.hid hm
  have HD := Lib.hid hd
  have b1 := bl_newZ w (.cells #[.slice ax nx cx, .slice ay ny cy] 25)
  have b2 := bl_newZ (w.alloc (.cells #[.slice ax nx cx, .slice ay ny cy] 25)) (.cells #[.int .i64 8, .string ⟨u.toArray⟩, .string ⟨o.toArray⟩, .int .i64 id, .int .i64 a, .int .i64 b, .int .i64 c, .string ⟨st.toArray⟩] 29)
  have b3 := bl_newZ ((w.alloc (.cells #[.slice ax nx cx, .slice ay ny cy] 25)).alloc (.cells #[.int .i64 8, .string ⟨u.toArray⟩, .string ⟨o.toArray⟩, .int .i64 id, .int .i64 a, .int .i64 b, .int .i64 c, .string ⟨st.toArray⟩] 29)) (.cells #[.slice none 0 0, .slice none 0 0] 25)
  have b123 := below2Z b1 (below2Z b2 b3)
  have HB := Lib.hid b123
  have H := Lib.hid (h.later b123)
  have FS := Lib.hid (upT (heap_newT w (.cells #[.slice ax nx cx, .slice ay ny cy] 25)) (below2Z b2 b3))
  have FE := Lib.hid ((cellsAt_made (w := w.alloc (.cells #[.slice ax nx cx, .slice ay ny cy] 25)) (cs := #[.int .i64 8, .string ⟨u.toArray⟩, .string ⟨o.toArray⟩, .int .i64 id, .int .i64 a, .int .i64 b, .int .i64 c, .string ⟨st.toArray⟩]) (vs := evVals ⟨8, u, o, id, ⟨a, b, c, st⟩⟩) rfl 29 (B := w.heap.size + 1) (by simp)).later b3)
  have FR : Hid ((((w.alloc (.cells #[.slice ax nx cx, .slice ay ny cy] 25)).alloc (.cells #[.int .i64 8, .string ⟨u.toArray⟩, .string ⟨o.toArray⟩, .int .i64 id, .int .i64 a, .int .i64 b, .int .i64 c, .string ⟨st.toArray⟩] 29)).alloc (.cells #[.slice none 0 0, .slice none 0 0] 25)).heap[w.heap.size + 1 + 1]? = some (.cells #[.slice none 0 0, .slice none 0 0] 25 (0, 0))) := by
    have hz := heap_newT ((w.alloc (.cells #[.slice ax nx cx, .slice ay ny cy] 25)).alloc (.cells #[.int .i64 8, .string ⟨u.toArray⟩, .string ⟨o.toArray⟩, .int .i64 id, .int .i64 a, .int .i64 b, .int .i64 c, .string ⟨st.toArray⟩] 29)) (.cells #[.slice none 0 0, .slice none 0 0] 25)
    simp only [World.size_alloc] at hz
    exact hz
  have HE := Lib.hid he
  have HS := Lib.hid hs
  obtain ⟨s0, s1, f0, f1⟩ := two_T FS.out
  obtain ⟨e0, e1, e2, e3, e4, e5, e6, e7⟩ := eightT FE.out
  clear b1 b2 b3 b123 h he hs
  clear hm hd
  go_enter Tryz.func11, Tryz.ntmps11
  go_wp2_with fail
  refine (stmay_any H.out HE.out HS.out HM).mono ?_
  rintro e w1 ⟨rfl, c1⟩
  replace HB := Lib.hid (below2Z HB.out c1)
  replace H := Lib.hid (H.out.later c1)
  replace FS := Lib.hid (upT FS.out c1)
  replace FE := Lib.hid (FE.out.later c1)
  replace FR := Lib.hid (upT FR.out c1)
  clear s0 s1 f0 f1 e0 e1 e2 e3 e4 e5 e6 e7 c1
  obtain ⟨s0, s1, f0, f1⟩ := two_T FS.out
  obtain ⟨e0, e1, e2, e3, e4, e5, e6, e7⟩ := eightT FE.out
  obtain ⟨r0, r1, g0, g1⟩ := two_T FR.out
  go_wp2_with fail
  refine (sdrop_any H.out.2 HS.out u id HD).mono ?_
  rintro e w2 ⟨x', rfl, hx, c2⟩
  obtain ⟨ap, np, cp, rfl⟩ : ∃ a n c, x' = .slice a n c := by obtain ⟨a, c, e, -⟩ := RdS.open' hx; exact ⟨_, _, _, e⟩
  replace HB := Lib.hid (below2Z HB.out c2)
  replace H := Lib.hid (H.out.later c2)
  replace FS := Lib.hid (upT FS.out c2)
  replace FE := Lib.hid (FE.out.later c2)
  replace FR := Lib.hid (upT FR.out c2)
  clear s0 s1 f0 f1 e0 e1 e2 e3 e4 e5 e6 e7 r0 r1 g0 g1 c2
  obtain ⟨s0, s1, f0, f1⟩ := two_T FS.out
  obtain ⟨e0, e1, e2, e3, e4, e5, e6, e7⟩ := eightT FE.out
  obtain ⟨r0, r1, g0, g1⟩ := two_T FR.out
  have HN : Hid (StAt w2 (.slice ax nx cx) (.slice ap np cp) ⟨t.e, m⟩) := Lib.hid ⟨H.out.1, hx⟩
  go_wp2_with fail
  obtain ⟨q1, q2, q3⟩ := st_one HN.out HB.out (Nat.le_refl _) FS.out H.out.sl 1 (.slice ap np cp) (show w.heap.size ≠ w.heap.size + 1 + 1 by omega) FR.out
  obtain ⟨z1, z2, o0, o1⟩ := st_fin q1 q2 (show w.heap.size ≤ w.heap.size + 1 + 1 by omega) q3 allSl_nil
  refine bodyPost_ret (v := .tuple #[.agg #[.slice ax nx cx, .slice ap np cp], .int .i64 n]) (by simp [results, Tryz.results11, go_sem, o0, o1]) rfl ⟨_, _, rfl, z1, z2⟩

theorem stdo_any {w : World} {x y : Value} {t : Sta} (h : StAt w x y t) (he : ShortE t.e) (hl : t.e.length ≤ 900) (hs : ShortS t.s) (e : Ev) (hu : e.u.length ≤ 4294967296) (ho : e.o.length ≤ 4294967296) (hst : e.v.st.length ≤ 4294967296) {t' : Sta} {n : Nat} (hd : stApply t e = (t', n)) :
    Calls Tryz.prog 11 #[.agg #[x, y], .agg #[.int .i64 e.k, .string ⟨e.u.toArray⟩, .string ⟨e.o.toArray⟩, .int .i64 e.id, .int .i64 e.v.sh, .int .i64 e.v.pr, .int .i64 e.v.si, .string ⟨e.v.st.toArray⟩]] w fun z w' => ∃ x' y', z = .returned (.tuple #[.agg #[x', y'], .int .i64 n]) ∧ StAt w' x' y' t' ∧ Below w.heap.size w w' := by
  obtain ⟨ax, cx, rfl, -⟩ := h.1.open'
  obtain ⟨ay, cy, rfl, -⟩ := RdS.open' h.2
  cases hm : stMay t with
  | false =>
    rw [stApply_bad (.inl hm)] at hd
    obtain ⟨rfl, rfl⟩ := Prod.mk.inj hd
    exact stdo_a h he hl hs e.u e.o e.v.st e.id e.v.sh e.v.pr e.v.si hu ho hst e.k hm
  | true =>
    by_cases hb : e.k < 1 ∨ 8 < e.k
    · rw [stApply_bad (.inr hb)] at hd
      obtain ⟨rfl, rfl⟩ := Prod.mk.inj hd
      exact stdo_b h he hl hs e.u e.o e.v.st e.id e.v.sh e.v.pr e.v.si hu ho hst e.k hm hb
    · obtain ⟨k, u, o, id, v⟩ := e
      try simp only at hb hu ho hst
      by_cases h6 : k ≤ 6
      · obtain ⟨m, j, hr⟩ : ∃ m j, roDo t.e k u o = (m, j) := ⟨_, _, rfl⟩
        rw [stApply_do hm (by show 1 ≤ k; omega) h6 hr] at hd
        obtain ⟨rfl, rfl⟩ := Prod.mk.inj hd
        have hk : k = 1 ∨ k = 2 ∨ k = 3 ∨ k = 4 ∨ k = 5 ∨ k = 6 := by omega
        rcases hk with rfl | rfl | rfl | rfl | rfl | rfl
        · exact stdo_c1 h he hl hs u o v.st id v.sh v.pr v.si hu ho hst hm hr
        · exact stdo_c2 h he hl hs u o v.st id v.sh v.pr v.si hu ho hst hm hr
        · exact stdo_c3 h he hl hs u o v.st id v.sh v.pr v.si hu ho hst hm hr
        · exact stdo_c4 h he hl hs u o v.st id v.sh v.pr v.si hu ho hst hm hr
        · exact stdo_c5 h he hl hs u o v.st id v.sh v.pr v.si hu ho hst hm hr
        · exact stdo_c6 h he hl hs u o v.st id v.sh v.pr v.si hu ho hst hm hr
      · by_cases h7 : k = 7
        · obtain ⟨m, j, hr⟩ : ∃ m j, sePut t.s ⟨u, id, v⟩ = (m, j) := ⟨_, _, rfl⟩
          rw [stApply_put hm h7 hr] at hd
          obtain ⟨rfl, rfl⟩ := Prod.mk.inj hd
          subst h7
          exact stdo_d h he hl hs u o v.st id v.sh v.pr v.si hu ho hst hm hr
        · have h8 : k = 8 := by omega
          obtain ⟨m, j, hr⟩ : ∃ m j, seDrop t.s u id = (m, j) := ⟨_, _, rfl⟩
          rw [stApply_drop hm h8 hr] at hd
          obtain ⟨rfl, rfl⟩ := Prod.mk.inj hd
          subst h8
          exact stdo_e h he hl hs u o v.st id v.sh v.pr v.si hu ho hst hm hr

end Go.Proofs.YthfkfonfiejbmaaGreat

end
