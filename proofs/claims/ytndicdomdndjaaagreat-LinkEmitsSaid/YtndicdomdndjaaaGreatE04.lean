/-
  TEXTS OF THE PROOF, one behind the other: PacPure, PacFrame, LnkFrame, CrcPure, FraPure, LinkPure, SeqS, LnkFrm, QueOne, Rgm, QueMay, ChgIns, Blk, QueFind, LnkMem, QuePush, DigRset, DigSameC.
-/
import Derived.Test.YtndicdomdndjaaaGreatProg
import Derived.ProofKit
import Derived.OpenShut
import Derived.Lib.SmallJoins
import Derived.Deep.Slices
import Derived.Deep.Fields
import Derived.ChangeSame
import Derived.Test.YtndicdomdndjaaaGreatE03
import Derived.Test.YtndicdomdndjaaaGreatE01
import Derived.Test.YtndicdomdndjaaaGreatE02
import Derived.Lib.QuietBelow
import Derived.Lib.Hide
import Derived.Maps.OwnSet
import Derived.Deep.RegionHeld
import Derived.Deep.AppendLies
import Derived.WalkSpells
import Derived.StillTailTactics
import Derived.MapKept
import Derived.Deep.DeepCutAuto
import Derived.Deep.CutBlock

section

/-
  LAYER 16, PLAIN: configs, buckets, levels, what is taken; and what the statements of the layer say of them.
-/
namespace Go.Proofs.YtndicdomdndjaaaGreat

structure Cfg where
  room : Int
  burst : Int
  rate : Int
  per : Int

structure Bkt where
  tok : Int
  at' : Int

def pcMay (c : Cfg) : Bool := decide (1 ≤ c.room) && (decide (c.room ≤ 16) && (decide (1 ≤ c.burst) && (decide (c.burst ≤ 64) && (decide (1 ≤ c.rate) && (decide (c.rate ≤ 16) && (decide (1 ≤ c.per) && decide (c.per ≤ 1000)))))))
def pcTime (n : Int) : Bool := decide (0 ≤ n) && decide (n ≤ 1099511627776)
def pcOne (c : Cfg) (b : Bkt) : Bool := pcMay c && (decide (0 ≤ b.tok) && (decide (b.tok ≤ c.burst) && pcTime b.at'))

def pcNew (c : Cfg) (now : Int) : Bkt × Nat := if (pcMay c && pcTime now) = true then (⟨c.burst, now⟩, 0) else (⟨0, 0⟩, 1)

/-- The level, where all may be. -/
def pcLev (c : Cfg) (b : Bkt) (now : Int) : Int := if now ≤ b.at' then b.tok else min c.burst (b.tok + (now - b.at') * c.rate)

def pcLevel (c : Cfg) (b : Bkt) (now : Int) : Int := if (pcOne c b && pcTime now) = true then pcLev c b now else 0

def pcTake (c : Cfg) (b : Bkt) (now : Int) : Bkt × Bool :=
  if (pcOne c b && pcTime now) = true then
    (if pcLev c b now = 0 then (⟨0, max now b.at'⟩, false) else (⟨pcLev c b now - 1, max now b.at'⟩, true))
  else (b, false)

def pcWait (c : Cfg) (b : Bkt) (now : Int) : Int := if (pcOne c b && pcTime now) = true then (if 1 ≤ pcLev c b now then 0 else 1) else 0

theorem pcMay_iff {c : Cfg} : pcMay c = true ↔ 1 ≤ c.room ∧ c.room ≤ 16 ∧ 1 ≤ c.burst ∧ c.burst ≤ 64 ∧ 1 ≤ c.rate ∧ c.rate ≤ 16 ∧ 1 ≤ c.per ∧ c.per ≤ 1000 := by
  unfold pcMay; simp only [Bool.and_eq_true, decide_eq_true_eq]

theorem pcTime_iff {n : Int} : pcTime n = true ↔ 0 ≤ n ∧ n ≤ 1099511627776 := by
  unfold pcTime; simp only [Bool.and_eq_true, decide_eq_true_eq]

theorem pcOne_iff {c : Cfg} {b : Bkt} : pcOne c b = true ↔ pcMay c = true ∧ 0 ≤ b.tok ∧ b.tok ≤ c.burst ∧ 0 ≤ b.at' ∧ b.at' ≤ 1099511627776 := by
  unfold pcOne; simp only [Bool.and_eq_true, decide_eq_true_eq, pcTime_iff]

theorem mul_ge {a r : Int} (ha : 1 ≤ a) (hr : 1 ≤ r) : a ≤ a * r ∧ r ≤ a * r := by
  have h1 : a * 1 ≤ a * r := Int.mul_le_mul_of_nonneg_left hr (by omega)
  have h2 : 1 * r ≤ a * r := Int.mul_le_mul_of_nonneg_right ha (by omega)
  omega

theorem pcLev_ge {c : Cfg} {b : Bkt} {now : Int} (h : pcOne c b = true) : 0 ≤ pcLev c b now ∧ pcLev c b now ≤ c.burst ∧ min c.burst b.tok ≤ pcLev c b now := by
  obtain ⟨hm, h1, h2, h3, h4⟩ := pcOne_iff.1 h
  obtain ⟨_, _, m1, m2, m3, m4, _, _⟩ := pcMay_iff.1 hm
  unfold pcLev
  split
  · omega
  · next hn =>
    obtain ⟨g1, g2⟩ := mul_ge (a := now - b.at') (r := c.rate) (by omega) m3
    omega

theorem pcTake_in {c : Cfg} {b : Bkt} {now : Int} (h : pcOne c b = true) (hn : pcTime now = true) :
    pcTake c b now = if pcLev c b now = 0 then (⟨0, max now b.at'⟩, false) else (⟨pcLev c b now - 1, max now b.at'⟩, true) := by
  unfold pcTake
  rw [if_pos (by rw [h, hn]; rfl)]

theorem pcLevel_in {c : Cfg} {b : Bkt} {now : Int} (h : pcOne c b = true) (hn : pcTime now = true) : pcLevel c b now = pcLev c b now := by
  unfold pcLevel
  rw [if_pos (by rw [h, hn]; rfl)]

/-- PaceRate: what holds of the ticks at which was taken, and of the bucket that is left. -/
structure RateOK (c : Cfg) (b : Bkt) (at' : List Int) : Prop where
  left : ∀ i (hi : i < at'.length), ((at'.length - i : Nat) : Int) + b.tok ≤ c.burst + c.rate * (b.at' - at'[i])
  all : ∀ i k (hk : k < at'.length) (hik : i ≤ k), ((k - i + 1 : Nat) : Int) ≤ c.burst + c.rate * (at'[k] - at'[i]'(by omega))

end Go.Proofs.YtndicdomdndjaaaGreat

end

section

/-
  FOR THE FRAMES OF LAYER 16's PROOFS: configs and buckets that came in, opened.
-/
namespace Go.Proofs.YtndicdomdndjaaaGreat
open Go.ChangeShapes Go.WideShapes Go.ChangeAt Go.RowKit Go.Deep

structure CfgFit (c : Cfg) : Prop where
  room : (Lit.int .i64 c.room).wf = true
  burst : (Lit.int .i64 c.burst).wf = true
  rate : (Lit.int .i64 c.rate).wf = true
  per : (Lit.int .i64 c.per).wf = true

structure BktFit (b : Bkt) : Prop where
  tok : (Lit.int .i64 b.tok).wf = true
  at' : (Lit.int .i64 b.at').wf = true

section
variable {H : Type} {enc : TypeId × Value → H} {w : World} {base : Nat} {spare : Nat → Bool} {held : Bool}

theorem list4P {α : Type} {l : List α} (h : l.length = 4) : ∃ a b c d, l = [a, b, c, d] := by
  match l, h with
  | [a, b, c, d], _ => exact ⟨a, b, c, d, rfl⟩

theorem trod_intP {fuel : Nat} {cs : List Value} {x : DataW H × List MemPlace} (h : DataW.trod enc Tryz.prog w base spare held fuel 3 cs = some x) : ∃ z, cs = [.int .i64 z] ∧ (Lit.int .i64 z).wf = true := by
  obtain ⟨z, e, _, hw⟩ := DataW.trod_int Tryz.underlying3 h
  exact ⟨z, e, hw⟩

set_option maxRecDepth 100000 in
theorem trod_cfg {fuel : Nat} {cs : List Value} {x : DataW H × List MemPlace} (h : DataW.trod enc Tryz.prog w base spare held fuel 23 cs = some x) :
    ∃ v : Cfg, cs = [.int .i64 v.room, .int .i64 v.burst, .int .i64 v.rate, .int .i64 v.per] ∧ CfgFit v := by
  obtain ⟨xs, n, _, _, hl, hx, hf⟩ := DataW.trod_struct Tryz.underlying23 h
  have c35 : Tryz.prog.cellsOf 23 = 4 := by kernel_rfl
  have c3 : Tryz.prog.cellsOf 3 = 1 := by kernel_rfl
  rw [c35] at hl
  obtain ⟨a, b, c, d, rfl⟩ := list4P hl
  have get : ∀ i, i < 4 → xs[i]? = some (xs.getD i (.nil, [])) := fun i hi => by
    have : i < xs.length := by rw [hx]; exact hi
    simp [List.getD, List.getElem?_eq_getElem this]
  have f0 : DataW.trod enc Tryz.prog w base spare held n 3 (([a, b, c, d].drop 0).take (Tryz.prog.cellsOf 3)) = some (xs.getD 0 (.nil, [])) := (hf 0 _ rfl).trans (get 0 (by omega))
  have f1 : DataW.trod enc Tryz.prog w base spare held n 3 (([a, b, c, d].drop 1).take (Tryz.prog.cellsOf 3)) = some (xs.getD 1 (.nil, [])) := (hf 1 _ rfl).trans (get 1 (by omega))
  have f2 : DataW.trod enc Tryz.prog w base spare held n 3 (([a, b, c, d].drop 2).take (Tryz.prog.cellsOf 3)) = some (xs.getD 2 (.nil, [])) := (hf 2 _ rfl).trans (get 2 (by omega))
  have f3 : DataW.trod enc Tryz.prog w base spare held n 3 (([a, b, c, d].drop 3).take (Tryz.prog.cellsOf 3)) = some (xs.getD 3 (.nil, [])) := (hf 3 _ rfl).trans (get 3 (by omega))
  rw [c3] at f0 f1 f2 f3
  obtain ⟨z0, e0, w0⟩ := trod_intP f0
  obtain ⟨z1, e1, w1⟩ := trod_intP f1
  obtain ⟨z2, e2, w2⟩ := trod_intP f2
  obtain ⟨z3, e3, w3⟩ := trod_intP f3
  simp at e0 e1 e2 e3
  subst e0 e1 e2 e3
  exact ⟨⟨z0, z1, z2, z3⟩, rfl, ⟨w0, w1, w2, w3⟩⟩

set_option maxRecDepth 100000 in
theorem open_cfg {r : Reach} {b0 : Nat} {v : Value} {d : DataW H} {p : List MemPlace} (hv : Value.okWide Tryz.prog w r b0 23 v) (h : DataW.Trod enc Tryz.prog w base spare held 23 v d p) :
    ∃ c : Cfg, v = .agg #[.int .i64 c.room, .int .i64 c.burst, .int .i64 c.rate, .int .i64 c.per] ∧ CfgFit c := by
  obtain ⟨cs, rfl, _⟩ := okWide_struct Tryz.underlying23 hv
  obtain ⟨fuel, hf⟩ := h
  obtain ⟨c, hc, w1⟩ := trod_cfg hf
  refine ⟨c, ?_, w1⟩
  obtain ⟨l⟩ := cs
  simp [Value.cells] at hc
  rw [hc]

end
end Go.Proofs.YtndicdomdndjaaaGreat

end

section

/-
  FOR THE FRAMES OF LAYER 18's PROOFS: links and views that came in, opened.
-/
namespace Go.Proofs.YtndicdomdndjaaaGreat
open Go.ChangeShapes Go.WideShapes Go.ChangeAt Go.RowKit Go.Deep

section
variable {H : Type} {enc : TypeId × Value → H} {w : World} {base : Nat} {spare : Nat → Bool} {held : Bool}

theorem trod_intL {fuel : Nat} {cs : List Value} {x : DataW H × List MemPlace} (h : DataW.trod enc Tryz.prog w base spare held fuel 3 cs = some x) : ∃ z, cs = [.int .i64 z] ∧ (Lit.int .i64 z).wf = true := by
  obtain ⟨z, e, _, hw⟩ := DataW.trod_int Tryz.underlying3 h
  exact ⟨z, e, hw⟩

theorem rdS_trodT {fuel : Nat} {cs : List Value} {z : DataW H × List MemPlace} (hf : DataW.trod enc Tryz.prog w base spare held fuel 46 cs = some z) :
    ∃ v, cs = [v] ∧ ∃ t : List Row, Tab w v t := by
  rcases open_slice Tryz.underlying46 hf with ⟨hcs, _⟩ | ⟨x, len, cap, m, n, D', Pl, hcs, _, hl, hm, hmm, _, hi⟩
  · exact ⟨_, hcs, [], tab_nil w⟩
  · refine ⟨_, hcs, ?_⟩
    have hlm : len ≤ m := by rw [hmm]; split <;> omega
    rw [show Tryz.prog.cellsOf 67 = 5 from by kernel_rfl] at hi
    obtain ⟨t, htl, ht⟩ := choose_rows (n := len) (Q := fun i r => ∀ j u, (rowVals r)[j]? = some u → w.cell? ((x.add (i * 5)).add j) = some u) (fun i hil => by
      obtain ⟨cs', hc, htr⟩ := hi i (by omega)
      obtain ⟨_, hcl, hat⟩ := World.cells?_some hc
      obtain ⟨r, rfl, _, _⟩ := trod_row htr
      refine ⟨r, fun j u hu => ?_⟩
      have hj : j < 5 := by have := (List.getElem?_eq_some_iff.1 hu).1; rwa [rowVals_len] at this
      rw [hat j hj, hu])
    refine ⟨t, ⟨some x, cap, by rw [htl], by omega, by omega, (fun e => by cases e), ?_⟩⟩
    by_cases h0 : len = 0
    · exact .inl (List.length_eq_zero_iff.1 (by omega))
    · obtain ⟨b, off, spot⟩ := x
      have hc := ht 0 (by omega) 0 _ rfl
      have hspot : spot = none := by simpa [Addr.add] using World.cell?_spot hc
      subst hspot
      refine .inr ⟨b, off, rfl, ?_, fun i hil => cells5_of fun j u hu => ?_⟩
      · have := World.block_lt_of_cell? w _ hc
        simpa [Addr.add] using this
      · have := ht i (by omega) j u hu
        rwa [Addr.add_lit, Addr.add_lit] at this

theorem list2_queL {α : Type} {l : List α} (h : l.length = 2) : ∃ c0 c1, l = [c0, c1] := by
  match l, h with
  | [c0, c1], _ => exact ⟨c0, c1, rfl⟩

set_option maxRecDepth 100000 in
theorem trod_queL (fuel : Nat) (cs : List Value) (x : DataW H × List MemPlace) (h : DataW.trod enc Tryz.prog w base spare held fuel 26 cs = some x) :
    ∃ (a0 : Value) (a1 : Bool), cs = [a0, .bool a1] ∧ (∃ t : List Chg, Chgs w a0 t) := by
  obtain ⟨xs, n, _, _, hl, hx, hf⟩ := DataW.trod_struct Tryz.underlying26 h
  have cc : Tryz.prog.cellsOf 26 = 2 := by kernel_rfl
  have ci : Tryz.prog.cellsOf 3 = 1 := by kernel_rfl
  have cx : Tryz.prog.cellsOf 9 = 1 := by kernel_rfl
  have cb : Tryz.prog.cellsOf 4 = 1 := by kernel_rfl
  have cq : Tryz.prog.cellsOf 24 = 1 := by kernel_rfl
  rw [cc] at hl
  obtain ⟨c0, c1, rfl⟩ := list2_queL hl
  have get : ∀ i, i < 2 → xs[i]? = some (xs.getD i (.nil, [])) := fun i hi => by
    have : i < xs.length := by rw [hx]; exact hi
    simp [List.getD, List.getElem?_eq_getElem this]
  have f0 : DataW.trod enc Tryz.prog w base spare held n 24 (([c0, c1].drop 0).take (Tryz.prog.cellsOf 24)) = some (xs.getD 0 (.nil, [])) := (hf 0 _ rfl).trans (get 0 (by omega))
  rw [cq] at f0
  obtain ⟨z0, e0, w0⟩ := rdS_trodQ f0
  have f1 : DataW.trod enc Tryz.prog w base spare held n 4 (([c0, c1].drop 1).take (Tryz.prog.cellsOf 4)) = some (xs.getD 1 (.nil, [])) := (hf 1 _ rfl).trans (get 1 (by omega))
  rw [cb] at f1
  obtain ⟨z1, e1, _⟩ := DataW.trod_bool Tryz.underlying4 f1
  simp at e0 e1
  subst e0 e1
  exact ⟨c0, z1, rfl, w0⟩

theorem list2_bktL {α : Type} {l : List α} (h : l.length = 2) : ∃ c0 c1, l = [c0, c1] := by
  match l, h with
  | [c0, c1], _ => exact ⟨c0, c1, rfl⟩

set_option maxRecDepth 100000 in
theorem trod_bktL (fuel : Nat) (cs : List Value) (x : DataW H × List MemPlace) (h : DataW.trod enc Tryz.prog w base spare held fuel 28 cs = some x) :
    ∃ (a0 : Int) (a1 : Int), cs = [.int .i64 a0, .int .i64 a1] ∧ (Lit.int .i64 a0).wf = true ∧ (Lit.int .i64 a1).wf = true := by
  obtain ⟨xs, n, _, _, hl, hx, hf⟩ := DataW.trod_struct Tryz.underlying28 h
  have cc : Tryz.prog.cellsOf 28 = 2 := by kernel_rfl
  have ci : Tryz.prog.cellsOf 3 = 1 := by kernel_rfl
  have cx : Tryz.prog.cellsOf 9 = 1 := by kernel_rfl
  rw [cc] at hl
  obtain ⟨c0, c1, rfl⟩ := list2_bktL hl
  have get : ∀ i, i < 2 → xs[i]? = some (xs.getD i (.nil, [])) := fun i hi => by
    have : i < xs.length := by rw [hx]; exact hi
    simp [List.getD, List.getElem?_eq_getElem this]
  have f0 : DataW.trod enc Tryz.prog w base spare held n 3 (([c0, c1].drop 0).take (Tryz.prog.cellsOf 3)) = some (xs.getD 0 (.nil, [])) := (hf 0 _ rfl).trans (get 0 (by omega))
  rw [ci] at f0
  obtain ⟨z0, e0, w0⟩ := trod_intL f0
  have f1 : DataW.trod enc Tryz.prog w base spare held n 3 (([c0, c1].drop 1).take (Tryz.prog.cellsOf 3)) = some (xs.getD 1 (.nil, [])) := (hf 1 _ rfl).trans (get 1 (by omega))
  rw [ci] at f1
  obtain ⟨z1, e1, w1⟩ := trod_intL f1
  simp at e0 e1
  subst e0 e1
  exact ⟨z0, z1, rfl, w0, w1⟩

theorem list7_lnk {α : Type} {l : List α} (h : l.length = 7) : ∃ c0 c1 c2 c3 c4 c5 c6, l = [c0, c1, c2, c3, c4, c5, c6] := by
  match l, h with
  | [c0, c1, c2, c3, c4, c5, c6], _ => exact ⟨c0, c1, c2, c3, c4, c5, c6, rfl⟩

set_option maxRecDepth 100000 in
theorem trod_lnk (fuel : Nat) (cs : List Value) (x : DataW H × List MemPlace) (h : DataW.trod enc Tryz.prog w base spare held fuel 30 cs = some x) :
    ∃ (a0 : Int) (a1 : Value) (a2 : Bool) (a3 : Int) (a4 : Int) (a5 : Bool) (a6 : Int), cs = [.int .i64 a0, a1, .bool a2, .int .i64 a3, .int .i64 a4, .bool a5, .int .i64 a6] ∧ (Lit.int .i64 a0).wf = true ∧ (∃ t : List Chg, Chgs w a1 t) ∧ (Lit.int .i64 a3).wf = true ∧ (Lit.int .i64 a4).wf = true ∧ (Lit.int .i64 a6).wf = true := by
  obtain ⟨xs, n, _, _, hl, hx, hf⟩ := DataW.trod_struct Tryz.underlying30 h
  have cc : Tryz.prog.cellsOf 30 = 7 := by kernel_rfl
  have ci : Tryz.prog.cellsOf 3 = 1 := by kernel_rfl
  have cx : Tryz.prog.cellsOf 9 = 1 := by kernel_rfl
  have cb : Tryz.prog.cellsOf 4 = 1 := by kernel_rfl
  have ct1 : Tryz.prog.cellsOf 26 = 2 := by kernel_rfl
  have ct2 : Tryz.prog.cellsOf 28 = 2 := by kernel_rfl
  rw [cc] at hl
  obtain ⟨c0, c1, c2, c3, c4, c5, c6, rfl⟩ := list7_lnk hl
  have get : ∀ i, i < 5 → xs[i]? = some (xs.getD i (.nil, [])) := fun i hi => by
    have : i < xs.length := by rw [hx]; exact hi
    simp [List.getD, List.getElem?_eq_getElem this]
  have f0 : DataW.trod enc Tryz.prog w base spare held n 3 (([c0, c1, c2, c3, c4, c5, c6].drop 0).take (Tryz.prog.cellsOf 3)) = some (xs.getD 0 (.nil, [])) := (hf 0 _ rfl).trans (get 0 (by omega))
  rw [ci] at f0
  obtain ⟨z0, e0, w0⟩ := trod_intL f0
  have f1 : DataW.trod enc Tryz.prog w base spare held n 26 (([c0, c1, c2, c3, c4, c5, c6].drop 1).take (Tryz.prog.cellsOf 26)) = some (xs.getD 1 (.nil, [])) := (hf 1 _ rfl).trans (get 1 (by omega))
  rw [ct1] at f1
  obtain ⟨z1_0, z1_1, e1, w1_0⟩ := trod_queL _ _ _ f1
  have f2 : DataW.trod enc Tryz.prog w base spare held n 28 (([c0, c1, c2, c3, c4, c5, c6].drop 3).take (Tryz.prog.cellsOf 28)) = some (xs.getD 2 (.nil, [])) := (hf 2 _ rfl).trans (get 2 (by omega))
  rw [ct2] at f2
  obtain ⟨z2_0, z2_1, e2, w2_0, w2_1⟩ := trod_bktL _ _ _ f2
  have f3 : DataW.trod enc Tryz.prog w base spare held n 4 (([c0, c1, c2, c3, c4, c5, c6].drop 5).take (Tryz.prog.cellsOf 4)) = some (xs.getD 3 (.nil, [])) := (hf 3 _ rfl).trans (get 3 (by omega))
  rw [cb] at f3
  obtain ⟨z3, e3, _⟩ := DataW.trod_bool Tryz.underlying4 f3
  have f4 : DataW.trod enc Tryz.prog w base spare held n 3 (([c0, c1, c2, c3, c4, c5, c6].drop 6).take (Tryz.prog.cellsOf 3)) = some (xs.getD 4 (.nil, [])) := (hf 4 _ rfl).trans (get 4 (by omega))
  rw [ci] at f4
  obtain ⟨z4, e4, w4⟩ := trod_intL f4
  simp at e0 e1 e2 e3 e4
  obtain ⟨rfl, rfl⟩ := e1
  obtain ⟨rfl, rfl⟩ := e2
  subst e0 e3 e4
  exact ⟨z0, c1, z1_1, z2_0, z2_1, z3, z4, rfl, w0, w1_0, w2_0, w2_1, w4⟩

set_option maxRecDepth 100000 in
theorem open_lnk {r : Reach} {b0 : Nat} {v : Value} {d : DataW H} {p : List MemPlace} (hv : Value.okWide Tryz.prog w r b0 30 v) (h : DataW.Trod enc Tryz.prog w base spare held 30 v d p) :
    ∃ (a0 : Int) (a1 : Value) (a2 : Bool) (a3 : Int) (a4 : Int) (a5 : Bool) (a6 : Int), v = .agg #[.int .i64 a0, a1, .bool a2, .int .i64 a3, .int .i64 a4, .bool a5, .int .i64 a6] ∧ (Lit.int .i64 a0).wf = true ∧ (∃ t : List Chg, Chgs w a1 t) ∧ (Lit.int .i64 a3).wf = true ∧ (Lit.int .i64 a4).wf = true ∧ (Lit.int .i64 a6).wf = true := by
  obtain ⟨cs, rfl, _⟩ := okWide_struct Tryz.underlying30 hv
  obtain ⟨fuel, hf⟩ := h
  obtain ⟨a0, a1, a2, a3, a4, a5, a6, hc, ww⟩ := trod_lnk _ _ _ hf
  refine ⟨a0, a1, a2, a3, a4, a5, a6, ?_, ww⟩
  obtain ⟨l⟩ := cs
  simp only [Value.cells] at hc
  rw [hc]

theorem list2_lview {α : Type} {l : List α} (h : l.length = 2) : ∃ c0 c1, l = [c0, c1] := by
  match l, h with
  | [c0, c1], _ => exact ⟨c0, c1, rfl⟩

set_option maxRecDepth 100000 in
theorem trod_lview (fuel : Nat) (cs : List Value) (x : DataW H × List MemPlace) (h : DataW.trod enc Tryz.prog w base spare held fuel 48 cs = some x) :
    ∃ (a0 : Value) (a1 : Int), cs = [a0, .int .i64 a1] ∧ (∃ t : List Row, Tab w a0 t) ∧ (Lit.int .i64 a1).wf = true := by
  obtain ⟨xs, n, _, _, hl, hx, hf⟩ := DataW.trod_struct Tryz.underlying48 h
  have cc : Tryz.prog.cellsOf 48 = 2 := by kernel_rfl
  have ci : Tryz.prog.cellsOf 3 = 1 := by kernel_rfl
  have cx : Tryz.prog.cellsOf 9 = 1 := by kernel_rfl
  have cr : Tryz.prog.cellsOf 46 = 1 := by kernel_rfl
  rw [cc] at hl
  obtain ⟨c0, c1, rfl⟩ := list2_lview hl
  have get : ∀ i, i < 2 → xs[i]? = some (xs.getD i (.nil, [])) := fun i hi => by
    have : i < xs.length := by rw [hx]; exact hi
    simp [List.getD, List.getElem?_eq_getElem this]
  have f0 : DataW.trod enc Tryz.prog w base spare held n 46 (([c0, c1].drop 0).take (Tryz.prog.cellsOf 46)) = some (xs.getD 0 (.nil, [])) := (hf 0 _ rfl).trans (get 0 (by omega))
  rw [cr] at f0
  obtain ⟨z0, e0, w0⟩ := rdS_trodT f0
  have f1 : DataW.trod enc Tryz.prog w base spare held n 3 (([c0, c1].drop 1).take (Tryz.prog.cellsOf 3)) = some (xs.getD 1 (.nil, [])) := (hf 1 _ rfl).trans (get 1 (by omega))
  rw [ci] at f1
  obtain ⟨z1, e1, w1⟩ := trod_intL f1
  simp at e0 e1
  subst e0 e1
  exact ⟨c0, z1, rfl, w0, w1⟩

set_option maxRecDepth 100000 in
theorem open_lview {r : Reach} {b0 : Nat} {v : Value} {d : DataW H} {p : List MemPlace} (hv : Value.okWide Tryz.prog w r b0 48 v) (h : DataW.Trod enc Tryz.prog w base spare held 48 v d p) :
    ∃ (a0 : Value) (a1 : Int), v = .agg #[a0, .int .i64 a1] ∧ (∃ t : List Row, Tab w a0 t) ∧ (Lit.int .i64 a1).wf = true := by
  obtain ⟨cs, rfl, _⟩ := okWide_struct Tryz.underlying48 hv
  obtain ⟨fuel, hf⟩ := h
  obtain ⟨a0, a1, hc, ww⟩ := trod_lview _ _ _ hf
  refine ⟨a0, a1, ?_, ww⟩
  obtain ⟨l⟩ := cs
  simp only [Value.cells] at hc
  rw [hc]

end

end Go.Proofs.YtndicdomdndjaaaGreat

end

section

/-
  PLAIN MATHEMATICS OF LAYER 2 (crc): a sum of 32 bits, how it goes by XOR, and that four bytes changed are told. No program in sight.
-/
namespace Go.Proofs.YtndicdomdndjaaaGreat

/-- One bit. -/
def c1 (x : Nat) : Nat := if x % 2 = 1 then x / 2 ^^^ 3988292384 else x / 2

/-- k bits. -/
def cN : Nat → Nat → Nat
  | 0, x => x
  | k + 1, x => cN k (c1 x)

def cstep (c b : Nat) : Nat := cN 8 (c ^^^ b)

def cfold (c : Nat) (l : List UInt8) : Nat := l.foldl (fun c b => cstep c b.toNat) c

def csum (l : List UInt8) : Nat := cfold 4294967295 l ^^^ 4294967295

def low4 (n : Nat) : List UInt8 := [u8of (n % 256), u8of (n / 256 % 256), u8of (n / 65536 % 256), u8of (n / 16777216 % 256)]

def cseal (l : List UInt8) : List UInt8 := l ++ low4 (csum l)

def copen (t : List UInt8) : List UInt8 × Nat :=
  if t.length < 4 then ([], 2) else if t.drop (t.length - 4) = low4 (csum (t.take (t.length - 4))) then (t.take (t.length - 4), 0) else ([], 4)

/-- What a sealed text's register comes to. -/
def cK : Nat := cN 32 4294967295

end Go.Proofs.YtndicdomdndjaaaGreat

end

section

/-
  LAYER 6, PLAIN: frames, their bytes, and what is taken of bytes.
-/
namespace Go.Proofs.YtndicdomdndjaaaGreat

structure Frm where
  k : Int
  s : Int
  on : Bool
  c : List UInt8
  v : Val
  sum : Nat
  t : List Row

def Frm.zero : Frm := ⟨0, 0, false, [], Val.zero, 0, []⟩

/-- What P6.1 asks, all but Kind and Seq. -/
def frRest (f : Frm) : Bool :=
  if f.k = 1 then decide (f.sum = 0) && (decide (f.t.length = 0) && (idIs f.c && (if f.on = true then vaMay f.v else vSame f.v Val.zero)))
  else if f.k = 2 then (!f.on && (f.c == [] && vSame f.v Val.zero)) && decide (f.t.length = 0)
  else if f.k = 3 then (!f.on && (f.c == [] && vSame f.v Val.zero)) && (decide (f.sum = 0) && diMay f.t)
  else (!f.on && (f.c == [] && vSame f.v Val.zero)) && (decide (f.sum = 0) && decide (f.t.length = 0))

def frMay (f : Frm) : Bool := (decide (1 ≤ f.k) && decide (f.k ≤ 4)) && ((decide (0 ≤ f.s) && decide (f.s ≤ 1099511627776)) && frRest f)

/-- Eight bytes, the highest one first. -/
def be8 (n : Nat) : List UInt8 := [u8of (n / 72057594037927936 % 256), u8of (n / 281474976710656 % 256), u8of (n / 1099511627776 % 256), u8of (n / 4294967296 % 256), u8of (n / 16777216 % 256), u8of (n / 65536 % 256), u8of (n / 256 % 256), u8of (n % 256)]

def frBody (f : Frm) : List UInt8 :=
  if f.k = 1 then (if f.on = true then 1 :: ((idPut f.c).1 ++ vaBytes f.v) else 0 :: (idPut f.c).1)
  else if f.k = 2 then be8 f.sum
  else if f.k = 3 then (diPut f.t).1
  else []

/-- A frame's bytes, without a seal. -/
def frPlain (f : Frm) : List UInt8 := u8of f.k.toNat :: (vput f.s.toNat ++ frBody f)

def frEnc (f : Frm) : List UInt8 × Nat := if frMay f = true then (cseal (frPlain f), 0) else ([], 1)

/-- A number out of bytes, the highest one first. -/
def sum8 (l : List UInt8) : Nat := l.foldl (fun a b => a * 256 + b.toNat) 0

def frTakeBody (k : Nat) (s : Nat) (b : List UInt8) : Option Frm :=
  if k = 1 then
    (if b.length = 0 then none
     else if (idTake b 1).2.2 ≠ 0 then none
     else if b.getD 0 0 = 0 then some ⟨1, s, false, (idTake b 1).1, Val.zero, 0, []⟩
     else if (vaTake b (idTake b 1).2.1).2.2 ≠ 0 then none
     else some ⟨1, s, true, (idTake b 1).1, (vaTake b (idTake b 1).2.1).1, 0, []⟩)
  else if k = 2 then (if b.length < 8 then none else some ⟨2, s, false, [], Val.zero, sum8 (b.take 8), []⟩)
  else if k = 3 then (if (diTake b 0).2.2 ≠ 0 then none else some ⟨3, s, false, [], Val.zero, 0, (diTake b 0).1⟩)
  else some ⟨k, s, false, [], Val.zero, 0, []⟩

/-- What is taken of bytes: a frame, or something near it. -/
def frTake (l : List UInt8) : Option Frm :=
  match l with
  | [] => none
  | x :: r => if x.toNat < 1 ∨ 4 < x.toNat then none else if (vget (x :: r) 1).2.2 ≠ 0 then none else frTakeBody x.toNat (vget (x :: r) 1).1 ((x :: r).drop (vget (x :: r) 1).2.1)

theorem sum8_be8 (n : Nat) (h : n < 18446744073709551616) : sum8 (be8 n) = n := by
  unfold sum8 be8
  simp only [List.foldl_cons, List.foldl_nil]
  rw [u8of_toNat (by omega), u8of_toNat (by omega), u8of_toNat (by omega), u8of_toNat (by omega), u8of_toNat (by omega), u8of_toNat (by omega), u8of_toNat (by omega), u8of_toNat (by omega)]
  omega

structure FrOk (f : Frm) : Prop where
  k1 : 1 ≤ f.k
  k4 : f.k ≤ 4
  s0 : 0 ≤ f.s
  s1 : f.s ≤ 1099511627776
  rest : frRest f = true

theorem frMay_iff {f : Frm} : frMay f = true ↔ FrOk f := by
  unfold frMay
  simp only [Bool.and_eq_true, decide_eq_true_eq]
  exact ⟨fun ⟨⟨a, b⟩, ⟨c, d⟩, e⟩ => ⟨a, b, c, d, e⟩, fun ⟨a, b, c, d, e⟩ => ⟨⟨a, b⟩, ⟨c, d⟩, e⟩⟩

theorem frTakeBody_body {f : Frm} (h : FrOk f) (hs : f.sum < 18446744073709551616) : frTakeBody f.k.toNat f.s.toNat (frBody f) = some f := by
  obtain ⟨k, s, on, c, v, sum, t⟩ := f
  obtain ⟨h1, h2, h3, h4, h5⟩ := h
  simp only at h1 h2 h3 h4 hs
  obtain ⟨s, rfl⟩ := Int.eq_ofNat_of_zero_le h3
  have hk : k = 1 ∨ k = 2 ∨ k = 3 ∨ k = 4 := by omega
  unfold frRest at h5
  simp only at h5
  rcases hk with rfl | rfl | rfl | rfl
  · simp only [if_true, Bool.and_eq_true, decide_eq_true_eq, List.length_eq_zero_iff] at h5
    obtain ⟨rfl, rfl, hc, hv⟩ := h5
    have hp : (idPut c).1 = vput c.length ++ c := by unfold idPut; rw [if_pos hc]
    cases on with
    | false =>
      simp only [Bool.false_eq_true, if_false] at hv
      obtain rfl := vSame_iff.1 hv
      have e := idTake_at hc [0] []
      simp only [List.append_nil, List.length_singleton, List.cons_append, List.nil_append] at e
      have e' : idTake (0 :: (vput c.length ++ c)) 1 = (c, 1 + (vput c.length ++ c).length, 0) := e
      unfold frTakeBody frBody
      simp [hp, e']
    | true =>
      simp only [if_true] at hv
      have e := idTake_at hc [1] (vaBytes v)
      simp only [List.length_singleton, List.cons_append, List.nil_append] at e
      have e' : idTake (1 :: ((vput c.length ++ c) ++ vaBytes v)) 1 = (c, 1 + (vput c.length ++ c).length, 0) := e
      have g := vaTake_put hv (1 :: (vput c.length ++ c)) []
      rw [List.append_nil, List.cons_append] at g
      have g' : vaTake (1 :: ((vput c.length ++ c) ++ vaBytes v)) ((1 + (vput c.length ++ c).length : Nat) : Int) = (v, (1 :: (vput c.length ++ c)).length + (vaBytes v).length, 0) := by
        rw [← g]
        congr 1
        simp only [List.length_cons]
        omega
      unfold frTakeBody frBody
      simp only [if_true, hp, e', g']
      simp
  · simp only [show ¬ (2 : Int) = 1 by omega, if_false, if_true, Bool.and_eq_true, decide_eq_true_eq, List.length_eq_zero_iff, Bool.not_eq_true', beq_iff_eq] at h5
    obtain ⟨⟨rfl, rfl, hv⟩, rfl⟩ := h5
    obtain rfl := vSame_iff.1 hv
    unfold frTakeBody frBody
    simp [be8]
    exact sum8_be8 sum hs
  · simp only [show ¬ (3 : Int) = 1 by omega, show ¬ (3 : Int) = 2 by omega, if_false, if_true, Bool.and_eq_true, decide_eq_true_eq, Bool.not_eq_true', beq_iff_eq] at h5
    obtain ⟨⟨rfl, rfl, hv⟩, rfl, ht⟩ := h5
    obtain rfl := vSame_iff.1 hv
    have e := diTake_put ht [] []
    simp only [List.nil_append, List.append_nil, List.length_nil] at e
    have e' : diTake (diBytes t) 0 = (t, 0 + (diBytes t).length, 0) := e
    have hp : (diPut t).1 = diBytes t := by unfold diPut; rw [if_pos ht]
    unfold frTakeBody frBody
    simp [hp, e']
  · simp only [show ¬ (4 : Int) = 1 by omega, show ¬ (4 : Int) = 2 by omega, show ¬ (4 : Int) = 3 by omega, if_false, Bool.and_eq_true, decide_eq_true_eq, List.length_eq_zero_iff, Bool.not_eq_true', beq_iff_eq] at h5
    obtain ⟨⟨rfl, rfl, hv⟩, rfl, rfl⟩ := h5
    obtain rfl := vSame_iff.1 hv
    unfold frTakeBody frBody
    simp

/-- What may be is taken of its bytes. -/
theorem frTake_plain {f : Frm} (h : frMay f = true) (hs : f.sum < 18446744073709551616) : frTake (frPlain f) = some f := by
  have ho := frMay_iff.1 h
  have hk1 := ho.k1
  have hk4 := ho.k4
  have hs1 := ho.s1
  have hb := frTakeBody_body ho hs
  have hx : (u8of f.k.toNat).toNat = f.k.toNat := u8of_toNat (by omega)
  have hg := vget_vput f.s.toNat (by omega) [u8of f.k.toNat] (frBody f)
  simp only [List.length_singleton, List.cons_append, List.nil_append] at hg
  have hg' : vget (u8of f.k.toNat :: (vput f.s.toNat ++ frBody f)) 1 = (f.s.toNat, 1 + (vput f.s.toNat).length, 0) := hg
  unfold frPlain frTake
  simp only [hg', hx]
  rw [if_neg (by omega), if_neg (by simp)]
  have hd : (u8of f.k.toNat :: (vput f.s.toNat ++ frBody f)).drop (1 + (vput f.s.toNat).length) = frBody f := by
    rw [Nat.add_comm, List.drop_succ_cons, List.drop_left' rfl]
  rw [hd, hb]

theorem frPlain_inj {f g : Frm} (hf : frMay f = true) (hg : frMay g = true) (hs : f.sum < 18446744073709551616) (ht : g.sum < 18446744073709551616) (h : frPlain f = frPlain g) : f = g := by
  have a := frTake_plain hf hs
  rw [h, frTake_plain hg ht] at a
  exact (Option.some.inj a).symm

end Go.Proofs.YtndicdomdndjaaaGreat

end

section

/-
  LAYER 18, PLAIN: links, and what they tell.
-/
namespace Go.Proofs.YtndicdomdndjaaaGreat

structure Lnk where
  seq : Int
  q : Que
  b : Bkt
  sn : Bool
  dg : Int

def lnMay (c : Cfg) (l : Lnk) : Bool := pcOne c l.b && (decide (0 ≤ l.seq) && (decide (l.seq ≤ 1099511627776) && (quMay l.q c.room && (!l.q.la && (pcTime l.dg && (!l.sn || decide (l.q.l = [])))))))
def lnAsk (l : Lnk) : Lnk := { l with sn := true, q := ⟨[], false⟩ }
def lnPush (c : Cfg) (l : Lnk) (x : Chg) : Lnk := if l.sn = true then l else if (quPush l.q x c.room).la = true then lnAsk l else { l with q := quPush l.q x c.room }
def lnQuiet (l : Lnk) : Bool := !l.sn && quEmpty l.q

/-- What is told next, without its number, and what waits behind that. -/
def lnTell (c : Cfg) (view : List Row) (now : Int) (l : Lnk) : Option (Frm × Lnk) :=
  if l.sn = true then some (⟨3, 0, false, [], Val.zero, 0, view⟩, { l with sn := false, q := ⟨[], false⟩, dg := now })
  else match l.q.l with
    | x :: r => some (⟨1, 0, x.on, x.c, x.v, 0, []⟩, { l with q := ⟨r, l.q.la⟩ })
    | [] => if now - l.dg < c.per then none else some (⟨2, 0, false, [], Val.zero, diSum view, []⟩, { l with dg := now })

def lnStep (c : Cfg) (view : List Row) (now : Int) (l : Lnk) : Option (Frm × Lnk) :=
  if 1099511627776 ≤ l.seq then none
  else match lnTell c view now l with
    | none => none
    | some (f, m) => if (pcTake c l.b now).2 = true then some ({ f with s := l.seq }, { m with b := (pcTake c l.b now).1, seq := l.seq + 1 }) else none

def lnRun (c : Cfg) (view : List Row) (now : Int) : Nat → Lnk → Lnk × List Frm
  | 0, l => (l, [])
  | n + 1, l => match lnStep c view now l with
    | none => (l, [])
    | some (f, m) => ((lnRun c view now n m).1, f :: (lnRun c view now n m).2)

def lnEmit (c : Cfg) (l : Lnk) (view : List Row) (now : Int) : Lnk × List Frm :=
  if (lnMay c l && (diMay view && pcTime now)) = true then lnRun c view now 65 l else (l, [])

theorem lnMay_iff {c : Cfg} {l : Lnk} : lnMay c l = true ↔ pcOne c l.b = true ∧ 0 ≤ l.seq ∧ l.seq ≤ 1099511627776 ∧ quMay l.q c.room = true ∧ l.q.la = false ∧ pcTime l.dg = true ∧ (l.sn = true → l.q.l = []) := by
  unfold lnMay
  simp only [Bool.and_eq_true, Bool.or_eq_true, Bool.not_eq_true', decide_eq_true_eq]
  refine ⟨fun ⟨h1, h2, h3, h4, h5, h6, h7⟩ => ⟨h1, h2, h3, h4, h5, h6, fun hs => ?_⟩, fun ⟨h1, h2, h3, h4, h5, h6, h7⟩ => ⟨h1, h2, h3, h4, h5, h6, ?_⟩⟩
  · rcases h7 with h7 | h7
    · rw [hs] at h7; cases h7
    · exact h7
  · cases hs : l.sn
    · exact .inl rfl
    · exact .inr (h7 hs)

/-- A token is taken: the level is one less, and the bucket may be. -/
theorem take_yes {c : Cfg} {b : Bkt} {now : Int} (h : pcOne c b = true) (hn : pcTime now = true) (ht : (pcTake c b now).2 = true) :
    pcOne c (pcTake c b now).1 = true ∧ pcLev c (pcTake c b now).1 now = pcLev c b now - 1 ∧ 1 ≤ pcLev c b now := by
  have hg := pcLev_ge (now := now) h
  rw [pcTake_in h hn] at ht ⊢
  by_cases h0 : pcLev c b now = 0
  · rw [if_pos h0] at ht; cases ht
  · rw [if_neg h0] at ht ⊢
    obtain ⟨m, t0, t1, a0, a1⟩ := pcOne_iff.1 h
    obtain ⟨n0, n1⟩ := pcTime_iff.1 hn
    refine ⟨pcOne_iff.2 ⟨m, by simp only; omega, by simp only; omega, by simp only; omega, by simp only; omega⟩, ?_, by omega⟩
    unfold pcLev
    simp only
    rw [if_pos (by omega)]

theorem quMay_tail {x : Chg} {r : List Chg} {room : Int} (h : quMay ⟨x :: r, false⟩ room = true) : quOne x = true ∧ quMay ⟨r, false⟩ room = true := by
  obtain ⟨m1, m2, m3, m4⟩ := quMay_iff.1 h
  simp only [List.length_cons] at m1
  exact ⟨m3 x (by simp), quMay_iff.2 ⟨by simp only; omega, (fun e => by cases e), fun y hy => m3 y (List.mem_cons_of_mem _ hy), quNo2_tail m4⟩⟩

/-- What is told next may be told, and leaves what may be. -/
theorem tell_may {c : Cfg} {view : List Row} {now : Int} {l m : Lnk} {f : Frm} (h : lnMay c l = true) (hv : diMay view = true) (hn : pcTime now = true) (ht : lnTell c view now l = some (f, m)) :
    lnMay c m = true ∧ m.b = l.b ∧ m.seq = l.seq ∧ 1 ≤ f.k ∧ f.k ≤ 3 ∧ frRest f = true := by
  obtain ⟨h1, h2, h3, h4, h5, h6, h7⟩ := lnMay_iff.1 h
  obtain ⟨seq, ⟨q, la⟩, b, sn, dg⟩ := l
  simp only at h1 h2 h3 h4 h5 h6 h7
  subst h5
  unfold lnTell at ht
  simp only at ht
  cases sn with
  | true =>
    rw [if_pos rfl] at ht
    cases ht
    have hq : q = [] := h7 rfl
    subst hq
    refine ⟨lnMay_iff.2 ⟨h1, h2, h3, h4, rfl, hn, fun e => by cases e⟩, rfl, rfl, by show (1 : Int) ≤ 3; decide, by show (3 : Int) ≤ 3; decide, ?_⟩
    show ((!false && (([] : List UInt8) == [] && vSame Val.zero Val.zero)) && (decide ((0 : Nat) = 0) && diMay view)) = true
    rw [hv]
    rfl
  | false =>
    rw [if_neg (by decide)] at ht
    cases q with
    | cons x r =>
      simp only at ht
      cases ht
      obtain ⟨o1, o2⟩ := quMay_tail h4
      refine ⟨lnMay_iff.2 ⟨h1, h2, h3, o2, rfl, h6, fun e => by cases e⟩, rfl, rfl, by show (1 : Int) ≤ 1; decide, by show (1 : Int) ≤ 3; decide, ?_⟩
      unfold quOne at o1
      show (decide ((0 : Nat) = 0) && (decide (([] : List Row).length = 0) && (idIs x.c && (if x.on = true then vaMay x.v else vSame x.v Val.zero)))) = true
      rw [o1]
      rfl
    | nil =>
      simp only at ht
      split at ht
      · cases ht
      · cases ht
        refine ⟨lnMay_iff.2 ⟨h1, h2, h3, h4, rfl, hn, fun e => by cases e⟩, rfl, rfl, by show (1 : Int) ≤ 2; decide, by show (2 : Int) ≤ 3; decide, ?_⟩
        rfl

theorem step_may {c : Cfg} {view : List Row} {now : Int} {l m : Lnk} {f : Frm} (h : lnMay c l = true) (hv : diMay view = true) (hn : pcTime now = true) (ht : lnStep c view now l = some (f, m)) :
    lnMay c m = true ∧ m.seq = l.seq + 1 ∧ f.s = l.seq ∧ frMay f = true ∧ f.k ≤ 3 ∧ pcLev c m.b now = pcLev c l.b now - 1 ∧ 1 ≤ pcLev c l.b now := by
  unfold lnStep at ht
  split at ht
  · cases ht
  · rename_i hs
    split at ht
    · cases ht
    · rename_i f0 m0 hT
      split at ht
      · rename_i hk
        cases ht
        obtain ⟨t1, t2, t3, t4, t5, t6⟩ := tell_may h hv hn hT
        obtain ⟨a1, a2, a3, a4, a5, a6, a7⟩ := lnMay_iff.1 h
        obtain ⟨b1, b2, b3, b4, b5, b6, b7⟩ := lnMay_iff.1 t1
        obtain ⟨k1, k2, k3⟩ := take_yes a1 hn hk
        refine ⟨lnMay_iff.2 ⟨k1, by simp only; omega, by simp only; omega, b4, b5, b6, b7⟩, rfl, rfl, ?_, t5, k2, k3⟩
        unfold frMay
        simp only [Bool.and_eq_true, decide_eq_true_eq]
        exact ⟨⟨t4, by omega⟩, ⟨a2, by omega⟩, t6⟩
      · cases ht

theorem run_none {c : Cfg} {view : List Row} {now : Int} {l : Lnk} (h : lnStep c view now l = none) (n : Nat) : lnRun c view now (n + 1) l = (l, []) := by
  show (match lnStep c view now l with
    | none => (l, [])
    | some (f, m) => ((lnRun c view now n m).1, f :: (lnRun c view now n m).2)) = _
  rw [h]

theorem run_some {c : Cfg} {view : List Row} {now : Int} {l m : Lnk} {f : Frm} (h : lnStep c view now l = some (f, m)) (n : Nat) : lnRun c view now (n + 1) l = ((lnRun c view now n m).1, f :: (lnRun c view now n m).2) := by
  show (match lnStep c view now l with
    | none => (l, [])
    | some (f, m) => ((lnRun c view now n m).1, f :: (lnRun c view now n m).2)) = _
  rw [h]

/-- What comes of a link that may be. -/
theorem run_may {c : Cfg} {view : List Row} {now : Int} (hv : diMay view = true) (hn : pcTime now = true) : ∀ (n : Nat) (l : Lnk), lnMay c l = true →
    lnMay c (lnRun c view now n l).1 = true ∧ (lnRun c view now n l).1.seq = l.seq + (lnRun c view now n l).2.length ∧ ((lnRun c view now n l).2.length : Int) + pcLev c (lnRun c view now n l).1.b now = pcLev c l.b now ∧
    ∀ i, (hi : i < (lnRun c view now n l).2.length) → frMay ((lnRun c view now n l).2[i]) = true ∧ ((lnRun c view now n l).2[i]).s = l.seq + i ∧ ((lnRun c view now n l).2[i]).k ≤ 3
  | 0, l, h => ⟨h, by simp [lnRun], by simp [lnRun], fun i hi => by simp [lnRun] at hi⟩
  | n + 1, l, h => by
    cases hs : lnStep c view now l with
    | none => rw [run_none hs]; exact ⟨h, by simp, by simp, fun i hi => by simp at hi⟩
    | some p =>
      obtain ⟨f, m⟩ := p
      rw [run_some hs]
      obtain ⟨s1, s2, s3, s4, s5, s6, _⟩ := step_may h hv hn hs
      obtain ⟨r1, r2, r3, r4⟩ := run_may hv hn n m s1
      refine ⟨r1, ?_, ?_, fun i hi => ?_⟩
      · simp only [List.length_cons]; omega
      · simp only [List.length_cons]; omega
      · cases i with
        | zero => exact ⟨s4, by simp only [List.getElem_cons_zero]; omega, s5⟩
        | succ i =>
          simp only [List.length_cons] at hi
          obtain ⟨q1, q2, q3⟩ := r4 i (by omega)
          simp only [List.getElem_cons_succ]
          exact ⟨q1, by omega, q3⟩

end Go.Proofs.YtndicdomdndjaaaGreat

end

section

/-
  A SLICE OF A SLICE OF STRUCTS.
-/
namespace Go.Proofs.YtndicdomdndjaaaGreat
open Go.RowKit

theorem run_slice_from_S {α : Type} {P : Program} {vals : α → List Value} {sz : Nat} {zero : α} {T S : TypeId} {Z : Value} {bytes : Nat} (D : RowOK P vals sz zero T S Z bytes) (w : World) (ad : Addr) (n cap l : Nat) (I : Int) (hI : I = (l : Int)) (h : l ≤ n) :
    (Instr.slice S (.slice (some ad) n cap) (some (.int .i64 I)) none none).run P w = .ok (.slice (some (if cap = l then ad else ad.add (l * sz))) (n - l) (cap - l)) w := by
  obtain ⟨i, hi, hz, hsize, hby⟩ := info_parts D.info
  subst hI
  have he : P.elem S = T := by unfold Program.elem; rw [D.under]
  rw [run_slice_l w S (some ad) n cap (by rw [he]; exact D.under) .i64 (l : Int) (by omega) (by omega), he, run_sizeOf w hi]
  simp only [Result.andThen, sliced, Int.toNat_natCast]
  have hc : P.cellsOf T = sz := by unfold Program.cellsOf; rw [hi]; exact hsize
  rw [hc]
  split <;> rfl

/-- What is left of a slice behind its first p elements. -/
theorem RdS.tail {α : Type} {vals : α → List Value} {sz : Nat} {zero : α} {w : World} {ad : Addr} {n cap : Nat} {l : List α} (h : RdS vals sz zero w (.slice (some ad) n cap) l) (_hsz : 0 < sz) (p : Nat) (hp : p ≤ l.length) :
    RdS vals sz zero w (.slice (some (if cap = p then ad else ad.add (p * sz))) (n - p) (cap - p)) (l.drop p) := by
  obtain ⟨a', cap', e, h1, h2, h3, h4⟩ := h
  simp only [Value.slice.injEq] at e
  obtain ⟨rfl, rfl, rfl⟩ := e
  refine ⟨_, _, by rw [List.length_drop], by rw [List.length_drop]; omega, by omega, fun e => by simp at e, ?_⟩
  rcases h4 with rfl | ⟨b, off, e, hlt, hc⟩
  · exact .inl (by simp)
  · by_cases hd : l.drop p = []
    · exact .inl hd
    · have hpl : p < l.length := by
        rcases Nat.lt_or_ge p l.length with hh | hh
        · exact hh
        · exact absurd (List.drop_eq_nil_of_le hh) hd
      obtain rfl : ad = ⟨b, off, none⟩ := by simpa using e
      refine .inr ⟨b, off + p * sz, ?_, hlt, fun i hi => ?_⟩
      · rw [if_neg (by omega), Addr.add_lit]
      · rw [List.length_drop] at hi
        have := hc (p + i) (by omega)
        have e2 : (l.drop p).getD i zero = l.getD (p + i) zero := by
          rw [List.getD_eq_getElem?_getD, List.getD_eq_getElem?_getD, List.getElem?_drop]
        rw [e2, show off + p * sz + i * sz = off + (p + i) * sz by rw [Nat.add_mul]; omega]
        exact this

end Go.Proofs.YtndicdomdndjaaaGreat

end

section

/-
  LAYER 18: frames in memory: rows of ten cells, each with a table of its own.
-/
namespace Go.Proofs.YtndicdomdndjaaaGreat
open Go.RowKit

/-- A frame, and where its table lies. -/
structure FrS where
  f : Frm
  a : Option Addr
  n : Nat
  cap : Nat

def FrS.zero : FrS := ⟨Frm.zero, none, 0, 0⟩
def FrS.tv (p : FrS) : Value := .slice p.a p.n p.cap
def frVals (p : FrS) : List Value := [.int .i64 p.f.k, .int .i64 p.f.s, .bool p.f.on, .string ⟨p.f.c.toArray⟩, .int .i64 p.f.v.sh, .int .i64 p.f.v.pr, .int .i64 p.f.v.si, .string ⟨p.f.v.st.toArray⟩, .int .u64 p.f.sum, p.tv]

theorem frSOK : RowOK Tryz.prog frVals 10 FrS.zero 60 50 (.agg #[.int .i64 0, .int .i64 0, .bool false, .string ⟨#[]⟩, .int .i64 0, .int .i64 0, .int .i64 0, .string ⟨#[]⟩, .int .u64 0, .slice none 0 0]) 112 where
  len := fun _ => rfl
  one := fun p u hu => by
    simp only [frVals, FrS.tv, List.mem_cons, List.not_mem_nil, or_false] at hu
    rcases hu with rfl | rfl | rfl | rfl | rfl | rfl | rfl | rfl | rfl | rfl <;> rfl
  pos := by decide
  small := by decide
  under := by kernel_rfl
  info := by kernel_rfl
  zvals := rfl
  fits := by decide

/-- Frames that lie in memory. -/
def Frms (w : World) (v : Value) (l : List FrS) : Prop := RdS frVals 10 FrS.zero w v l ∧ ∀ p ∈ l, Tab w p.tv p.f.t

theorem Frms.later {w w' : World} {v : Value} {l : List FrS} (h : Frms w v l) (hb : Below w.heap.size w w') : Frms w' v l := ⟨RdS.later h.1 hb, fun p hp => (h.2 p hp).later hb⟩

end Go.Proofs.YtndicdomdndjaaaGreat

end

section

/-
  LAYER 17: whether a change may be, the code's and the document's.
-/
namespace Go.Proofs.YtndicdomdndjaaaGreat
open Go.RowKit

theorem six_new (w : World) (a b c d e f : Value) (t : TypeId) : (w.alloc (.cells #[a, b, c, d, e, f] t)).cell? ⟨w.heap.size, 0, none⟩ = some a ∧ (w.alloc (.cells #[a, b, c, d, e, f] t)).cell? ⟨w.heap.size, 1, none⟩ = some b ∧ (w.alloc (.cells #[a, b, c, d, e, f] t)).cell? ⟨w.heap.size, 2, none⟩ = some c ∧ (w.alloc (.cells #[a, b, c, d, e, f] t)).cell? ⟨w.heap.size, 3, none⟩ = some d ∧ (w.alloc (.cells #[a, b, c, d, e, f] t)).cell? ⟨w.heap.size, 4, none⟩ = some e ∧ (w.alloc (.cells #[a, b, c, d, e, f] t)).cell? ⟨w.heap.size, 5, none⟩ = some f := six_cells w a b c d e f t

theorem zero_eql (a b d : Int) (st : List UInt8) {r : Bool} (h : vSame ⟨a, b, d, st⟩ Val.zero = r) (w : World) :
    (binOp .eql 32 (.agg #[.int .i64 a, .int .i64 b, .int .i64 d, .string ⟨st.toArray⟩]) (.agg #[.int .i64 0, .int .i64 0, .int .i64 0, .string ⟨#[]⟩])).run Tryz.prog w = .ok (.bool r) w := by
  have := val_eql5 a b d 0 0 0 st [] w
  rw [show (⟨0, 0, 0, []⟩ : Val) = Val.zero from rfl, h] at this
  exact this

set_option maxHeartbeats 1600000 in
set_option maxRecDepth 100000 in
theorem quone_is (c st : List UInt8) (on : Bool) (a b d : Int) (hc : c.length ≤ 4294967296) (h : idIs c = false) (w : World) :
    Calls Tryz.prog 81 #[.agg #[.string ⟨c.toArray⟩, .bool on, .int .i64 a, .int .i64 b, .int .i64 d, .string ⟨st.toArray⟩]] w fun e w' => e = .returned (.bool false) ∧ Below w.heap.size w w' := by
  have b0 := bl_newZ w (.cells #[.string ⟨c.toArray⟩, .bool on, .int .i64 a, .int .i64 b, .int .i64 d, .string ⟨st.toArray⟩] 34)
  have HB := Lib.hid b0
  have C : Hid (Cells6 (w.alloc (.cells #[.string ⟨c.toArray⟩, .bool on, .int .i64 a, .int .i64 b, .int .i64 d, .string ⟨st.toArray⟩] 34)) w.heap.size 0 ⟨c, on, ⟨a, b, d, st⟩⟩) := Lib.hid (six_new w _ _ _ _ _ _ _)
  have hlt := Nat.lt_succ_self w.heap.size
  clear b0
  have HH := Lib.hid h
  clear h
  go_enter Tryz.func81, Tryz.ntmps81
  go_wp2_with fail
  refine (is_eq c hc HH _).mono ?_
  rintro e w1 ⟨rfl, b1⟩
  replace C := Lib.hid (C.out.later b1 (by simp))
  replace HB := Lib.hid (below2Z HB.out b1)
  clear b1
  obtain ⟨q0, q1, q2, q3, q4, q5⟩ := C.out
  simp only [Nat.zero_add] at q1 q2 q3 q4 q5
  go_wp2_with fail
  go_ret
  exact ⟨rfl, HB.out⟩

set_option maxHeartbeats 1600000 in
set_option maxRecDepth 100000 in
theorem quone_on (c st : List UInt8) (a b d : Int) (hc : c.length ≤ 4294967296) (hs : st.length ≤ 4294967296) (h : idIs c = true) {r : Bool} (hr : vaMay ⟨a, b, d, st⟩ = r) (w : World) :
    Calls Tryz.prog 81 #[.agg #[.string ⟨c.toArray⟩, .bool true, .int .i64 a, .int .i64 b, .int .i64 d, .string ⟨st.toArray⟩]] w fun e w' => e = .returned (.bool r) ∧ Below w.heap.size w w' := by
  have b0 := bl_newZ w (.cells #[.string ⟨c.toArray⟩, .bool true, .int .i64 a, .int .i64 b, .int .i64 d, .string ⟨st.toArray⟩] 34)
  have HB := Lib.hid b0
  have C : Hid (Cells6 (w.alloc (.cells #[.string ⟨c.toArray⟩, .bool true, .int .i64 a, .int .i64 b, .int .i64 d, .string ⟨st.toArray⟩] 34)) w.heap.size 0 ⟨c, true, ⟨a, b, d, st⟩⟩) := Lib.hid (six_new w _ _ _ _ _ _ _)
  have hlt := Nat.lt_succ_self w.heap.size
  clear b0
  have HH := Lib.hid h
  have HR := Lib.hid hr
  clear h hr
  go_enter Tryz.func81, Tryz.ntmps81
  go_wp2_with fail
  refine (is_eq c hc HH _).mono ?_
  rintro e w1 ⟨rfl, b1⟩
  replace C := Lib.hid (C.out.later b1 (by simp))
  replace HB := Lib.hid (below2Z HB.out b1)
  clear b1
  obtain ⟨q0, q1, q2, q3, q4, q5⟩ := C.out
  simp only [Nat.zero_add] at q1 q2 q3 q4 q5
  go_wp2_with fail
  refine (may_eq a b d st hs HR _).mono ?_
  rintro e w2 ⟨rfl, b2⟩
  replace HB := Lib.hid (below2Z HB.out b2)
  clear b2
  go_wp2_with fail
  go_ret
  exact ⟨rfl, HB.out⟩

set_option maxHeartbeats 1600000 in
set_option maxRecDepth 100000 in
theorem quone_off (c st : List UInt8) (a b d : Int) (hc : c.length ≤ 4294967296) (h : idIs c = true) {r : Bool} (hr : vSame ⟨a, b, d, st⟩ Val.zero = r) (w : World) :
    Calls Tryz.prog 81 #[.agg #[.string ⟨c.toArray⟩, .bool false, .int .i64 a, .int .i64 b, .int .i64 d, .string ⟨st.toArray⟩]] w fun e w' => e = .returned (.bool r) ∧ Below w.heap.size w w' := by
  have b0 := bl_newZ w (.cells #[.string ⟨c.toArray⟩, .bool false, .int .i64 a, .int .i64 b, .int .i64 d, .string ⟨st.toArray⟩] 34)
  have HB := Lib.hid b0
  have C : Hid (Cells6 (w.alloc (.cells #[.string ⟨c.toArray⟩, .bool false, .int .i64 a, .int .i64 b, .int .i64 d, .string ⟨st.toArray⟩] 34)) w.heap.size 0 ⟨c, false, ⟨a, b, d, st⟩⟩) := Lib.hid (six_new w _ _ _ _ _ _ _)
  have hlt := Nat.lt_succ_self w.heap.size
  clear b0
  have HH := Lib.hid h
  have heq := fun w => zero_eql a b d st hr w
  have hgd : Tryz.prog.eqGuardType Tryz.prog.depth 32 = false := by kernel_rfl
  clear h hr
  go_enter Tryz.func81, Tryz.ntmps81
  go_wp2_with fail
  refine (is_eq c hc HH _).mono ?_
  rintro e w1 ⟨rfl, b1⟩
  replace C := Lib.hid (C.out.later b1 (by simp))
  replace HB := Lib.hid (below2Z HB.out b1)
  clear b1
  obtain ⟨q0, q1, q2, q3, q4, q5⟩ := C.out
  simp only [Nat.zero_add] at q1 q2 q3 q4 q5
  go_wp2_with fail
  go_ret
  exact ⟨rfl, HB.out⟩

theorem quone_any (c st : List UInt8) (on : Bool) (a b d : Int) (hc : c.length ≤ 4294967296) (hs : st.length ≤ 4294967296) {r : Bool} (h : Hid (quOne ⟨c, on, ⟨a, b, d, st⟩⟩ = r)) (w : World) :
    Calls Tryz.prog 81 #[.agg #[.string ⟨c.toArray⟩, .bool on, .int .i64 a, .int .i64 b, .int .i64 d, .string ⟨st.toArray⟩]] w fun e w' => e = .returned (.bool r) ∧ Below w.heap.size w w' := by
  have h := h.out
  unfold quOne at h
  simp only at h
  cases hi : idIs c with
  | false =>
    rw [hi, Bool.false_and] at h
    subst h
    exact quone_is c st on a b d hc hi w
  | true =>
    rw [hi, Bool.true_and] at h
    cases on with
    | true =>
      rw [if_pos rfl] at h
      exact quone_on c st a b d hc hs hi h w
    | false =>
      rw [if_neg (by simp)] at h
      exact quone_off c st a b d hc hi h w

set_option maxHeartbeats 1600000 in
set_option maxRecDepth 100000 in
theorem rquone_is (c st : List UInt8) (on : Bool) (a b d : Int) (hc : c.length ≤ 4294967296) (h : idIs c = false) (w : World) :
    Calls Tryz.prog 63 #[.agg #[.string ⟨c.toArray⟩, .bool on, .int .i64 a, .int .i64 b, .int .i64 d, .string ⟨st.toArray⟩]] w fun e w' => e = .returned (.bool false) ∧ Below w.heap.size w w' := by
  have b0 := bl_newZ w (.cells #[.string ⟨c.toArray⟩, .bool on, .int .i64 a, .int .i64 b, .int .i64 d, .string ⟨st.toArray⟩] 34)
  have HB := Lib.hid b0
  have C : Hid (Cells6 (w.alloc (.cells #[.string ⟨c.toArray⟩, .bool on, .int .i64 a, .int .i64 b, .int .i64 d, .string ⟨st.toArray⟩] 34)) w.heap.size 0 ⟨c, on, ⟨a, b, d, st⟩⟩) := Lib.hid (six_new w _ _ _ _ _ _ _)
  have hlt := Nat.lt_succ_self w.heap.size
  clear b0
  have HH := Lib.hid h
  clear h
  go_enter Tryz.func63, Tryz.ntmps63
  go_wp2_with fail
  refine (ris_eq c hc HH _).mono ?_
  rintro e w1 ⟨rfl, rfl⟩
  go_wp2_with fail
  go_ret
  exact ⟨rfl, HB.out⟩

set_option maxHeartbeats 1600000 in
set_option maxRecDepth 100000 in
theorem rquone_on (c st : List UInt8) (a b d : Int) (hc : c.length ≤ 4294967296) (hs : st.length ≤ 4294967296) (h : idIs c = true) {r : Bool} (hr : vaMay ⟨a, b, d, st⟩ = r) (w : World) :
    Calls Tryz.prog 63 #[.agg #[.string ⟨c.toArray⟩, .bool true, .int .i64 a, .int .i64 b, .int .i64 d, .string ⟨st.toArray⟩]] w fun e w' => e = .returned (.bool r) ∧ Below w.heap.size w w' := by
  have b0 := bl_newZ w (.cells #[.string ⟨c.toArray⟩, .bool true, .int .i64 a, .int .i64 b, .int .i64 d, .string ⟨st.toArray⟩] 34)
  have HB := Lib.hid b0
  have C : Hid (Cells6 (w.alloc (.cells #[.string ⟨c.toArray⟩, .bool true, .int .i64 a, .int .i64 b, .int .i64 d, .string ⟨st.toArray⟩] 34)) w.heap.size 0 ⟨c, true, ⟨a, b, d, st⟩⟩) := Lib.hid (six_new w _ _ _ _ _ _ _)
  have hlt := Nat.lt_succ_self w.heap.size
  clear b0
  have HH := Lib.hid h
  have HR := Lib.hid hr
  clear h hr
  go_enter Tryz.func63, Tryz.ntmps63
  go_wp2_with fail
  refine (ris_eq c hc HH _).mono ?_
  rintro e w1 ⟨rfl, rfl⟩
  go_wp2_with fail
  refine (rmay_eq a b d st hs HR _).mono ?_
  rintro e w2 ⟨rfl, b2⟩
  replace HB := Lib.hid (below2Z HB.out b2)
  clear b2
  go_wp2_with fail
  go_ret
  exact ⟨rfl, HB.out⟩

set_option maxHeartbeats 1600000 in
set_option maxRecDepth 100000 in
theorem rquone_off (c st : List UInt8) (a b d : Int) (hc : c.length ≤ 4294967296) (h : idIs c = true) {r : Bool} (hr : vSame ⟨a, b, d, st⟩ Val.zero = r) (w : World) :
    Calls Tryz.prog 63 #[.agg #[.string ⟨c.toArray⟩, .bool false, .int .i64 a, .int .i64 b, .int .i64 d, .string ⟨st.toArray⟩]] w fun e w' => e = .returned (.bool r) ∧ Below w.heap.size w w' := by
  have b0 := bl_newZ w (.cells #[.string ⟨c.toArray⟩, .bool false, .int .i64 a, .int .i64 b, .int .i64 d, .string ⟨st.toArray⟩] 34)
  have HB := Lib.hid b0
  have C : Hid (Cells6 (w.alloc (.cells #[.string ⟨c.toArray⟩, .bool false, .int .i64 a, .int .i64 b, .int .i64 d, .string ⟨st.toArray⟩] 34)) w.heap.size 0 ⟨c, false, ⟨a, b, d, st⟩⟩) := Lib.hid (six_new w _ _ _ _ _ _ _)
  have hlt := Nat.lt_succ_self w.heap.size
  clear b0
  have HH := Lib.hid h
  have heq := fun w => zero_eql a b d st hr w
  have hgd : Tryz.prog.eqGuardType Tryz.prog.depth 32 = false := by kernel_rfl
  clear h hr
  go_enter Tryz.func63, Tryz.ntmps63
  go_wp2_with fail
  refine (ris_eq c hc HH _).mono ?_
  rintro e w1 ⟨rfl, rfl⟩
  go_wp2_with fail
  go_ret
  exact ⟨rfl, HB.out⟩

theorem rquone_any (c st : List UInt8) (on : Bool) (a b d : Int) (hc : c.length ≤ 4294967296) (hs : st.length ≤ 4294967296) {r : Bool} (h : Hid (quOne ⟨c, on, ⟨a, b, d, st⟩⟩ = r)) (w : World) :
    Calls Tryz.prog 63 #[.agg #[.string ⟨c.toArray⟩, .bool on, .int .i64 a, .int .i64 b, .int .i64 d, .string ⟨st.toArray⟩]] w fun e w' => e = .returned (.bool r) ∧ Below w.heap.size w w' := by
  have h := h.out
  unfold quOne at h
  simp only at h
  cases hi : idIs c with
  | false =>
    rw [hi, Bool.false_and] at h
    subst h
    exact rquone_is c st on a b d hc hi w
  | true =>
    rw [hi, Bool.true_and] at h
    cases on with
    | true =>
      rw [if_pos rfl] at h
      exact rquone_on c st a b d hc hs hi h w
    | false =>
      rw [if_neg (by simp)] at h
      exact rquone_off c st a b d hc hi h w

end Go.Proofs.YtndicdomdndjaaaGreat

end

section

/-
  IN A REGION THAT DRAWS: a call whose answer hangs on memory that stays.
-/
namespace Go.Proofs.YtndicdomdndjaaaGreat
open Go.RowKit

theorem rgM {P : Program} {f : FuncId} {args : Array Value} {v : Value} {w : World} (h : ∀ w', Below w.heap.size w w' → Calls P f args w' fun e w'' => e = .returned v ∧ Below w'.heap.size w' w'') (d : Nat) (os : Array Obj) :
    Calls P f args (Sort.grow (redrawn w d) os) fun e w'' => e = .returned v ∧ ∃ p : Regrown, w'' = Sort.grow (redrawn w p.d) p.os := Calls.regrown_of (h _ (below_regrown w d os))

end Go.Proofs.YtndicdomdndjaaaGreat

end

section

/-
  LAYER 17: whether a queue may be, the code's and the document's; whether it is empty.
-/
namespace Go.Proofs.YtndicdomdndjaaaGreat
open Go.RowKit

theorem chg_take {l : List Chg} {k : Nat} (hk : k < l.length) : (l.map (·.c)).take (k + 1) = (l.map (·.c)).take k ++ [(l.getD k Chg.zero).c] := by
  rw [List.take_add_one, List.getElem?_map, List.getElem?_eq_getElem hk, List.getD_eq_getElem?_getD, List.getElem?_eq_getElem hk]
  rfl

/-- The contacts up to k, and nothing yet behind. -/
def ctcAt (l : List Chg) (k : Nat) : List (List UInt8) := (l.map (·.c)).take k ++ List.replicate (l.length - k) []
theorem ctcAt_len {l : List Chg} {k : Nat} (h : k ≤ l.length) : (ctcAt l k).length = l.length := by unfold ctcAt; rw [List.length_append, List.length_take, List.length_map, List.length_replicate]; omega
theorem ctcAt_set {l : List Chg} {k : Nat} (hk : k < l.length) : (ctcAt l k).set k (l.getD k Chg.zero).c = ctcAt l (k + 1) := by
  unfold ctcAt
  have h1 : ((l.map (·.c)).take k).length = k := by rw [List.length_take, List.length_map]; omega
  rw [List.set_append_right _ _ (by omega), h1, Nat.sub_self, show l.length - k = (l.length - (k + 1)) + 1 by omega, List.replicate_succ, List.set_cons_zero, chg_take hk]
  simp
theorem ctcAt_end (l : List Chg) : ctcAt l l.length = l.map (·.c) := by
  unfold ctcAt
  rw [Nat.sub_self, List.take_of_length_le (by rw [List.length_map]; omega)]
  simp

theorem qumay_long {l : List Chg} {la : Bool} {room : Int} (h : room < (l.length : Int)) : quMay ⟨l, la⟩ room = false := by
  rw [Bool.eq_false_iff]
  intro e
  have := (quMay_iff.1 e).1
  simp only at this
  omega
theorem qumay_la {l : List Chg} {room : Int} (h : 0 < l.length) : quMay ⟨l, true⟩ room = false := by
  rw [Bool.eq_false_iff]
  intro e
  have := (quMay_iff.1 e).2.1 rfl
  simp only at this
  rw [this] at h
  simp at h
theorem qumay_one {l : List Chg} {la : Bool} {room : Int} {k : Nat} (hk : k < l.length) (h : quOne (l.getD k Chg.zero) = false) : quMay ⟨l, la⟩ room = false := by
  rw [Bool.eq_false_iff]
  intro e
  have := (quMay_iff.1 e).2.2.1 _ (List.getElem_mem hk)
  rw [List.getD_eq_getElem?_getD, List.getElem?_eq_getElem hk] at h
  simp only [Option.getD_some] at h
  rw [h] at this
  cases this
theorem qumay_at {l : List Chg} {la : Bool} {room : Int} {k : Nat} (hk : k < l.length) (h : ¬ quAt l (l.getD k Chg.zero).c = k) : quMay ⟨l, la⟩ room = false := by
  rw [Bool.eq_false_iff]
  intro e
  exact h (quAt_own (quMay_iff.1 e).2.2.2 hk)
theorem qumay_end {l : List Chg} {la : Bool} {room : Int} (h1 : (l.length : Int) ≤ room) (h2 : la = true → l = []) (h3 : ∀ i, i < l.length → quOne (l.getD i Chg.zero) = true) : quMay ⟨l, la⟩ room = decide (quNo2 l) := by
  rw [Bool.eq_iff_iff, quMay_iff, decide_eq_true_eq]
  refine ⟨fun h => h.2.2.2, fun h => ⟨h1, h2, fun c hc => ?_, h⟩⟩
  obtain ⟨i, hi, rfl⟩ := List.getElem_of_mem hc
  have := h3 i hi
  rwa [List.getD_eq_getElem?_getD, List.getElem?_eq_getElem hi] at this
theorem qumay_ends {l : List Chg} {la : Bool} {room : Int} (h1 : (l.length : Int) ≤ room) (h2 : la = true → l = []) (h3 : ∀ i, i < l.length → quOne (l.getD i Chg.zero) = true) (h4 : ∀ i, i < l.length → quAt l (l.getD i Chg.zero).c = i) : quMay ⟨l, la⟩ room = true := by
  rw [qumay_end h1 h2 h3, decide_eq_true_eq]
  exact quNo2_iff.2 h4

set_option maxHeartbeats 3200000 in
set_option maxRecDepth 100000 in
theorem each_any {w : World} {v : Value} {l : List Chg} (hv : Chgs w v l) (hl : l.length ≤ 100) :
    Calls Tryz.prog 82 #[v] w fun e w' => e = .returned (.bool (decide (quNo2 l))) ∧ Below w.heap.size w w' := by
  have HV := Lib.hid hv
  obtain ⟨a, cap, rfl, _⟩ := hv.open'
  obtain ⟨r, hr⟩ : ∃ r, decide (quNo2 l) = r := ⟨_, rfl⟩
  rw [hr]
  have HRR := Lib.hid hr
  clear hv hr
  go_enter Tryz.func82, Tryz.ntmps82
  go_wp2_with (at_make; go_must (refine wpList_make_texts rfl _ _ rfl _ _ l.length rfl rfl (by omega) (by omega) (by omega) ?_))
  intro w1 h1 hb1 hz1
  have R1 : Hid (RowT w1 w.heap.size (ctcAt l 0)) := by show RowT _ _ _; simpa [ctcAt] using h1
  have B1 := Lib.hid hb1
  clear h1 hb1
  go_wp2_with fail
  go_loopw [11] (fun i wr => ∃ k : Nat, k ≤ l.length ∧ i = .int .i64 k ∧ Hid (RowT wr w.heap.size (ctcAt l k)) ∧ Hid (Below w.heap.size w wr) ∧ w.heap.size < wr.heap.size) (fun i _ => l.length - (intOf i).toNat)
  case atStart => exact ⟨0, by omega, rfl, R1, B1, hz1⟩
  case round =>
    clear R1 B1 hz1
    obtain ⟨k, hk, rfl, HR, HN, hz⟩ := hrel
    by_cases hlt : k < l.length
    · obtain ⟨b, off, rfl, h0, h1, h2, h3, h4, h5⟩ := HV.out.row HN.out k hlt
      have HS := HR.out.set k (l.getD k Chg.zero).c (by rw [ctcAt_len (by omega)]; exact hlt)
      rw [ctcAt_set hlt] at HS
      have hc0 := (HR.out k (by rw [ctcAt_len (by omega)]; exact hlt)).1
      have hf0 := (HR.out k (by rw [ctcAt_len (by omega)]; exact hlt)).2
      obtain ⟨⟨c, o, ⟨x, y, z, st⟩⟩, hr⟩ : ∃ r, l.getD k Chg.zero = r := ⟨_, rfl⟩
      rw [hr] at h0 h1 h2 h3 h4 h5 HS
      simp only at h0 h1 h2 h3 h4 h5 HS
      unfold encS at HS hc0
      have HS2 := Lib.hid HS
      have HN2 : Hid (Below w.heap.size w (wr.setCell ⟨w.heap.size, k, none⟩ (.string ⟨c.toArray⟩))) := HN.out.setCell (Nat.le_refl _) _
      have hz2 : w.heap.size < (wr.setCell ⟨w.heap.size, k, none⟩ (.string ⟨c.toArray⟩)).heap.size := by simpa using hz
      have HS3 := Lib.hid (HS2.out.later hz2 ((Below.refl _ _).alloc (Nat.le_refl _) (.cells #[.string ⟨c.toArray⟩, .bool o, .int .i64 x, .int .i64 y, .int .i64 z, .string ⟨st.toArray⟩] 34)))
      have HN3 := Lib.hid (bl_alloc HN2.out (.cells #[.string ⟨c.toArray⟩, .bool o, .int .i64 x, .int .i64 y, .int .i64 z, .string ⟨st.toArray⟩] 34))
      clear hr HS
      go_wp2_with fail
      go_roundw
      case rel => exact ⟨k + 1, by omega, by go_num, HS3, HN3, by simp; omega⟩
      case measure => simp [intOf]; omega
    · obtain rfl : k = l.length := by omega
      have HT : Hid (Texts wr (.slice (some ⟨w.heap.size, 0, none⟩) l.length l.length) (l.map (·.c))) := by
        show Texts _ _ _
        have := HR.out
        rw [ctcAt_end] at this
        have h2 := this.texts hz (by rw [List.length_map]; omega)
        rwa [List.length_map] at h2
      have HF : Hid (decide (((mrg (l.map (·.c) ++ [])).length : Int) = (l.length : Int)) = r) := by
        show _ = _
        rw [← HRR.out, List.append_nil, decide_eq_decide]
        have := mrg_full (l.map (·.c))
        rw [List.length_map] at this
        unfold quNo2
        rw [← this]
        omega
      go_wp2_with fail
      refine (merge_any HT.out (texts_nil _) (by rw [List.length_map]; exact hl) (by simp)).mono ?_
      rintro e w2 ⟨u, rfl, ht, b2⟩
      obtain ⟨au, cu, rfl⟩ : ∃ a c, u = .slice a (mrg (l.map (·.c) ++ [])).length c := by
        obtain ⟨a', c', e, _⟩ := ht
        exact ⟨a', c', e⟩
      have HN2 := Lib.hid (HN.out.trans (b2.mono HN.out.size))
      obtain ⟨m, hm⟩ : ∃ m, (mrg (l.map (·.c) ++ [])).length = m := ⟨_, rfl⟩
      rw [hm] at HF
      try rw [hm]
      clear b2 ht hm
      have ht1 := HF.out
      have t2 : (((m : Nat) : Int) == (l.length : Int)) = r := by rw [← ht1]; rfl
      clear HF ht1
      go_wp2_with fail
      go_ret
      first | exact ⟨rfl, HN2.out⟩ | exact ⟨by rw [← t2]; rfl, HN2.out⟩

set_option maxHeartbeats 3200000 in
set_option maxRecDepth 100000 in
theorem qumay_1 {w : World} {v : Value} {l : List Chg} (hv : Chgs w v l) (la : Bool) {room : Int} (h : room < (l.length : Int)) :
    Calls Tryz.prog 62 #[.agg #[v, .bool la], .int .i64 room] w fun e w' => e = .returned (.bool false) ∧ Below w.heap.size w w' := by
  obtain ⟨ao, cap, rfl, hmx⟩ := hv.open'
  have b0 := bl_newZ w (.cells #[.slice ao l.length cap, .bool la] 26)
  have HV := Lib.hid (hv.later b0)
  have HB := Lib.hid b0
  have HQ := Lib.hid ((MapKept.heap_alloc w (.cells #[.slice ao l.length cap, .bool la] 26)).1)
  clear hv b0
  have t1 : decide (room < (l.length : Int)) = true := decide_eq_true h
  go_enter Tryz.func62, Tryz.ntmps62
  go_wp2_with fail
  go_ret
  exact ⟨rfl, HB.out⟩

set_option maxHeartbeats 3200000 in
set_option maxRecDepth 100000 in
theorem qumay_2 {w : World} {v : Value} {l : List Chg} (hv : Chgs w v l) {room : Int} (h : ¬ room < (l.length : Int)) (h0 : 0 < l.length) :
    Calls Tryz.prog 62 #[.agg #[v, .bool true], .int .i64 room] w fun e w' => e = .returned (.bool false) ∧ Below w.heap.size w w' := by
  obtain ⟨ao, cap, rfl, hmx⟩ := hv.open'
  have b0 := bl_newZ w (.cells #[.slice ao l.length cap, .bool true] 26)
  have HV := Lib.hid (hv.later b0)
  have HB := Lib.hid b0
  have HQ := Lib.hid ((MapKept.heap_alloc w (.cells #[.slice ao l.length cap, .bool true] 26)).1)
  clear hv b0
  have t1 : decide (room < (l.length : Int)) = false := decide_eq_false h
  have t2 : decide ((0 : Int) < (l.length : Int)) = true := decide_eq_true (by omega)
  have t3 : decide (0 < l.length) = true := decide_eq_true h0
  clear h
  go_enter Tryz.func62, Tryz.ntmps62
  go_wp2_with fail
  go_ret
  exact ⟨rfl, HB.out⟩

set_option maxHeartbeats 3200000 in
set_option maxRecDepth 100000 in
theorem qumay_3 {w : World} {v : Value} {l : List Chg} (hv : Chgs w v l) (hs : ShortC l) (hl : l.length ≤ 100) {room : Int} (h : ¬ room < (l.length : Int)) :
    Calls Tryz.prog 62 #[.agg #[v, .bool false], .int .i64 room] w fun e w' => e = .returned (.bool (quMay ⟨l, false⟩ room)) ∧ Below w.heap.size w w' := by
  obtain ⟨ao, cap, rfl, hmx⟩ := hv.open'
  have b0 := bl_newZ w (.cells #[.slice ao l.length cap, .bool false] 26)
  have HV := Lib.hid (hv.later b0)
  have HB := Lib.hid b0
  have HQ := Lib.hid ((MapKept.heap_alloc w (.cells #[.slice ao l.length cap, .bool false] 26)).1)
  clear hv b0
  have t1 : decide (room < (l.length : Int)) = false := decide_eq_false h
  have HR : Hid ((l.length : Int) ≤ room) := Lib.hid (by omega)
  have HS := Lib.hid hs
  clear h hs
  go_enter Tryz.func62, Tryz.ntmps62
  go_wp2_with fail
  clear t1
  go_loopw [25] (fun i wr => ∃ k : Nat, k ≤ l.length ∧ i = .int .i64 k ∧ Hid (Below (w.alloc (.cells #[.slice ao l.length cap, .bool false] 26)).heap.size (w.alloc (.cells #[.slice ao l.length cap, .bool false] 26)) wr) ∧ Hid (∀ i, i < k → quOne (l.getD i Chg.zero) = true)) (fun i _ => l.length - (intOf i).toNat)
  case atStart => exact ⟨0, by omega, rfl, Below.refl _ _, fun i hi => by omega⟩
  case round =>
    obtain ⟨k, hk, rfl, HN, HA⟩ := hrel
    by_cases hlt : k < l.length
    · obtain ⟨b, off, rfl, h0, h1, h2, h3, h4, h5⟩ := HV.out.row HN.out k hlt
      have hx := (HN.out.block w.heap.size (by simp)).trans HQ.out
      have q0 := cell_of_row wr w.heap.size 0 _ _ (0, 0) hx
      have q1 := cell_of_row wr w.heap.size 1 _ _ (0, 0) hx
      try simp only at q0 q1
      obtain ⟨hl1, hl2⟩ := HS.out.get hlt
      obtain ⟨⟨c, o, ⟨x, y, z, st⟩⟩, hr⟩ : ∃ r, l.getD k Chg.zero = r := ⟨_, rfl⟩
      rw [hr] at h0 h1 h2 h3 h4 h5 hl1 hl2
      simp only at h0 h1 h2 h3 h4 h5 hl1 hl2
      have HRr := Lib.hid hr
      clear hr
      cases hone : quOne ⟨c, o, ⟨x, y, z, st⟩⟩ with
      | false =>
        have HF : Hid (quMay ⟨l, false⟩ room = false) := qumay_one hlt (by rw [HRr.out]; exact hone)
        have H1 := Lib.hid hone
        clear hone
        go_wp2_with fail
        refine (quone_any c st o x y z hl1 hl2 H1 _).mono ?_
        rintro e w2 ⟨rfl, b2⟩
        have HN2 := Lib.hid ((below2Z HN.out (bl_newZ wr (.cells #[.string ⟨c.toArray⟩, .bool o, .int .i64 x, .int .i64 y, .int .i64 z, .string ⟨st.toArray⟩] 34))).trans (b2.mono (Nat.le_trans HN.out.size (by simp))))
        clear b2
        go_wp2_with fail
        go_ret
        exact ⟨by rw [HF.out]; rfl, below2Z HB.out HN2.out⟩
      | true =>
        have H1 := Lib.hid hone
        have HA2 : Hid (∀ i, i < k + 1 → quOne (l.getD i Chg.zero) = true) := Lib.hid fun i hi => by
          rcases Nat.lt_or_eq_of_le (Nat.le_of_lt_succ hi) with h | h
          · exact HA.out i h
          · subst h; rw [HRr.out]; exact hone
        clear hone
        go_wp2_with fail
        refine (quone_any c st o x y z hl1 hl2 H1 _).mono ?_
        rintro e w2 ⟨rfl, b2⟩
        have HN2 := Lib.hid ((below2Z HN.out (bl_newZ wr (.cells #[.string ⟨c.toArray⟩, .bool o, .int .i64 x, .int .i64 y, .int .i64 z, .string ⟨st.toArray⟩] 34))).trans (b2.mono (Nat.le_trans HN.out.size (by simp))))
        clear b2
        go_wp2_with fail
        go_roundw
        case rel => exact ⟨k + 1, by omega, by go_num, HN2, HA2⟩
        case measure => simp [intOf]; omega
    · obtain rfl : k = l.length := by omega
      have hx := (HN.out.block w.heap.size (by simp)).trans HQ.out
      have q0 := cell_of_row wr w.heap.size 0 _ _ (0, 0) hx
      have q1 := cell_of_row wr w.heap.size 1 _ _ (0, 0) hx
      try simp only at q0 q1
      have HF : Hid (quMay ⟨l, false⟩ room = decide (quNo2 l)) := qumay_end HR.out (fun e => by cases e) HA.out
      go_wp2_with fail
      refine (each_any (HV.out.later HN.out) hl).mono ?_
      rintro e w2 ⟨rfl, b2⟩
      have HN2 := Lib.hid (HN.out.trans (b2.mono HN.out.size))
      clear b2
      go_wp2_with fail
      go_ret
      exact ⟨by rw [HF.out]; rfl, below2Z HB.out HN2.out⟩

set_option maxHeartbeats 3200000 in
set_option maxRecDepth 100000 in
theorem qumay_4 {w : World} {v : Value} {l : List Chg} (hv : Chgs w v l) (hs : ShortC l) (hl : l.length ≤ 100) {room : Int} (h : ¬ room < (l.length : Int)) (h0 : l = []) :
    Calls Tryz.prog 62 #[.agg #[v, .bool true], .int .i64 room] w fun e w' => e = .returned (.bool (quMay ⟨l, true⟩ room)) ∧ Below w.heap.size w w' := by
  obtain ⟨ao, cap, rfl, hmx⟩ := hv.open'
  have b0 := bl_newZ w (.cells #[.slice ao l.length cap, .bool true] 26)
  have HV := Lib.hid (hv.later b0)
  have HB := Lib.hid b0
  have HQ := Lib.hid ((MapKept.heap_alloc w (.cells #[.slice ao l.length cap, .bool true] 26)).1)
  clear hv b0
  have t1 : decide (room < (l.length : Int)) = false := decide_eq_false h
  have t2 : decide ((0 : Int) < (l.length : Int)) = false := decide_eq_false (by rw [h0]; simp)
  have t3 : decide (0 < l.length) = false := decide_eq_false (by rw [h0]; simp)
  have HE := Lib.hid h0
  clear h0
  have HR : Hid ((l.length : Int) ≤ room) := Lib.hid (by omega)
  have HS := Lib.hid hs
  clear h hs
  go_enter Tryz.func62, Tryz.ntmps62
  go_wp2_with fail
  clear t1 t2 t3
  go_loopw [25] (fun i wr => ∃ k : Nat, k ≤ l.length ∧ i = .int .i64 k ∧ Hid (Below (w.alloc (.cells #[.slice ao l.length cap, .bool true] 26)).heap.size (w.alloc (.cells #[.slice ao l.length cap, .bool true] 26)) wr) ∧ Hid (∀ i, i < k → quOne (l.getD i Chg.zero) = true)) (fun i _ => l.length - (intOf i).toNat)
  case atStart => exact ⟨0, by omega, rfl, Below.refl _ _, fun i hi => by omega⟩
  case round =>
    obtain ⟨k, hk, rfl, HN, HA⟩ := hrel
    by_cases hlt : k < l.length
    · obtain ⟨b, off, rfl, h0, h1, h2, h3, h4, h5⟩ := HV.out.row HN.out k hlt
      have hx := (HN.out.block w.heap.size (by simp)).trans HQ.out
      have q0 := cell_of_row wr w.heap.size 0 _ _ (0, 0) hx
      have q1 := cell_of_row wr w.heap.size 1 _ _ (0, 0) hx
      try simp only at q0 q1
      obtain ⟨hl1, hl2⟩ := HS.out.get hlt
      obtain ⟨⟨c, o, ⟨x, y, z, st⟩⟩, hr⟩ : ∃ r, l.getD k Chg.zero = r := ⟨_, rfl⟩
      rw [hr] at h0 h1 h2 h3 h4 h5 hl1 hl2
      simp only at h0 h1 h2 h3 h4 h5 hl1 hl2
      have HRr := Lib.hid hr
      clear hr
      cases hone : quOne ⟨c, o, ⟨x, y, z, st⟩⟩ with
      | false =>
        have HF : Hid (quMay ⟨l, true⟩ room = false) := qumay_one hlt (by rw [HRr.out]; exact hone)
        have H1 := Lib.hid hone
        clear hone
        go_wp2_with fail
        refine (quone_any c st o x y z hl1 hl2 H1 _).mono ?_
        rintro e w2 ⟨rfl, b2⟩
        have HN2 := Lib.hid ((below2Z HN.out (bl_newZ wr (.cells #[.string ⟨c.toArray⟩, .bool o, .int .i64 x, .int .i64 y, .int .i64 z, .string ⟨st.toArray⟩] 34))).trans (b2.mono (Nat.le_trans HN.out.size (by simp))))
        clear b2
        go_wp2_with fail
        go_ret
        exact ⟨by rw [HF.out]; rfl, below2Z HB.out HN2.out⟩
      | true =>
        have H1 := Lib.hid hone
        have HA2 : Hid (∀ i, i < k + 1 → quOne (l.getD i Chg.zero) = true) := Lib.hid fun i hi => by
          rcases Nat.lt_or_eq_of_le (Nat.le_of_lt_succ hi) with h | h
          · exact HA.out i h
          · subst h; rw [HRr.out]; exact hone
        clear hone
        go_wp2_with fail
        refine (quone_any c st o x y z hl1 hl2 H1 _).mono ?_
        rintro e w2 ⟨rfl, b2⟩
        have HN2 := Lib.hid ((below2Z HN.out (bl_newZ wr (.cells #[.string ⟨c.toArray⟩, .bool o, .int .i64 x, .int .i64 y, .int .i64 z, .string ⟨st.toArray⟩] 34))).trans (b2.mono (Nat.le_trans HN.out.size (by simp))))
        clear b2
        go_wp2_with fail
        go_roundw
        case rel => exact ⟨k + 1, by omega, by go_num, HN2, HA2⟩
        case measure => simp [intOf]; omega
    · obtain rfl : k = l.length := by omega
      have hx := (HN.out.block w.heap.size (by simp)).trans HQ.out
      have q0 := cell_of_row wr w.heap.size 0 _ _ (0, 0) hx
      have q1 := cell_of_row wr w.heap.size 1 _ _ (0, 0) hx
      try simp only at q0 q1
      have HF : Hid (quMay ⟨l, true⟩ room = decide (quNo2 l)) := qumay_end HR.out (fun _ => HE.out) HA.out
      go_wp2_with fail
      refine (each_any (HV.out.later HN.out) hl).mono ?_
      rintro e w2 ⟨rfl, b2⟩
      have HN2 := Lib.hid (HN.out.trans (b2.mono HN.out.size))
      clear b2
      go_wp2_with fail
      go_ret
      exact ⟨by rw [HF.out]; rfl, below2Z HB.out HN2.out⟩

theorem qumay_any {w : World} {v : Value} {l : List Chg} (hv : Chgs w v l) (hs : ShortC l) (hl : l.length ≤ 100) (la : Bool) {room : Int} {r : Bool} (h : Hid (quMay ⟨l, la⟩ room = r)) :
    Calls Tryz.prog 62 #[.agg #[v, .bool la], .int .i64 room] w fun e w' => e = .returned (.bool r) ∧ Below w.heap.size w w' := by
  rw [← h.out]
  by_cases h1 : room < (l.length : Int)
  · rw [qumay_long h1]
    exact qumay_1 hv la h1
  · cases la with
    | false => exact qumay_3 hv hs hl h1
    | true =>
      by_cases h0 : 0 < l.length
      · rw [qumay_la h0]
        exact qumay_2 hv h1 h0
      · exact qumay_4 hv hs hl h1 (List.length_eq_zero_iff.1 (by omega))

set_option maxHeartbeats 3200000 in
set_option maxRecDepth 100000 in
theorem rqumay_1 {w : World} {v : Value} {l : List Chg} (hv : Chgs w v l) (la : Bool) {room : Int} (h : room < (l.length : Int)) :
    Calls Tryz.prog 43 #[.agg #[v, .bool la], .int .i64 room] w fun e w' => e = .returned (.bool false) ∧ Below w.heap.size w w' := by
  obtain ⟨ao, cap, rfl, hmx⟩ := hv.open'
  have b0 := bl_newZ w (.cells #[.slice ao l.length cap, .bool la] 26)
  have HV := Lib.hid (hv.later b0)
  have HB := Lib.hid b0
  have HQ := Lib.hid ((MapKept.heap_alloc w (.cells #[.slice ao l.length cap, .bool la] 26)).1)
  clear hv b0
  have t1 : decide (room < (l.length : Int)) = true := decide_eq_true h
  go_enter Tryz.func43, Tryz.ntmps43
  go_wp2_with fail
  go_ret
  exact ⟨rfl, HB.out⟩

set_option maxHeartbeats 3200000 in
set_option maxRecDepth 100000 in
theorem rqumay_2 {w : World} {v : Value} {l : List Chg} (hv : Chgs w v l) {room : Int} (h : ¬ room < (l.length : Int)) (h0 : 0 < l.length) :
    Calls Tryz.prog 43 #[.agg #[v, .bool true], .int .i64 room] w fun e w' => e = .returned (.bool false) ∧ Below w.heap.size w w' := by
  obtain ⟨ao, cap, rfl, hmx⟩ := hv.open'
  have b0 := bl_newZ w (.cells #[.slice ao l.length cap, .bool true] 26)
  have HV := Lib.hid (hv.later b0)
  have HB := Lib.hid b0
  have HQ := Lib.hid ((MapKept.heap_alloc w (.cells #[.slice ao l.length cap, .bool true] 26)).1)
  clear hv b0
  have t1 : decide (room < (l.length : Int)) = false := decide_eq_false h
  have t2 : decide ((0 : Int) < (l.length : Int)) = true := decide_eq_true (by omega)
  have t3 : decide (0 < l.length) = true := decide_eq_true h0
  clear h
  go_enter Tryz.func43, Tryz.ntmps43
  go_wp2_with fail
  go_ret
  exact ⟨rfl, HB.out⟩

set_option maxHeartbeats 3200000 in
set_option maxRecDepth 100000 in
theorem rqumay_3 {w : World} {v : Value} {l : List Chg} (hv : Chgs w v l) (hs : ShortC l) (hl : l.length ≤ 100) {room : Int} (h : ¬ room < (l.length : Int)) :
    Calls Tryz.prog 43 #[.agg #[v, .bool false], .int .i64 room] w fun e w' => e = .returned (.bool (quMay ⟨l, false⟩ room)) ∧ Below w.heap.size w w' := by
  obtain ⟨ao, cap, rfl, hmx⟩ := hv.open'
  have b0 := bl_newZ w (.cells #[.slice ao l.length cap, .bool false] 26)
  have HV := Lib.hid (hv.later b0)
  have HB := Lib.hid b0
  have HQ := Lib.hid ((MapKept.heap_alloc w (.cells #[.slice ao l.length cap, .bool false] 26)).1)
  clear hv b0
  have t1 : decide (room < (l.length : Int)) = false := decide_eq_false h
  have HR : Hid ((l.length : Int) ≤ room) := Lib.hid (by omega)
  have HS := Lib.hid hs
  clear h hs
  go_enter Tryz.func43, Tryz.ntmps43
  go_wp2_with fail
  clear t1
  go_loopw [5] (fun i wr => ∃ k : Nat, k ≤ l.length ∧ i = .int .i64 k ∧ Hid (Below (w.alloc (.cells #[.slice ao l.length cap, .bool false] 26)).heap.size (w.alloc (.cells #[.slice ao l.length cap, .bool false] 26)) wr) ∧ Hid (∀ i, i < k → quOne (l.getD i Chg.zero) = true ∧ quAt l (l.getD i Chg.zero).c = i)) (fun i _ => l.length - (intOf i).toNat)
  case atStart => exact ⟨0, by omega, rfl, Below.refl _ _, fun i hi => by omega⟩
  case round =>
    obtain ⟨k, hk, rfl, HN, HA⟩ := hrel
    by_cases hlt : k < l.length
    · obtain ⟨b, off, rfl, h0, h1, h2, h3, h4, h5⟩ := HV.out.row HN.out k hlt
      have hx := (HN.out.block w.heap.size (by simp)).trans HQ.out
      have q0 := cell_of_row wr w.heap.size 0 _ _ (0, 0) hx
      have q1 := cell_of_row wr w.heap.size 1 _ _ (0, 0) hx
      try simp only at q0 q1
      obtain ⟨hl1, hl2⟩ := HS.out.get hlt
      obtain ⟨⟨c, o, ⟨x, y, z, st⟩⟩, hr⟩ : ∃ r, l.getD k Chg.zero = r := ⟨_, rfl⟩
      rw [hr] at h0 h1 h2 h3 h4 h5 hl1 hl2
      simp only at h0 h1 h2 h3 h4 h5 hl1 hl2
      have HRr := Lib.hid hr
      clear hr
      cases hone : quOne ⟨c, o, ⟨x, y, z, st⟩⟩ with
      | false =>
        have HF : Hid (quMay ⟨l, false⟩ room = false) := qumay_one hlt (by rw [HRr.out]; exact hone)
        have H1 := Lib.hid hone
        clear hone
        have HO := Lib.hid (rquone_any c st o x y z hl1 hl2 H1)
        go_wp2_with fail
        have g0 := cell_regrown h0
        have g1 := cell_regrown h1
        have g2 := cell_regrown h2
        have g3 := cell_regrown h3
        have g4 := cell_regrown h4
        have g5 := cell_regrown h5
        have p0 := cell_regrown q0
        have p1 := cell_regrown q1
        clear h0 h1 h2 h3 h4 h5 q0 q1
        refine wp_region_quiet_below (by kernel_rfl) (by kernel_rfl) ?_
        repeat (go_big_quiet_step (first | with_reducible exact rgB HO.out _ _ _))
        refine wpQuiet_nil ?_
        intro w5 hw5
        have HN5 := Lib.hid (HN.out.trans ((regrown_belowD hw5).mono HN.out.size))
        clear hw5 g0 g1 g2 g3 g4 g5 p0 p1
        go_wp2_with fail
        go_ret
        exact ⟨by rw [HF.out]; rfl, below2Z HB.out HN5.out⟩
      | true =>
        have H1 := Lib.hid hone
        have HO := Lib.hid (rquone_any c st o x y z hl1 hl2 H1)
        have hhas : quHas l c = true := quHas_iff.2 ⟨l.getD k Chg.zero, by rw [List.getD_eq_getElem?_getD, List.getElem?_eq_getElem hlt]; exact List.getElem_mem hlt, congrArg (·.c) HRr.out⟩
        obtain ⟨m, hm⟩ : ∃ m, quAt l c = m := ⟨_, rfl⟩
        have HP : Hid (∀ w', Below wr.heap.size wr w' → Calls Tryz.prog 64 #[.agg #[.slice (some ⟨b, off, none⟩) l.length cap, .bool false], .string ⟨c.toArray⟩] w' fun e w'' => e = .returned (.int .i64 (m : Nat)) ∧ Below w'.heap.size w' w'') := Lib.hid fun w' hb' => by
          rw [← hm]
          exact rquplace_yes ((HV.out.later HN.out).later hb') _ c hhas
        have hne : ∀ mm : Nat, (((mm : Int) != (k : Int)) = !(decide (mm = k))) := fun mm => by
          rw [Bool.eq_iff_iff]; simp [bne_iff_ne]; omega
        by_cases hmk : m = k
        · have HA2 : Hid (∀ i, i < k + 1 → quOne (l.getD i Chg.zero) = true ∧ quAt l (l.getD i Chg.zero).c = i) := Lib.hid fun i hi => by
            rcases Nat.lt_or_eq_of_le (Nat.le_of_lt_succ hi) with h | h
            · exact HA.out i h
            · subst h; rw [HRr.out]; exact ⟨hone, by rw [hm, hmk]⟩
          have t7 : (((m : Nat) : Int) != (k : Int)) = false := by rw [hne, decide_eq_true hmk]; rfl
          clear hone hm hne hmk
          go_wp2_with fail
          have g0 := cell_regrown h0
          have g1 := cell_regrown h1
          have g2 := cell_regrown h2
          have g3 := cell_regrown h3
          have g4 := cell_regrown h4
          have g5 := cell_regrown h5
          have p0 := cell_regrown q0
          have p1 := cell_regrown q1
          clear h0 h1 h2 h3 h4 h5 q0 q1
          refine wp_region_quiet_below (by kernel_rfl) (by kernel_rfl) ?_
          repeat (go_big_quiet_step (first | with_reducible exact rgB HO.out _ _ _ | with_reducible exact rgM HP.out _ _))
          refine wpQuiet_nil ?_
          intro w5 hw5
          have HN5 := Lib.hid (HN.out.trans ((regrown_belowD hw5).mono HN.out.size))
          clear hw5 g0 g1 g2 g3 g4 g5 p0 p1
          go_wp2_with fail
          go_roundw
          case rel => exact ⟨k + 1, by omega, by go_num, HN5, HA2⟩
          case measure => simp [intOf]; omega
        · have HF : Hid (quMay ⟨l, false⟩ room = false) := qumay_at hlt (by rw [HRr.out]; simp only; rw [hm]; exact hmk)
          have t7 : (((m : Nat) : Int) != (k : Int)) = true := by rw [hne, decide_eq_false hmk]; rfl
          clear hone hm hne hmk
          go_wp2_with fail
          have g0 := cell_regrown h0
          have g1 := cell_regrown h1
          have g2 := cell_regrown h2
          have g3 := cell_regrown h3
          have g4 := cell_regrown h4
          have g5 := cell_regrown h5
          have p0 := cell_regrown q0
          have p1 := cell_regrown q1
          clear h0 h1 h2 h3 h4 h5 q0 q1
          refine wp_region_quiet_below (by kernel_rfl) (by kernel_rfl) ?_
          repeat (go_big_quiet_step (first | with_reducible exact rgB HO.out _ _ _ | with_reducible exact rgM HP.out _ _))
          refine wpQuiet_nil ?_
          intro w5 hw5
          have HN5 := Lib.hid (HN.out.trans ((regrown_belowD hw5).mono HN.out.size))
          clear hw5 g0 g1 g2 g3 g4 g5 p0 p1
          go_wp2_with fail
          go_ret
          exact ⟨by rw [HF.out]; rfl, below2Z HB.out HN5.out⟩
    · obtain rfl : k = l.length := by omega
      have hx := (HN.out.block w.heap.size (by simp)).trans HQ.out
      have q0 := cell_of_row wr w.heap.size 0 _ _ (0, 0) hx
      have q1 := cell_of_row wr w.heap.size 1 _ _ (0, 0) hx
      try simp only at q0 q1
      have HF : Hid (quMay ⟨l, false⟩ room = true) := qumay_ends HR.out (fun e => by cases e) (fun i hi => (HA.out i hi).1) (fun i hi => (HA.out i hi).2)
      go_wp2_with fail
      go_ret
      exact ⟨by rw [HF.out]; rfl, below2Z HB.out HN.out⟩

set_option maxHeartbeats 3200000 in
set_option maxRecDepth 100000 in
theorem rqumay_4 {w : World} {v : Value} {l : List Chg} (hv : Chgs w v l) (hs : ShortC l) (hl : l.length ≤ 100) {room : Int} (h : ¬ room < (l.length : Int)) (h0 : l = []) :
    Calls Tryz.prog 43 #[.agg #[v, .bool true], .int .i64 room] w fun e w' => e = .returned (.bool (quMay ⟨l, true⟩ room)) ∧ Below w.heap.size w w' := by
  obtain ⟨ao, cap, rfl, hmx⟩ := hv.open'
  have b0 := bl_newZ w (.cells #[.slice ao l.length cap, .bool true] 26)
  have HV := Lib.hid (hv.later b0)
  have HB := Lib.hid b0
  have HQ := Lib.hid ((MapKept.heap_alloc w (.cells #[.slice ao l.length cap, .bool true] 26)).1)
  clear hv b0
  have t1 : decide (room < (l.length : Int)) = false := decide_eq_false h
  have t2 : decide ((0 : Int) < (l.length : Int)) = false := decide_eq_false (by rw [h0]; simp)
  have t3 : decide (0 < l.length) = false := decide_eq_false (by rw [h0]; simp)
  have HE := Lib.hid h0
  clear h0
  have HR : Hid ((l.length : Int) ≤ room) := Lib.hid (by omega)
  have HS := Lib.hid hs
  clear h hs
  go_enter Tryz.func43, Tryz.ntmps43
  go_wp2_with fail
  clear t1 t2 t3
  go_loopw [5] (fun i wr => ∃ k : Nat, k ≤ l.length ∧ i = .int .i64 k ∧ Hid (Below (w.alloc (.cells #[.slice ao l.length cap, .bool true] 26)).heap.size (w.alloc (.cells #[.slice ao l.length cap, .bool true] 26)) wr) ∧ Hid (∀ i, i < k → quOne (l.getD i Chg.zero) = true ∧ quAt l (l.getD i Chg.zero).c = i)) (fun i _ => l.length - (intOf i).toNat)
  case atStart => exact ⟨0, by omega, rfl, Below.refl _ _, fun i hi => by omega⟩
  case round =>
    obtain ⟨k, hk, rfl, HN, HA⟩ := hrel
    by_cases hlt : k < l.length
    · obtain ⟨b, off, rfl, h0, h1, h2, h3, h4, h5⟩ := HV.out.row HN.out k hlt
      have hx := (HN.out.block w.heap.size (by simp)).trans HQ.out
      have q0 := cell_of_row wr w.heap.size 0 _ _ (0, 0) hx
      have q1 := cell_of_row wr w.heap.size 1 _ _ (0, 0) hx
      try simp only at q0 q1
      obtain ⟨hl1, hl2⟩ := HS.out.get hlt
      obtain ⟨⟨c, o, ⟨x, y, z, st⟩⟩, hr⟩ : ∃ r, l.getD k Chg.zero = r := ⟨_, rfl⟩
      rw [hr] at h0 h1 h2 h3 h4 h5 hl1 hl2
      simp only at h0 h1 h2 h3 h4 h5 hl1 hl2
      have HRr := Lib.hid hr
      clear hr
      cases hone : quOne ⟨c, o, ⟨x, y, z, st⟩⟩ with
      | false =>
        have HF : Hid (quMay ⟨l, true⟩ room = false) := qumay_one hlt (by rw [HRr.out]; exact hone)
        have H1 := Lib.hid hone
        clear hone
        have HO := Lib.hid (rquone_any c st o x y z hl1 hl2 H1)
        go_wp2_with fail
        have g0 := cell_regrown h0
        have g1 := cell_regrown h1
        have g2 := cell_regrown h2
        have g3 := cell_regrown h3
        have g4 := cell_regrown h4
        have g5 := cell_regrown h5
        have p0 := cell_regrown q0
        have p1 := cell_regrown q1
        clear h0 h1 h2 h3 h4 h5 q0 q1
        refine wp_region_quiet_below (by kernel_rfl) (by kernel_rfl) ?_
        repeat (go_big_quiet_step (first | with_reducible exact rgB HO.out _ _ _))
        refine wpQuiet_nil ?_
        intro w5 hw5
        have HN5 := Lib.hid (HN.out.trans ((regrown_belowD hw5).mono HN.out.size))
        clear hw5 g0 g1 g2 g3 g4 g5 p0 p1
        go_wp2_with fail
        go_ret
        exact ⟨by rw [HF.out]; rfl, below2Z HB.out HN5.out⟩
      | true =>
        have H1 := Lib.hid hone
        have HO := Lib.hid (rquone_any c st o x y z hl1 hl2 H1)
        have hhas : quHas l c = true := quHas_iff.2 ⟨l.getD k Chg.zero, by rw [List.getD_eq_getElem?_getD, List.getElem?_eq_getElem hlt]; exact List.getElem_mem hlt, congrArg (·.c) HRr.out⟩
        obtain ⟨m, hm⟩ : ∃ m, quAt l c = m := ⟨_, rfl⟩
        have HP : Hid (∀ w', Below wr.heap.size wr w' → Calls Tryz.prog 64 #[.agg #[.slice (some ⟨b, off, none⟩) l.length cap, .bool true], .string ⟨c.toArray⟩] w' fun e w'' => e = .returned (.int .i64 (m : Nat)) ∧ Below w'.heap.size w' w'') := Lib.hid fun w' hb' => by
          rw [← hm]
          exact rquplace_yes ((HV.out.later HN.out).later hb') _ c hhas
        have hne : ∀ mm : Nat, (((mm : Int) != (k : Int)) = !(decide (mm = k))) := fun mm => by
          rw [Bool.eq_iff_iff]; simp [bne_iff_ne]; omega
        by_cases hmk : m = k
        · have HA2 : Hid (∀ i, i < k + 1 → quOne (l.getD i Chg.zero) = true ∧ quAt l (l.getD i Chg.zero).c = i) := Lib.hid fun i hi => by
            rcases Nat.lt_or_eq_of_le (Nat.le_of_lt_succ hi) with h | h
            · exact HA.out i h
            · subst h; rw [HRr.out]; exact ⟨hone, by rw [hm, hmk]⟩
          have t7 : (((m : Nat) : Int) != (k : Int)) = false := by rw [hne, decide_eq_true hmk]; rfl
          clear hone hm hne hmk
          go_wp2_with fail
          have g0 := cell_regrown h0
          have g1 := cell_regrown h1
          have g2 := cell_regrown h2
          have g3 := cell_regrown h3
          have g4 := cell_regrown h4
          have g5 := cell_regrown h5
          have p0 := cell_regrown q0
          have p1 := cell_regrown q1
          clear h0 h1 h2 h3 h4 h5 q0 q1
          refine wp_region_quiet_below (by kernel_rfl) (by kernel_rfl) ?_
          repeat (go_big_quiet_step (first | with_reducible exact rgB HO.out _ _ _ | with_reducible exact rgM HP.out _ _))
          refine wpQuiet_nil ?_
          intro w5 hw5
          have HN5 := Lib.hid (HN.out.trans ((regrown_belowD hw5).mono HN.out.size))
          clear hw5 g0 g1 g2 g3 g4 g5 p0 p1
          go_wp2_with fail
          go_roundw
          case rel => exact ⟨k + 1, by omega, by go_num, HN5, HA2⟩
          case measure => simp [intOf]; omega
        · have HF : Hid (quMay ⟨l, true⟩ room = false) := qumay_at hlt (by rw [HRr.out]; simp only; rw [hm]; exact hmk)
          have t7 : (((m : Nat) : Int) != (k : Int)) = true := by rw [hne, decide_eq_false hmk]; rfl
          clear hone hm hne hmk
          go_wp2_with fail
          have g0 := cell_regrown h0
          have g1 := cell_regrown h1
          have g2 := cell_regrown h2
          have g3 := cell_regrown h3
          have g4 := cell_regrown h4
          have g5 := cell_regrown h5
          have p0 := cell_regrown q0
          have p1 := cell_regrown q1
          clear h0 h1 h2 h3 h4 h5 q0 q1
          refine wp_region_quiet_below (by kernel_rfl) (by kernel_rfl) ?_
          repeat (go_big_quiet_step (first | with_reducible exact rgB HO.out _ _ _ | with_reducible exact rgM HP.out _ _))
          refine wpQuiet_nil ?_
          intro w5 hw5
          have HN5 := Lib.hid (HN.out.trans ((regrown_belowD hw5).mono HN.out.size))
          clear hw5 g0 g1 g2 g3 g4 g5 p0 p1
          go_wp2_with fail
          go_ret
          exact ⟨by rw [HF.out]; rfl, below2Z HB.out HN5.out⟩
    · obtain rfl : k = l.length := by omega
      have hx := (HN.out.block w.heap.size (by simp)).trans HQ.out
      have q0 := cell_of_row wr w.heap.size 0 _ _ (0, 0) hx
      have q1 := cell_of_row wr w.heap.size 1 _ _ (0, 0) hx
      try simp only at q0 q1
      have HF : Hid (quMay ⟨l, true⟩ room = true) := qumay_ends HR.out (fun _ => HE.out) (fun i hi => (HA.out i hi).1) (fun i hi => (HA.out i hi).2)
      go_wp2_with fail
      go_ret
      exact ⟨by rw [HF.out]; rfl, below2Z HB.out HN.out⟩

theorem rqumay_any {w : World} {v : Value} {l : List Chg} (hv : Chgs w v l) (hs : ShortC l) (hl : l.length ≤ 100) (la : Bool) {room : Int} {r : Bool} (h : Hid (quMay ⟨l, la⟩ room = r)) :
    Calls Tryz.prog 43 #[.agg #[v, .bool la], .int .i64 room] w fun e w' => e = .returned (.bool r) ∧ Below w.heap.size w w' := by
  rw [← h.out]
  by_cases h1 : room < (l.length : Int)
  · rw [qumay_long h1]
    exact rqumay_1 hv la h1
  · cases la with
    | false => exact rqumay_3 hv hs hl h1
    | true =>
      by_cases h0 : 0 < l.length
      · rw [qumay_la h0]
        exact rqumay_2 hv h1 h0
      · exact rqumay_4 hv hs hl h1 (List.length_eq_zero_iff.1 (by omega))

set_option maxHeartbeats 3200000 in
set_option maxRecDepth 100000 in
theorem quempty_any {w : World} {v : Value} {l : List Chg} (hv : Chgs w v l) (la : Bool) {r : Bool} (h : Hid (quEmpty ⟨l, la⟩ = r)) :
    Calls Tryz.prog 44 #[.agg #[v, .bool la]] w fun e w' => e = .returned (.bool r) ∧ Below w.heap.size w w' := by
  obtain ⟨ao, cap, rfl, hmx⟩ := hv.open'
  have h := h.out
  unfold quEmpty at h
  simp only at h
  have HB := Lib.hid (bl_newZ w (.cells #[.slice ao l.length cap, .bool la] 26))
  by_cases h0 : l.length = 0
  · have t1 : ((l.length : Int) == 0) = true := by rw [h0]; rfl
    rw [decide_eq_true h0, Bool.true_and] at h
    subst h
    clear h0 hv
    go_enter Tryz.func44, Tryz.ntmps44
    go_wp2_with fail
    go_ret
    exact ⟨rfl, HB.out⟩
  · have t1 : ((l.length : Int) == 0) = false := by rw [beq_eq_false_iff_ne]; omega
    rw [decide_eq_false h0, Bool.false_and] at h
    subst h
    clear h0 hv
    go_enter Tryz.func44, Tryz.ntmps44
    go_wp2_with fail
    go_ret
    exact ⟨rfl, HB.out⟩

end Go.Proofs.YtndicdomdndjaaaGreat

end

section

/-
  slices.Clone, slices.Insert AND slices.Delete of one element, at elements of 6 cells.
-/
namespace Go.Proofs.YtndicdomdndjaaaGreat
open Go.RowKit

set_option maxHeartbeats 800000 in
set_option maxRecDepth 100000 in
theorem chg_clone {w : World} {v : Value} {t : List Chg} (hv : RdS chgVals 6 Chg.zero w v t) (hl : t.length ≤ 4294967) :
    Calls Tryz.prog 67 #[v] w fun e w' => ∃ u, e = .returned u ∧ OwnS chgVals 6 34 w' w.heap.size u t ∧ Below w.heap.size w w' := by
  have HV := Lib.hid hv
  obtain ⟨a, cap, rfl, h1, h2, h3, h4⟩ := hv
  cases a with
  | none =>
    obtain rfl : cap = 0 := h3 rfl
    obtain rfl : t = [] := List.length_eq_zero_iff.1 (by omega)
    have heq := fun w => eqlS_nil_nil chgOK w 0 0
    clear h4
    go_enter Tryz.func67, Tryz.ntmps67
    go_wp2_with fail
    go_ret
    exact ⟨_, rfl, ownS_nil _ _, Below.refl _ _⟩
  | some x =>
    have HS := Lib.hid ((HV.out.later ((Below.refl _ _).alloc (Nat.le_refl _) (.cells #[] 34))).src chgOK)
    have heq := fun w => eqlS_nil_some chgOK w x t.length cap
    clear h4 h3
    go_enter Tryz.func67, Tryz.ntmps67
    go_wp2_with (at_builtin; go_must (refine wpList_append_S chgOK rfl _ _ rfl w.heap.size _ [] rfl (by exact ownS_made w) (some x) t.length cap t rfl rfl (fun e => nomatch e) ?c1 (by simp only [List.length_nil]; omega) (by simp) ?_))
    case c1 => intro ad had; obtain rfl := Option.some.inj had; exact HS.out
    intro v' w' ho' hb'
    have O := Lib.hid ho'
    have hbB : Hid (Below w.heap.size w w') := ((Below.refl w.heap.size w).alloc (Nat.le_refl _) _).trans hb'
    clear ho' hb'
    go_wp2_with fail
    go_ret
    exact ⟨_, rfl, by have := O.out; simpa using this, hbB.out⟩

end Go.Proofs.YtndicdomdndjaaaGreat

end

section

/-
  BLOCKS KNOWN WHOLE: their cells, new ones, stores into them. Over any program.
-/
namespace Go.Proofs.YtndicdomdndjaaaGreat
open Go.RowKit

theorem upQ {w w' : World} {b : Nat} {o : Obj} (h : w.heap[b]? = some o) (hb : Below w.heap.size w w') : w'.heap[b]? = some o :=
  (hb.block b (Array.getElem?_eq_some_iff.1 h).1).trans h

theorem newQ (w : World) (o : Obj) : (w.alloc o).heap[w.heap.size]? = some o := (MapKept.heap_alloc w o).1

theorem setCell_size (w : World) (p : Addr) (v : Value) : (w.setCell p v).heap.size = w.heap.size := by
  simp [World.setCell]

/-- A block of 1 cells, stored into as one. -/
def stN1 (w : World) (B : Nat) (y0 : Value) : World := w.setCell ⟨B, 0, none⟩ y0

theorem blk2 {w : World} {B : Nat} {x0 x1 : Value} {T : TypeId} (h : w.heap[B]? = some (.cells #[x0, x1] T (0, 0))) : (w.cell? ⟨B, 0, none⟩ = some x0 ∧ w.cell? ⟨B, 1, none⟩ = some x1) ∧ (w.frozen? ⟨B, 0, none⟩ = false ∧ w.frozen? ⟨B, 1, none⟩ = false) :=
  ⟨⟨cell_of_row w B 0 _ _ (0, 0) h, cell_of_row w B 1 _ _ (0, 0) h⟩, ⟨frozen_of_row w B 0 _ _ h, frozen_of_row w B 1 _ _ h⟩⟩

/-- A block of 2 cells, stored into as one. -/
def stN2 (w : World) (B : Nat) (y0 y1 : Value) : World := (w.setCell ⟨B, 0, none⟩ y0).setCell ⟨B, 1, none⟩ y1

/-- A block of 3 cells, stored into as one. -/
def stN3 (w : World) (B : Nat) (y0 y1 y2 : Value) : World := ((w.setCell ⟨B, 0, none⟩ y0).setCell ⟨B, 1, none⟩ y1).setCell ⟨B, 2, none⟩ y2

theorem blk4 {w : World} {B : Nat} {x0 x1 x2 x3 : Value} {T : TypeId} (h : w.heap[B]? = some (.cells #[x0, x1, x2, x3] T (0, 0))) : (w.cell? ⟨B, 0, none⟩ = some x0 ∧ w.cell? ⟨B, 1, none⟩ = some x1 ∧ w.cell? ⟨B, 2, none⟩ = some x2 ∧ w.cell? ⟨B, 3, none⟩ = some x3) ∧ (w.frozen? ⟨B, 0, none⟩ = false ∧ w.frozen? ⟨B, 1, none⟩ = false ∧ w.frozen? ⟨B, 2, none⟩ = false ∧ w.frozen? ⟨B, 3, none⟩ = false) :=
  ⟨⟨cell_of_row w B 0 _ _ (0, 0) h, cell_of_row w B 1 _ _ (0, 0) h, cell_of_row w B 2 _ _ (0, 0) h, cell_of_row w B 3 _ _ (0, 0) h⟩, ⟨frozen_of_row w B 0 _ _ h, frozen_of_row w B 1 _ _ h, frozen_of_row w B 2 _ _ h, frozen_of_row w B 3 _ _ h⟩⟩

/-- A block of 4 cells, stored into as one. -/
def stN4 (w : World) (B : Nat) (y0 y1 y2 y3 : Value) : World := (((w.setCell ⟨B, 0, none⟩ y0).setCell ⟨B, 1, none⟩ y1).setCell ⟨B, 2, none⟩ y2).setCell ⟨B, 3, none⟩ y3

/-- A block of 5 cells, stored into as one. -/
def stN5 (w : World) (B : Nat) (y0 y1 y2 y3 y4 : Value) : World := ((((w.setCell ⟨B, 0, none⟩ y0).setCell ⟨B, 1, none⟩ y1).setCell ⟨B, 2, none⟩ y2).setCell ⟨B, 3, none⟩ y3).setCell ⟨B, 4, none⟩ y4

theorem blk6 {w : World} {B : Nat} {x0 x1 x2 x3 x4 x5 : Value} {T : TypeId} (h : w.heap[B]? = some (.cells #[x0, x1, x2, x3, x4, x5] T (0, 0))) : (w.cell? ⟨B, 0, none⟩ = some x0 ∧ w.cell? ⟨B, 1, none⟩ = some x1 ∧ w.cell? ⟨B, 2, none⟩ = some x2 ∧ w.cell? ⟨B, 3, none⟩ = some x3 ∧ w.cell? ⟨B, 4, none⟩ = some x4 ∧ w.cell? ⟨B, 5, none⟩ = some x5) ∧ (w.frozen? ⟨B, 0, none⟩ = false ∧ w.frozen? ⟨B, 1, none⟩ = false ∧ w.frozen? ⟨B, 2, none⟩ = false ∧ w.frozen? ⟨B, 3, none⟩ = false ∧ w.frozen? ⟨B, 4, none⟩ = false ∧ w.frozen? ⟨B, 5, none⟩ = false) :=
  ⟨⟨cell_of_row w B 0 _ _ (0, 0) h, cell_of_row w B 1 _ _ (0, 0) h, cell_of_row w B 2 _ _ (0, 0) h, cell_of_row w B 3 _ _ (0, 0) h, cell_of_row w B 4 _ _ (0, 0) h, cell_of_row w B 5 _ _ (0, 0) h⟩, ⟨frozen_of_row w B 0 _ _ h, frozen_of_row w B 1 _ _ h, frozen_of_row w B 2 _ _ h, frozen_of_row w B 3 _ _ h, frozen_of_row w B 4 _ _ h, frozen_of_row w B 5 _ _ h⟩⟩

/-- A block of 6 cells, stored into as one. -/
def stN6 (w : World) (B : Nat) (y0 y1 y2 y3 y4 y5 : Value) : World := (((((w.setCell ⟨B, 0, none⟩ y0).setCell ⟨B, 1, none⟩ y1).setCell ⟨B, 2, none⟩ y2).setCell ⟨B, 3, none⟩ y3).setCell ⟨B, 4, none⟩ y4).setCell ⟨B, 5, none⟩ y5

theorem blk7 {w : World} {B : Nat} {x0 x1 x2 x3 x4 x5 x6 : Value} {T : TypeId} (h : w.heap[B]? = some (.cells #[x0, x1, x2, x3, x4, x5, x6] T (0, 0))) : (w.cell? ⟨B, 0, none⟩ = some x0 ∧ w.cell? ⟨B, 1, none⟩ = some x1 ∧ w.cell? ⟨B, 2, none⟩ = some x2 ∧ w.cell? ⟨B, 3, none⟩ = some x3 ∧ w.cell? ⟨B, 4, none⟩ = some x4 ∧ w.cell? ⟨B, 5, none⟩ = some x5 ∧ w.cell? ⟨B, 6, none⟩ = some x6) ∧ (w.frozen? ⟨B, 0, none⟩ = false ∧ w.frozen? ⟨B, 1, none⟩ = false ∧ w.frozen? ⟨B, 2, none⟩ = false ∧ w.frozen? ⟨B, 3, none⟩ = false ∧ w.frozen? ⟨B, 4, none⟩ = false ∧ w.frozen? ⟨B, 5, none⟩ = false ∧ w.frozen? ⟨B, 6, none⟩ = false) :=
  ⟨⟨cell_of_row w B 0 _ _ (0, 0) h, cell_of_row w B 1 _ _ (0, 0) h, cell_of_row w B 2 _ _ (0, 0) h, cell_of_row w B 3 _ _ (0, 0) h, cell_of_row w B 4 _ _ (0, 0) h, cell_of_row w B 5 _ _ (0, 0) h, cell_of_row w B 6 _ _ (0, 0) h⟩, ⟨frozen_of_row w B 0 _ _ h, frozen_of_row w B 1 _ _ h, frozen_of_row w B 2 _ _ h, frozen_of_row w B 3 _ _ h, frozen_of_row w B 4 _ _ h, frozen_of_row w B 5 _ _ h, frozen_of_row w B 6 _ _ h⟩⟩

/-- A block of 7 cells, stored into as one. -/
def stN7 (w : World) (B : Nat) (y0 y1 y2 y3 y4 y5 y6 : Value) : World := ((((((w.setCell ⟨B, 0, none⟩ y0).setCell ⟨B, 1, none⟩ y1).setCell ⟨B, 2, none⟩ y2).setCell ⟨B, 3, none⟩ y3).setCell ⟨B, 4, none⟩ y4).setCell ⟨B, 5, none⟩ y5).setCell ⟨B, 6, none⟩ y6

theorem stN7_heap {w : World} {B : Nat} {x0 x1 x2 x3 x4 x5 x6 : Value} {T : TypeId} (h : w.heap[B]? = some (.cells #[x0, x1, x2, x3, x4, x5, x6] T (0, 0))) (y0 y1 y2 y3 y4 y5 y6 : Value) : (stN7 w B y0 y1 y2 y3 y4 y5 y6).heap[B]? = some (.cells #[y0, y1, y2, y3, y4, y5, y6] T (0, 0)) := by
  have h0 : (w.setCell ⟨B, 0, none⟩ y0).heap[B]? = some (.cells #[y0, x1, x2, x3, x4, x5, x6] T (0, 0)) := heap_setCell_same w B 0 _ _ y0 h
  have h1 : ((w.setCell ⟨B, 0, none⟩ y0).setCell ⟨B, 1, none⟩ y1).heap[B]? = some (.cells #[y0, y1, x2, x3, x4, x5, x6] T (0, 0)) := heap_setCell_same _ B 1 _ _ y1 h0
  have h2 : (((w.setCell ⟨B, 0, none⟩ y0).setCell ⟨B, 1, none⟩ y1).setCell ⟨B, 2, none⟩ y2).heap[B]? = some (.cells #[y0, y1, y2, x3, x4, x5, x6] T (0, 0)) := heap_setCell_same _ B 2 _ _ y2 h1
  have h3 : ((((w.setCell ⟨B, 0, none⟩ y0).setCell ⟨B, 1, none⟩ y1).setCell ⟨B, 2, none⟩ y2).setCell ⟨B, 3, none⟩ y3).heap[B]? = some (.cells #[y0, y1, y2, y3, x4, x5, x6] T (0, 0)) := heap_setCell_same _ B 3 _ _ y3 h2
  have h4 : (((((w.setCell ⟨B, 0, none⟩ y0).setCell ⟨B, 1, none⟩ y1).setCell ⟨B, 2, none⟩ y2).setCell ⟨B, 3, none⟩ y3).setCell ⟨B, 4, none⟩ y4).heap[B]? = some (.cells #[y0, y1, y2, y3, y4, x5, x6] T (0, 0)) := heap_setCell_same _ B 4 _ _ y4 h3
  have h5 : ((((((w.setCell ⟨B, 0, none⟩ y0).setCell ⟨B, 1, none⟩ y1).setCell ⟨B, 2, none⟩ y2).setCell ⟨B, 3, none⟩ y3).setCell ⟨B, 4, none⟩ y4).setCell ⟨B, 5, none⟩ y5).heap[B]? = some (.cells #[y0, y1, y2, y3, y4, y5, x6] T (0, 0)) := heap_setCell_same _ B 5 _ _ y5 h4
  have h6 : (((((((w.setCell ⟨B, 0, none⟩ y0).setCell ⟨B, 1, none⟩ y1).setCell ⟨B, 2, none⟩ y2).setCell ⟨B, 3, none⟩ y3).setCell ⟨B, 4, none⟩ y4).setCell ⟨B, 5, none⟩ y5).setCell ⟨B, 6, none⟩ y6).heap[B]? = some (.cells #[y0, y1, y2, y3, y4, y5, y6] T (0, 0)) := heap_setCell_same _ B 6 _ _ y6 h5
  exact h6

theorem stN7_far (w : World) (B : Nat) (y0 y1 y2 y3 y4 y5 y6 : Value) {k : Nat} (hk : ¬ k = B) : (stN7 w B y0 y1 y2 y3 y4 y5 y6).heap[k]? = w.heap[k]? := by
  unfold stN7
  rw [Below.heap_setCell _ _ _ k hk, Below.heap_setCell _ _ _ k hk, Below.heap_setCell _ _ _ k hk, Below.heap_setCell _ _ _ k hk, Below.heap_setCell _ _ _ k hk, Below.heap_setCell _ _ _ k hk, Below.heap_setCell _ _ _ k hk]

theorem stN7_below {w0 w : World} {n B : Nat} (h : Below n w0 w) (hB : n ≤ B) (y0 y1 y2 y3 y4 y5 y6 : Value) : Below n w0 (stN7 w B y0 y1 y2 y3 y4 y5 y6) := by
  unfold stN7
  exact ((((((h.setCell hB _).setCell hB _).setCell hB _).setCell hB _).setCell hB _).setCell hB _).setCell hB _

theorem stN7_size (w : World) (B : Nat) (y0 y1 y2 y3 y4 y5 y6 : Value) : (stN7 w B y0 y1 y2 y3 y4 y5 y6).heap.size = w.heap.size := by
  unfold stN7
  simp only [setCell_size]

/-- A block of 8 cells, stored into as one. -/
def stN8 (w : World) (B : Nat) (y0 y1 y2 y3 y4 y5 y6 y7 : Value) : World := (((((((w.setCell ⟨B, 0, none⟩ y0).setCell ⟨B, 1, none⟩ y1).setCell ⟨B, 2, none⟩ y2).setCell ⟨B, 3, none⟩ y3).setCell ⟨B, 4, none⟩ y4).setCell ⟨B, 5, none⟩ y5).setCell ⟨B, 6, none⟩ y6).setCell ⟨B, 7, none⟩ y7

theorem blk10 {w : World} {B : Nat} {x0 x1 x2 x3 x4 x5 x6 x7 x8 x9 : Value} {T : TypeId} (h : w.heap[B]? = some (.cells #[x0, x1, x2, x3, x4, x5, x6, x7, x8, x9] T (0, 0))) : (w.cell? ⟨B, 0, none⟩ = some x0 ∧ w.cell? ⟨B, 1, none⟩ = some x1 ∧ w.cell? ⟨B, 2, none⟩ = some x2 ∧ w.cell? ⟨B, 3, none⟩ = some x3 ∧ w.cell? ⟨B, 4, none⟩ = some x4 ∧ w.cell? ⟨B, 5, none⟩ = some x5 ∧ w.cell? ⟨B, 6, none⟩ = some x6 ∧ w.cell? ⟨B, 7, none⟩ = some x7 ∧ w.cell? ⟨B, 8, none⟩ = some x8 ∧ w.cell? ⟨B, 9, none⟩ = some x9) ∧ (w.frozen? ⟨B, 0, none⟩ = false ∧ w.frozen? ⟨B, 1, none⟩ = false ∧ w.frozen? ⟨B, 2, none⟩ = false ∧ w.frozen? ⟨B, 3, none⟩ = false ∧ w.frozen? ⟨B, 4, none⟩ = false ∧ w.frozen? ⟨B, 5, none⟩ = false ∧ w.frozen? ⟨B, 6, none⟩ = false ∧ w.frozen? ⟨B, 7, none⟩ = false ∧ w.frozen? ⟨B, 8, none⟩ = false ∧ w.frozen? ⟨B, 9, none⟩ = false) :=
  ⟨⟨cell_of_row w B 0 _ _ (0, 0) h, cell_of_row w B 1 _ _ (0, 0) h, cell_of_row w B 2 _ _ (0, 0) h, cell_of_row w B 3 _ _ (0, 0) h, cell_of_row w B 4 _ _ (0, 0) h, cell_of_row w B 5 _ _ (0, 0) h, cell_of_row w B 6 _ _ (0, 0) h, cell_of_row w B 7 _ _ (0, 0) h, cell_of_row w B 8 _ _ (0, 0) h, cell_of_row w B 9 _ _ (0, 0) h⟩, ⟨frozen_of_row w B 0 _ _ h, frozen_of_row w B 1 _ _ h, frozen_of_row w B 2 _ _ h, frozen_of_row w B 3 _ _ h, frozen_of_row w B 4 _ _ h, frozen_of_row w B 5 _ _ h, frozen_of_row w B 6 _ _ h, frozen_of_row w B 7 _ _ h, frozen_of_row w B 8 _ _ h, frozen_of_row w B 9 _ _ h⟩⟩

/-- A block of 10 cells, stored into as one. -/
def stN10 (w : World) (B : Nat) (y0 y1 y2 y3 y4 y5 y6 y7 y8 y9 : Value) : World := (((((((((w.setCell ⟨B, 0, none⟩ y0).setCell ⟨B, 1, none⟩ y1).setCell ⟨B, 2, none⟩ y2).setCell ⟨B, 3, none⟩ y3).setCell ⟨B, 4, none⟩ y4).setCell ⟨B, 5, none⟩ y5).setCell ⟨B, 6, none⟩ y6).setCell ⟨B, 7, none⟩ y7).setCell ⟨B, 8, none⟩ y8).setCell ⟨B, 9, none⟩ y9

theorem stN10_heap {w : World} {B : Nat} {x0 x1 x2 x3 x4 x5 x6 x7 x8 x9 : Value} {T : TypeId} (h : w.heap[B]? = some (.cells #[x0, x1, x2, x3, x4, x5, x6, x7, x8, x9] T (0, 0))) (y0 y1 y2 y3 y4 y5 y6 y7 y8 y9 : Value) : (stN10 w B y0 y1 y2 y3 y4 y5 y6 y7 y8 y9).heap[B]? = some (.cells #[y0, y1, y2, y3, y4, y5, y6, y7, y8, y9] T (0, 0)) := by
  have h0 : (w.setCell ⟨B, 0, none⟩ y0).heap[B]? = some (.cells #[y0, x1, x2, x3, x4, x5, x6, x7, x8, x9] T (0, 0)) := heap_setCell_same w B 0 _ _ y0 h
  have h1 : ((w.setCell ⟨B, 0, none⟩ y0).setCell ⟨B, 1, none⟩ y1).heap[B]? = some (.cells #[y0, y1, x2, x3, x4, x5, x6, x7, x8, x9] T (0, 0)) := heap_setCell_same _ B 1 _ _ y1 h0
  have h2 : (((w.setCell ⟨B, 0, none⟩ y0).setCell ⟨B, 1, none⟩ y1).setCell ⟨B, 2, none⟩ y2).heap[B]? = some (.cells #[y0, y1, y2, x3, x4, x5, x6, x7, x8, x9] T (0, 0)) := heap_setCell_same _ B 2 _ _ y2 h1
  have h3 : ((((w.setCell ⟨B, 0, none⟩ y0).setCell ⟨B, 1, none⟩ y1).setCell ⟨B, 2, none⟩ y2).setCell ⟨B, 3, none⟩ y3).heap[B]? = some (.cells #[y0, y1, y2, y3, x4, x5, x6, x7, x8, x9] T (0, 0)) := heap_setCell_same _ B 3 _ _ y3 h2
  have h4 : (((((w.setCell ⟨B, 0, none⟩ y0).setCell ⟨B, 1, none⟩ y1).setCell ⟨B, 2, none⟩ y2).setCell ⟨B, 3, none⟩ y3).setCell ⟨B, 4, none⟩ y4).heap[B]? = some (.cells #[y0, y1, y2, y3, y4, x5, x6, x7, x8, x9] T (0, 0)) := heap_setCell_same _ B 4 _ _ y4 h3
  have h5 : ((((((w.setCell ⟨B, 0, none⟩ y0).setCell ⟨B, 1, none⟩ y1).setCell ⟨B, 2, none⟩ y2).setCell ⟨B, 3, none⟩ y3).setCell ⟨B, 4, none⟩ y4).setCell ⟨B, 5, none⟩ y5).heap[B]? = some (.cells #[y0, y1, y2, y3, y4, y5, x6, x7, x8, x9] T (0, 0)) := heap_setCell_same _ B 5 _ _ y5 h4
  have h6 : (((((((w.setCell ⟨B, 0, none⟩ y0).setCell ⟨B, 1, none⟩ y1).setCell ⟨B, 2, none⟩ y2).setCell ⟨B, 3, none⟩ y3).setCell ⟨B, 4, none⟩ y4).setCell ⟨B, 5, none⟩ y5).setCell ⟨B, 6, none⟩ y6).heap[B]? = some (.cells #[y0, y1, y2, y3, y4, y5, y6, x7, x8, x9] T (0, 0)) := heap_setCell_same _ B 6 _ _ y6 h5
  have h7 : ((((((((w.setCell ⟨B, 0, none⟩ y0).setCell ⟨B, 1, none⟩ y1).setCell ⟨B, 2, none⟩ y2).setCell ⟨B, 3, none⟩ y3).setCell ⟨B, 4, none⟩ y4).setCell ⟨B, 5, none⟩ y5).setCell ⟨B, 6, none⟩ y6).setCell ⟨B, 7, none⟩ y7).heap[B]? = some (.cells #[y0, y1, y2, y3, y4, y5, y6, y7, x8, x9] T (0, 0)) := heap_setCell_same _ B 7 _ _ y7 h6
  have h8 : (((((((((w.setCell ⟨B, 0, none⟩ y0).setCell ⟨B, 1, none⟩ y1).setCell ⟨B, 2, none⟩ y2).setCell ⟨B, 3, none⟩ y3).setCell ⟨B, 4, none⟩ y4).setCell ⟨B, 5, none⟩ y5).setCell ⟨B, 6, none⟩ y6).setCell ⟨B, 7, none⟩ y7).setCell ⟨B, 8, none⟩ y8).heap[B]? = some (.cells #[y0, y1, y2, y3, y4, y5, y6, y7, y8, x9] T (0, 0)) := heap_setCell_same _ B 8 _ _ y8 h7
  have h9 : ((((((((((w.setCell ⟨B, 0, none⟩ y0).setCell ⟨B, 1, none⟩ y1).setCell ⟨B, 2, none⟩ y2).setCell ⟨B, 3, none⟩ y3).setCell ⟨B, 4, none⟩ y4).setCell ⟨B, 5, none⟩ y5).setCell ⟨B, 6, none⟩ y6).setCell ⟨B, 7, none⟩ y7).setCell ⟨B, 8, none⟩ y8).setCell ⟨B, 9, none⟩ y9).heap[B]? = some (.cells #[y0, y1, y2, y3, y4, y5, y6, y7, y8, y9] T (0, 0)) := heap_setCell_same _ B 9 _ _ y9 h8
  exact h9

theorem stN10_far (w : World) (B : Nat) (y0 y1 y2 y3 y4 y5 y6 y7 y8 y9 : Value) {k : Nat} (hk : ¬ k = B) : (stN10 w B y0 y1 y2 y3 y4 y5 y6 y7 y8 y9).heap[k]? = w.heap[k]? := by
  unfold stN10
  rw [Below.heap_setCell _ _ _ k hk, Below.heap_setCell _ _ _ k hk, Below.heap_setCell _ _ _ k hk, Below.heap_setCell _ _ _ k hk, Below.heap_setCell _ _ _ k hk, Below.heap_setCell _ _ _ k hk, Below.heap_setCell _ _ _ k hk, Below.heap_setCell _ _ _ k hk, Below.heap_setCell _ _ _ k hk, Below.heap_setCell _ _ _ k hk]

theorem stN10_below {w0 w : World} {n B : Nat} (h : Below n w0 w) (hB : n ≤ B) (y0 y1 y2 y3 y4 y5 y6 y7 y8 y9 : Value) : Below n w0 (stN10 w B y0 y1 y2 y3 y4 y5 y6 y7 y8 y9) := by
  unfold stN10
  exact (((((((((h.setCell hB _).setCell hB _).setCell hB _).setCell hB _).setCell hB _).setCell hB _).setCell hB _).setCell hB _).setCell hB _).setCell hB _

/-- A block of 13 cells, stored into as one. -/
def stN13 (w : World) (B : Nat) (y0 y1 y2 y3 y4 y5 y6 y7 y8 y9 y10 y11 y12 : Value) : World := ((((((((((((w.setCell ⟨B, 0, none⟩ y0).setCell ⟨B, 1, none⟩ y1).setCell ⟨B, 2, none⟩ y2).setCell ⟨B, 3, none⟩ y3).setCell ⟨B, 4, none⟩ y4).setCell ⟨B, 5, none⟩ y5).setCell ⟨B, 6, none⟩ y6).setCell ⟨B, 7, none⟩ y7).setCell ⟨B, 8, none⟩ y8).setCell ⟨B, 9, none⟩ y9).setCell ⟨B, 10, none⟩ y10).setCell ⟨B, 11, none⟩ y11).setCell ⟨B, 12, none⟩ y12

end Go.Proofs.YtndicdomdndjaaaGreat

end

section

/-
  LAYER 17: the change of a contact; what is pushed, and popped.
-/
namespace Go.Proofs.YtndicdomdndjaaaGreat
open Go.RowKit

theorem twoQ {w : World} {b : Nat} {x0 x1 : Value} {T : TypeId} (h : w.heap[b]? = some (.cells #[x0, x1] T (0, 0))) : (w.cell? ⟨b, 0, none⟩ = some x0 ∧ w.cell? ⟨b, 1, none⟩ = some x1) ∧ w.frozen? ⟨b, 0, none⟩ = false ∧ w.frozen? ⟨b, 1, none⟩ = false :=
  ⟨⟨cell_of_row w b 0 _ _ (0, 0) h, cell_of_row w b 1 _ _ (0, 0) h⟩, frozen_of_row w b 0 _ _ h, frozen_of_row w b 1 _ _ h⟩

theorem sixQ {w : World} {b : Nat} {x0 x1 x2 x3 x4 x5 : Value} {T : TypeId} (h : w.heap[b]? = some (.cells #[x0, x1, x2, x3, x4, x5] T (0, 0))) : (w.cell? ⟨b, 0, none⟩ = some x0 ∧ w.cell? ⟨b, 1, none⟩ = some x1 ∧ w.cell? ⟨b, 2, none⟩ = some x2 ∧ w.cell? ⟨b, 3, none⟩ = some x3 ∧ w.cell? ⟨b, 4, none⟩ = some x4 ∧ w.cell? ⟨b, 5, none⟩ = some x5) ∧
    (w.frozen? ⟨b, 0, none⟩ = false ∧ w.frozen? ⟨b, 1, none⟩ = false ∧ w.frozen? ⟨b, 2, none⟩ = false ∧ w.frozen? ⟨b, 3, none⟩ = false ∧ w.frozen? ⟨b, 4, none⟩ = false ∧ w.frozen? ⟨b, 5, none⟩ = false) :=
  ⟨⟨cell_of_row w b 0 _ _ (0, 0) h, cell_of_row w b 1 _ _ (0, 0) h, cell_of_row w b 2 _ _ (0, 0) h, cell_of_row w b 3 _ _ (0, 0) h, cell_of_row w b 4 _ _ (0, 0) h, cell_of_row w b 5 _ _ (0, 0) h⟩,
    ⟨frozen_of_row w b 0 _ _ h, frozen_of_row w b 1 _ _ h, frozen_of_row w b 2 _ _ h, frozen_of_row w b 3 _ _ h, frozen_of_row w b 4 _ _ h, frozen_of_row w b 5 _ _ h⟩⟩

end Go.Proofs.YtndicdomdndjaaaGreat

end

section

/-
  LAYER 18: blocks of a few cells.
-/

end

section

/-
  LAYER 17: what is pushed, the code's and the document's.
-/
namespace Go.Proofs.YtndicdomdndjaaaGreat
open Go.RowKit

/-- A change stored, cell by cell. -/
theorem chg_store {w : World} {base g n cap : Nat} {l : List Chg} (h : OwnQ w base (.slice (some ⟨g, 0, none⟩) n cap) l) {i : Nat} (hi : i < l.length) (c st : List UInt8) (on : Bool) (a b d : Int) :
    OwnQ ((((((w.setCell ⟨g, i * 6, none⟩ (.string ⟨c.toArray⟩)).setCell ⟨g, i * 6 + 1, none⟩ (.bool on)).setCell ⟨g, i * 6 + 2, none⟩ (.int .i64 a)).setCell ⟨g, i * 6 + 3, none⟩ (.int .i64 b)).setCell ⟨g, i * 6 + 4, none⟩ (.int .i64 d)).setCell ⟨g, i * 6 + 5, none⟩ (.string ⟨st.toArray⟩)) base (.slice (some ⟨g, 0, none⟩) n cap) (l.set i ⟨c, on, ⟨a, b, d, st⟩⟩) :=
  ownS_set chgOK h hi ⟨c, on, ⟨a, b, d, st⟩⟩

theorem store6Q {w0 w : World} {base g : Nat} (h : Below base w0 w) (hg : base ≤ g) (a0 a1 a2 a3 a4 a5 : Nat) (v0 v1 v2 v3 v4 v5 : Value) :
    Below base w0 ((((((w.setCell ⟨g, a0, none⟩ v0).setCell ⟨g, a1, none⟩ v1).setCell ⟨g, a2, none⟩ v2).setCell ⟨g, a3, none⟩ v3).setCell ⟨g, a4, none⟩ v4).setCell ⟨g, a5, none⟩ v5) :=
  (((((h.setCell hg _).setCell hg _).setCell hg _).setCell hg _).setCell hg _).setCell hg _

/-- A store into another block leaves a row of the call's own. -/
theorem ownQ_other {w : World} {base : Nat} {v : Value} {l : List Chg} (h : OwnQ w base v l) {b : Nat} (hb : b < base) (j : Nat) (u : Value) : OwnQ (w.setCell ⟨b, j, none⟩ u) base v l := by
  obtain ⟨h1, h2⟩ := h
  refine ⟨h1, ?_⟩
  rcases h2 with h2 | ⟨g, cap, cur, e, hge, hgb, r⟩
  · exact .inl h2
  · exact .inr ⟨g, cap, cur, e, hge, (Below.heap_setCell _ _ _ g (by show ¬ g = b; omega)).trans hgb, r⟩

theorem own_head {w : World} {base : Nat} {v : Value} {l : List Chg} (h : OwnQ w base v l) (hl : 0 < l.length) : ∃ g cg, v = .slice (some ⟨g, 0, none⟩) l.length cg ∧ base ≤ g := by
  rcases h.2 with ⟨rfl, h0⟩ | ⟨g, cg, cur, rfl, hb, _⟩
  · omega
  · exact ⟨g, cg, rfl, hb⟩

theorem ownQ_shape {w : World} {base : Nat} {v : Value} {l : List Chg} (h : OwnQ w base v l) : ∃ a c, v = .slice a l.length c := by
  rcases h.2 with ⟨rfl, h0⟩ | ⟨g, cg, cur, rfl, _⟩
  · exact ⟨none, 0, by rw [h0]⟩
  · exact ⟨_, cg, rfl⟩

/-- Two stores into a block of two cells. -/
theorem set2Q {w : World} {b : Nat} {x0 x1 y0 y1 : Value} {T : TypeId} (h : w.heap[b]? = some (.cells #[x0, x1] T (0, 0))) : ((w.setCell ⟨b, 0, none⟩ y0).setCell ⟨b, 1, none⟩ y1).cell? ⟨b, 0, none⟩ = some y0 ∧ ((w.setCell ⟨b, 0, none⟩ y0).setCell ⟨b, 1, none⟩ y1).cell? ⟨b, 1, none⟩ = some y1 := by
  have h1 := heap_setCell_same w b 0 _ _ y0 h
  have h2 := heap_setCell_same _ b 1 _ _ y1 h1
  exact ⟨cell_of_row _ b 0 _ _ (0, 0) h2, cell_of_row _ b 1 _ _ (0, 0) h2⟩

set_option maxHeartbeats 3200000 in
set_option maxRecDepth 100000 in
theorem qupush_1 {w : World} {v : Value} {l : List Chg} (hv : Chgs w v l) (c st : List UInt8) (on : Bool) (a b d : Int) (room : Int) :
    Calls Tryz.prog 46 #[.agg #[v, .bool true], .agg #[.string ⟨c.toArray⟩, .bool on, .int .i64 a, .int .i64 b, .int .i64 d, .string ⟨st.toArray⟩], .int .i64 room] w fun e w' => e = .returned (.agg #[v, .bool true]) ∧ Below w.heap.size w w' := by
  obtain ⟨ao, cap, rfl, hmx⟩ := hv.open'
  have b0 := bl_newZ w (.cells #[.slice ao l.length cap, .bool true] 26)
  have b1 := bl_newZ (w.alloc (.cells #[.slice ao l.length cap, .bool true] 26)) (.cells #[.string ⟨c.toArray⟩, .bool on, .int .i64 a, .int .i64 b, .int .i64 d, .string ⟨st.toArray⟩] 34)
  have b2 := bl_newZ ((w.alloc (.cells #[.slice ao l.length cap, .bool true] 26)).alloc (.cells #[.string ⟨c.toArray⟩, .bool on, .int .i64 a, .int .i64 b, .int .i64 d, .string ⟨st.toArray⟩] 34)) (.cells #[.slice none 0 0, .bool false] 26)
  have HB := Lib.hid (below2Z (below2Z b0 b1) b2)
  have V := Lib.hid (((hv.later b0).later b1).later b2)
  have A := Lib.hid (upQ (upQ (newQ w (.cells #[.slice ao l.length cap, .bool true] 26)) b1) b2)
  have C := newQ (w.alloc (.cells #[.slice ao l.length cap, .bool true] 26)) (.cells #[.string ⟨c.toArray⟩, .bool on, .int .i64 a, .int .i64 b, .int .i64 d, .string ⟨st.toArray⟩] 34)
  rw [World.size_alloc] at C
  replace C := Lib.hid (upQ C b2)
  have R := newQ ((w.alloc (.cells #[.slice ao l.length cap, .bool true] 26)).alloc (.cells #[.string ⟨c.toArray⟩, .bool on, .int .i64 a, .int .i64 b, .int .i64 d, .string ⟨st.toArray⟩] 34)) (.cells #[.slice none 0 0, .bool false] 26)
  rw [World.size_alloc, World.size_alloc] at R
  replace R := Lib.hid R
  clear b0 b1 b2 hv
  obtain ⟨⟨q0, q1⟩, f0, f1⟩ := twoQ A.out
  obtain ⟨⟨c_0, c_1, c_2, c_3, c_4, c_5⟩, ⟨d_0, d_1, d_2, d_3, d_4, d_5⟩⟩ := sixQ C.out
  obtain ⟨⟨r0, r1⟩, g0, g1⟩ := twoQ R.out
  go_enter Tryz.func46, Tryz.ntmps46
  go_wp2_with fail
  refine bodyPost_ret (v := .agg #[.slice ao l.length cap, .bool true]) (by simp [results, Tryz.results46, go_sem]) rfl ⟨rfl, ?_⟩
  exact (((Below.refl _ _).alloc (Nat.le_refl _) _).alloc (by simp) _).alloc (by simp; omega) _

set_option maxHeartbeats 3200000 in
set_option maxRecDepth 100000 in
theorem qupush_2 {w : World} {v : Value} {l : List Chg} (hv : Chgs w v l) (_hl : l.length ≤ 1000) (c st : List UInt8) (on : Bool) (a b d : Int) (room : Int) (hh : quHas l c = false) (hr : room ≤ (l.length : Int)) :
    Calls Tryz.prog 46 #[.agg #[v, .bool false], .agg #[.string ⟨c.toArray⟩, .bool on, .int .i64 a, .int .i64 b, .int .i64 d, .string ⟨st.toArray⟩], .int .i64 room] w fun e w' => e = .returned (.agg #[.slice none 0 0, .bool true]) ∧ Below w.heap.size w w' := by
  obtain ⟨ao, cap, rfl, hmx⟩ := hv.open'
  have b0 := bl_newZ w (.cells #[.slice ao l.length cap, .bool false] 26)
  have b1 := bl_newZ (w.alloc (.cells #[.slice ao l.length cap, .bool false] 26)) (.cells #[.string ⟨c.toArray⟩, .bool on, .int .i64 a, .int .i64 b, .int .i64 d, .string ⟨st.toArray⟩] 34)
  have b2 := bl_newZ ((w.alloc (.cells #[.slice ao l.length cap, .bool false] 26)).alloc (.cells #[.string ⟨c.toArray⟩, .bool on, .int .i64 a, .int .i64 b, .int .i64 d, .string ⟨st.toArray⟩] 34)) (.cells #[.slice none 0 0, .bool false] 26)
  have HB := Lib.hid (below2Z (below2Z b0 b1) b2)
  have V := Lib.hid (((hv.later b0).later b1).later b2)
  have A := Lib.hid (upQ (upQ (newQ w (.cells #[.slice ao l.length cap, .bool false] 26)) b1) b2)
  have C := newQ (w.alloc (.cells #[.slice ao l.length cap, .bool false] 26)) (.cells #[.string ⟨c.toArray⟩, .bool on, .int .i64 a, .int .i64 b, .int .i64 d, .string ⟨st.toArray⟩] 34)
  rw [World.size_alloc] at C
  replace C := Lib.hid (upQ C b2)
  have R := newQ ((w.alloc (.cells #[.slice ao l.length cap, .bool false] 26)).alloc (.cells #[.string ⟨c.toArray⟩, .bool on, .int .i64 a, .int .i64 b, .int .i64 d, .string ⟨st.toArray⟩] 34)) (.cells #[.slice none 0 0, .bool false] 26)
  rw [World.size_alloc, World.size_alloc] at R
  replace R := Lib.hid R
  clear b0 b1 b2 hv
  have HH := Lib.hid hh
  have t1 : decide (room ≤ (l.length : Int)) = true := decide_eq_true hr
  have t2 : decide ((l.length : Int) < room) = false := decide_eq_false (by omega)
  clear hh hr
  obtain ⟨⟨q0, q1⟩, f0, f1⟩ := twoQ A.out
  obtain ⟨⟨c_0, c_1, c_2, c_3, c_4, c_5⟩, ⟨d_0, d_1, d_2, d_3, d_4, d_5⟩⟩ := sixQ C.out
  obtain ⟨⟨r0, r1⟩, g0, g1⟩ := twoQ R.out
  go_enter Tryz.func46, Tryz.ntmps46
  go_wp2_with fail
  clear q0 q1 f0 f1 c_0 c_1 c_2 c_3 c_4 c_5 d_0 d_1 d_2 d_3 d_4 d_5 r0 r1 g0 g1
  refine (quplace_no V.out c HH.out).mono ?_
  rintro e w1 ⟨rfl, b1⟩
  replace V := Lib.hid (V.out.later b1)
  replace A := Lib.hid (upQ A.out b1)
  replace C := Lib.hid (upQ C.out b1)
  replace R := Lib.hid (upQ R.out b1)
  replace HB := Lib.hid (below2Z HB.out b1)
  clear b1
  obtain ⟨⟨q0, q1⟩, f0, f1⟩ := twoQ A.out
  obtain ⟨⟨c_0, c_1, c_2, c_3, c_4, c_5⟩, ⟨d_0, d_1, d_2, d_3, d_4, d_5⟩⟩ := sixQ C.out
  obtain ⟨⟨r0, r1⟩, g0, g1⟩ := twoQ R.out
  go_wp2_with fail
  obtain ⟨z0, z1⟩ := set2Q (y0 := .slice none 0 0) (y1 := .bool true) R.out
  refine bodyPost_ret (v := .agg #[.slice none 0 0, .bool true]) (by simp [results, Tryz.results46, go_sem, z0, z1]) rfl ⟨rfl, ?_⟩
  have hle : w.heap.size ≤ w.heap.size + 1 + 1 := by omega
  exact (HB.out.setCell hle _).setCell hle _

set_option maxHeartbeats 3200000 in
set_option maxRecDepth 100000 in
theorem qupush_3 {w : World} {v : Value} {l : List Chg} (hv : Chgs w v l) (hl : l.length ≤ 1000) (c st : List UInt8) (on : Bool) (a b d : Int) (room : Int) (hh : quHas l c = true) :
    Calls Tryz.prog 46 #[.agg #[v, .bool false], .agg #[.string ⟨c.toArray⟩, .bool on, .int .i64 a, .int .i64 b, .int .i64 d, .string ⟨st.toArray⟩], .int .i64 room] w fun e w' => ∃ u, e = .returned (.agg #[u, .bool false]) ∧ OwnQ w' w.heap.size u (l.set (quAt l c) ⟨c, on, ⟨a, b, d, st⟩⟩) ∧ Below w.heap.size w w' := by
  obtain ⟨ao, cap, rfl, hmx⟩ := hv.open'
  have b0 := bl_newZ w (.cells #[.slice ao l.length cap, .bool false] 26)
  have b1 := bl_newZ (w.alloc (.cells #[.slice ao l.length cap, .bool false] 26)) (.cells #[.string ⟨c.toArray⟩, .bool on, .int .i64 a, .int .i64 b, .int .i64 d, .string ⟨st.toArray⟩] 34)
  have b2 := bl_newZ ((w.alloc (.cells #[.slice ao l.length cap, .bool false] 26)).alloc (.cells #[.string ⟨c.toArray⟩, .bool on, .int .i64 a, .int .i64 b, .int .i64 d, .string ⟨st.toArray⟩] 34)) (.cells #[.slice none 0 0, .bool false] 26)
  have HB := Lib.hid (below2Z (below2Z b0 b1) b2)
  have V := Lib.hid (((hv.later b0).later b1).later b2)
  have A := Lib.hid (upQ (upQ (newQ w (.cells #[.slice ao l.length cap, .bool false] 26)) b1) b2)
  have C := newQ (w.alloc (.cells #[.slice ao l.length cap, .bool false] 26)) (.cells #[.string ⟨c.toArray⟩, .bool on, .int .i64 a, .int .i64 b, .int .i64 d, .string ⟨st.toArray⟩] 34)
  rw [World.size_alloc] at C
  replace C := Lib.hid (upQ C b2)
  have R := newQ ((w.alloc (.cells #[.slice ao l.length cap, .bool false] 26)).alloc (.cells #[.string ⟨c.toArray⟩, .bool on, .int .i64 a, .int .i64 b, .int .i64 d, .string ⟨st.toArray⟩] 34)) (.cells #[.slice none 0 0, .bool false] 26)
  rw [World.size_alloc, World.size_alloc] at R
  replace R := Lib.hid R
  clear b0 b1 b2 hv
  have HH := Lib.hid hh
  obtain ⟨hlt, _⟩ := quAt_is hh
  obtain ⟨m, hm⟩ : ∃ m, quAt l c = m := ⟨_, rfl⟩
  rw [hm] at hlt ⊢
  have HM := Lib.hid hm
  clear hh hm
  obtain ⟨⟨q0, q1⟩, f0, f1⟩ := twoQ A.out
  obtain ⟨⟨c_0, c_1, c_2, c_3, c_4, c_5⟩, ⟨d_0, d_1, d_2, d_3, d_4, d_5⟩⟩ := sixQ C.out
  obtain ⟨⟨r0, r1⟩, g0, g1⟩ := twoQ R.out
  go_enter Tryz.func46, Tryz.ntmps46
  go_wp2_with fail
  clear q0 q1 f0 f1 c_0 c_1 c_2 c_3 c_4 c_5 d_0 d_1 d_2 d_3 d_4 d_5 r0 r1 g0 g1
  refine (quplace_yes V.out c HH.out).mono ?_
  rintro e w1 ⟨rfl, b1⟩
  replace V := Lib.hid (V.out.later b1)
  replace A := Lib.hid (upQ A.out b1)
  replace C := Lib.hid (upQ C.out b1)
  replace R := Lib.hid (upQ R.out b1)
  replace HB := Lib.hid (below2Z HB.out b1)
  clear b1
  try rw [HM.out]
  obtain ⟨⟨q0, q1⟩, f0, f1⟩ := twoQ A.out
  obtain ⟨⟨c_0, c_1, c_2, c_3, c_4, c_5⟩, ⟨d_0, d_1, d_2, d_3, d_4, d_5⟩⟩ := sixQ C.out
  obtain ⟨⟨r0, r1⟩, g0, g1⟩ := twoQ R.out
  go_wp2_with fail
  clear q0 q1 f0 f1 c_0 c_1 c_2 c_3 c_4 c_5 d_0 d_1 d_2 d_3 d_4 d_5 r0 r1 g0 g1
  have hA := (Array.getElem?_eq_some_iff.1 A.out).1
  have hR := (Array.getElem?_eq_some_iff.1 R.out).1
  refine (chg_clone V.out.rdS (by omega)).mono ?_
  rintro e w2 ⟨u, rfl, ho, b2⟩
  replace A := Lib.hid (upQ A.out b2)
  replace C := Lib.hid (upQ C.out b2)
  replace R := Lib.hid (upQ R.out b2)
  replace HB := Lib.hid (below2Z HB.out b2)
  have hz2 := b2.size
  clear b2
  obtain ⟨g, cg, rfl, hg⟩ := own_head ho (by omega)
  have O := Lib.hid ho
  clear ho
  obtain ⟨⟨q0, q1⟩, f0, f1⟩ := twoQ A.out
  obtain ⟨⟨c_0, c_1, c_2, c_3, c_4, c_5⟩, ⟨d_0, d_1, d_2, d_3, d_4, d_5⟩⟩ := sixQ C.out
  obtain ⟨⟨r0, r1⟩, g0, g1⟩ := twoQ R.out
  go_upto_region 8 with fail
  have A2 := heap_setCell_same w2 w.heap.size 0 _ _ (.slice (some ⟨g, 0, none⟩) l.length cg) A.out
  replace C := Lib.hid ((Below.heap_setCell w2 ⟨w.heap.size, 0, none⟩ (.slice (some ⟨g, 0, none⟩) l.length cg) (w.heap.size + 1) (by show ¬ w.heap.size + 1 = w.heap.size; omega)).trans C.out)
  replace R := Lib.hid ((Below.heap_setCell w2 ⟨w.heap.size, 0, none⟩ (.slice (some ⟨g, 0, none⟩) l.length cg) (w.heap.size + 1 + 1) (by show ¬ w.heap.size + 1 + 1 = w.heap.size; omega)).trans R.out)
  replace O := Lib.hid (ownQ_other O.out hA 0 (.slice (some ⟨g, 0, none⟩) l.length cg))
  replace HB := Lib.hid (HB.out.setCell (p := ⟨w.heap.size, 0, none⟩) (Nat.le_refl _) (.slice (some ⟨g, 0, none⟩) l.length cg))
  have hz3 : w1.heap.size ≤ (w2.setCell ⟨w.heap.size, 0, none⟩ (.slice (some ⟨g, 0, none⟩) l.length cg)).heap.size := by simpa using hz2
  replace A := Lib.hid (show _ = some (Obj.cells #[.slice (some ⟨g, 0, none⟩) l.length cg, .bool false] 26 (0, 0)) from A2)
  clear A2 q0 q1 f0 f1 c_0 c_1 c_2 c_3 c_4 c_5 d_0 d_1 d_2 d_3 d_4 d_5 r0 r1 g0 g1
  generalize w2.setCell ⟨w.heap.size, 0, none⟩ (.slice (some ⟨g, 0, none⟩) l.length cg) = W2 at A C R O HB hz3 ⊢
  have O3 := Lib.hid (chg_store O.out hlt c st on a b d)
  have B3 := Lib.hid (store6Q HB.out (by omega : w.heap.size ≤ g) (m * 6) (m * 6 + 1) (m * 6 + 2) (m * 6 + 3) (m * 6 + 4) (m * 6 + 5) (.string ⟨c.toArray⟩) (.bool on) (.int .i64 a) (.int .i64 b) (.int .i64 d) (.string ⟨st.toArray⟩))
  have oth : ∀ k, ¬ k = g → ((((((W2.setCell ⟨g, m * 6, none⟩ (.string ⟨c.toArray⟩)).setCell ⟨g, m * 6 + 1, none⟩ (.bool on)).setCell ⟨g, m * 6 + 2, none⟩ (.int .i64 a)).setCell ⟨g, m * 6 + 3, none⟩ (.int .i64 b)).setCell ⟨g, m * 6 + 4, none⟩ (.int .i64 d)).setCell ⟨g, m * 6 + 5, none⟩ (.string ⟨st.toArray⟩)).heap[k]? = W2.heap[k]? := fun k hk => by rw [Below.heap_setCell _ _ _ k hk, Below.heap_setCell _ _ _ k hk, Below.heap_setCell _ _ _ k hk, Below.heap_setCell _ _ _ k hk, Below.heap_setCell _ _ _ k hk, Below.heap_setCell _ _ _ k hk]
  have A3 := Lib.hid ((oth w.heap.size (by omega)).trans A.out)
  have R3 := Lib.hid ((oth (w.heap.size + 1 + 1) (by omega)).trans R.out)
  clear oth
  have y0f := O.out.frozenAt (m * 6)
  have y1f := O.out.frozenAt (m * 6 + 1)
  have y2f := O.out.frozenAt (m * 6 + 2)
  have y3f := O.out.frozenAt (m * 6 + 3)
  have y4f := O.out.frozenAt (m * 6 + 4)
  have y5f := O.out.frozenAt (m * 6 + 5)
  obtain ⟨y0, y1, y2, y3, y4, y5⟩ := cells6_of (O.out.row chgOK hlt)
  obtain ⟨⟨q0, q1⟩, f0, f1⟩ := twoQ A.out
  obtain ⟨⟨c_0, c_1, c_2, c_3, c_4, c_5⟩, ⟨d_0, d_1, d_2, d_3, d_4, d_5⟩⟩ := sixQ C.out
  have hnn : (0 : Int) ≤ (m : Int) := by omega
  have hli : (m : Int) < (l.length : Int) := by omega
  go_upto_region 10 with fail
  clear q0 q1 f0 f1 c_0 c_1 c_2 c_3 c_4 c_5 d_0 d_1 d_2 d_3 d_4 d_5 y0 y1 y2 y3 y4 y5 y0f y1f y2f y3f y4f y5f hnn hli A C R HB O
  generalize ((((((W2.setCell ⟨g, m * 6, none⟩ (.string ⟨c.toArray⟩)).setCell ⟨g, m * 6 + 1, none⟩ (.bool on)).setCell ⟨g, m * 6 + 2, none⟩ (.int .i64 a)).setCell ⟨g, m * 6 + 3, none⟩ (.int .i64 b)).setCell ⟨g, m * 6 + 4, none⟩ (.int .i64 d)).setCell ⟨g, m * 6 + 5, none⟩ (.string ⟨st.toArray⟩)) = W3 at A3 R3 O3 B3 ⊢
  obtain ⟨⟨q0, q1⟩, f0, f1⟩ := twoQ A3.out
  obtain ⟨⟨r0, r1⟩, g0, g1⟩ := twoQ R3.out
  go_wp2_with fail
  obtain ⟨z0, z1⟩ := set2Q (y0 := .slice (some ⟨g, 0, none⟩) l.length cg) (y1 := .bool false) R3.out
  have hle : w.heap.size ≤ w.heap.size + 1 + 1 := by omega
  exact bodyPost_ret (v := .agg #[.slice (some ⟨g, 0, none⟩) l.length cg, .bool false]) (by simp [results, Tryz.results46, go_sem, z0, z1]) rfl ⟨_, rfl, ownS_low (ownQ_other (ownQ_other O3.out hR _ _) hR _ _) (Nat.le_of_lt hA), (B3.out.setCell hle _).setCell hle _⟩

set_option maxHeartbeats 3200000 in
set_option maxRecDepth 100000 in
theorem qupush_4 {w : World} {v : Value} {l : List Chg} (hv : Chgs w v l) (hl : l.length ≤ 1000) (c st : List UInt8) (on : Bool) (a b d : Int) (room : Int) (hh : quHas l c = false) (hr : (l.length : Int) < room) :
    Calls Tryz.prog 46 #[.agg #[v, .bool false], .agg #[.string ⟨c.toArray⟩, .bool on, .int .i64 a, .int .i64 b, .int .i64 d, .string ⟨st.toArray⟩], .int .i64 room] w fun e w' => ∃ u, e = .returned (.agg #[u, .bool false]) ∧ OwnQ w' w.heap.size u (l ++ [⟨c, on, ⟨a, b, d, st⟩⟩]) ∧ Below w.heap.size w w' := by
  obtain ⟨ao, cap, rfl, hmx⟩ := hv.open'
  have b0 := bl_newZ w (.cells #[.slice ao l.length cap, .bool false] 26)
  have b1 := bl_newZ (w.alloc (.cells #[.slice ao l.length cap, .bool false] 26)) (.cells #[.string ⟨c.toArray⟩, .bool on, .int .i64 a, .int .i64 b, .int .i64 d, .string ⟨st.toArray⟩] 34)
  have b2 := bl_newZ ((w.alloc (.cells #[.slice ao l.length cap, .bool false] 26)).alloc (.cells #[.string ⟨c.toArray⟩, .bool on, .int .i64 a, .int .i64 b, .int .i64 d, .string ⟨st.toArray⟩] 34)) (.cells #[.slice none 0 0, .bool false] 26)
  have HB := Lib.hid (below2Z (below2Z b0 b1) b2)
  have V := Lib.hid (((hv.later b0).later b1).later b2)
  have A := Lib.hid (upQ (upQ (newQ w (.cells #[.slice ao l.length cap, .bool false] 26)) b1) b2)
  have C := newQ (w.alloc (.cells #[.slice ao l.length cap, .bool false] 26)) (.cells #[.string ⟨c.toArray⟩, .bool on, .int .i64 a, .int .i64 b, .int .i64 d, .string ⟨st.toArray⟩] 34)
  rw [World.size_alloc] at C
  replace C := Lib.hid (upQ C b2)
  have R := newQ ((w.alloc (.cells #[.slice ao l.length cap, .bool false] 26)).alloc (.cells #[.string ⟨c.toArray⟩, .bool on, .int .i64 a, .int .i64 b, .int .i64 d, .string ⟨st.toArray⟩] 34)) (.cells #[.slice none 0 0, .bool false] 26)
  rw [World.size_alloc, World.size_alloc] at R
  replace R := Lib.hid R
  clear b0 b1 b2 hv
  have HH := Lib.hid hh
  have t1 : decide (room ≤ (l.length : Int)) = false := decide_eq_false (by omega)
  have t2 : decide ((l.length : Int) < room) = true := decide_eq_true hr
  clear hh hr
  obtain ⟨⟨q0, q1⟩, f0, f1⟩ := twoQ A.out
  obtain ⟨⟨c_0, c_1, c_2, c_3, c_4, c_5⟩, ⟨d_0, d_1, d_2, d_3, d_4, d_5⟩⟩ := sixQ C.out
  obtain ⟨⟨r0, r1⟩, g0, g1⟩ := twoQ R.out
  go_enter Tryz.func46, Tryz.ntmps46
  go_wp2_with fail
  clear q0 q1 f0 f1 c_0 c_1 c_2 c_3 c_4 c_5 d_0 d_1 d_2 d_3 d_4 d_5 r0 r1 g0 g1
  refine (quplace_no V.out c HH.out).mono ?_
  rintro e w1 ⟨rfl, b1⟩
  replace V := Lib.hid (V.out.later b1)
  replace A := Lib.hid (upQ A.out b1)
  replace C := Lib.hid (upQ C.out b1)
  replace R := Lib.hid (upQ R.out b1)
  replace HB := Lib.hid (below2Z HB.out b1)
  clear b1
  obtain ⟨⟨q0, q1⟩, f0, f1⟩ := twoQ A.out
  obtain ⟨⟨c_0, c_1, c_2, c_3, c_4, c_5⟩, ⟨d_0, d_1, d_2, d_3, d_4, d_5⟩⟩ := sixQ C.out
  obtain ⟨⟨r0, r1⟩, g0, g1⟩ := twoQ R.out
  go_wp2_with fail
  clear q0 q1 f0 f1 c_0 c_1 c_2 c_3 c_4 c_5 d_0 d_1 d_2 d_3 d_4 d_5 r0 r1 g0 g1
  have hA := (Array.getElem?_eq_some_iff.1 A.out).1
  have hR := (Array.getElem?_eq_some_iff.1 R.out).1
  refine (chg_clone V.out.rdS (by omega)).mono ?_
  rintro e w2 ⟨u, rfl, ho, b2⟩
  replace A := Lib.hid (upQ A.out b2)
  replace C := Lib.hid (upQ C.out b2)
  replace R := Lib.hid (upQ R.out b2)
  replace HB := Lib.hid (below2Z HB.out b2)
  have hz2 := b2.size
  clear b2
  obtain ⟨ga, cg, rfl⟩ := ownQ_shape ho
  have O := Lib.hid ho
  clear ho
  obtain ⟨⟨q0, q1⟩, f0, f1⟩ := twoQ A.out
  obtain ⟨⟨c_0, c_1, c_2, c_3, c_4, c_5⟩, ⟨d_0, d_1, d_2, d_3, d_4, d_5⟩⟩ := sixQ C.out
  obtain ⟨⟨r0, r1⟩, g0, g1⟩ := twoQ R.out
  go_upto_region 9 with fail
  have A2 := heap_setCell_same w2 w.heap.size 0 _ _ (.slice ga l.length cg) A.out
  replace C := Lib.hid ((Below.heap_setCell w2 ⟨w.heap.size, 0, none⟩ (.slice ga l.length cg) (w.heap.size + 1) (by show ¬ w.heap.size + 1 = w.heap.size; omega)).trans C.out)
  replace R := Lib.hid ((Below.heap_setCell w2 ⟨w.heap.size, 0, none⟩ (.slice ga l.length cg) (w.heap.size + 1 + 1) (by show ¬ w.heap.size + 1 + 1 = w.heap.size; omega)).trans R.out)
  replace O := Lib.hid (ownQ_other O.out hA 0 (.slice ga l.length cg))
  replace HB := Lib.hid (HB.out.setCell (p := ⟨w.heap.size, 0, none⟩) (Nat.le_refl _) (.slice ga l.length cg))
  have hz3 : w1.heap.size ≤ (w2.setCell ⟨w.heap.size, 0, none⟩ (.slice ga l.length cg)).heap.size := by simpa using hz2
  replace A := Lib.hid (show _ = some (Obj.cells #[.slice ga l.length cg, .bool false] 26 (0, 0)) from A2)
  clear A2 q0 q1 f0 f1 c_0 c_1 c_2 c_3 c_4 c_5 d_0 d_1 d_2 d_3 d_4 d_5 r0 r1 g0 g1
  generalize w2.setCell ⟨w.heap.size, 0, none⟩ (.slice ga l.length cg) = W2 at A C R O HB hz3 ⊢
  have O2 := Lib.hid (OwnS.alloc O.out (.cells #[.string ⟨c.toArray⟩, .bool on, .int .i64 a, .int .i64 b, .int .i64 d, .string ⟨st.toArray⟩] 34))
  have HB2 := Lib.hid (below2Z HB.out (bl_newZ W2 (.cells #[.string ⟨c.toArray⟩, .bool on, .int .i64 a, .int .i64 b, .int .i64 d, .string ⟨st.toArray⟩] 34)))
  have C4 := Lib.hid (srcS_new (vals := chgVals) (w := W2) (r := ⟨c, on, ⟨a, b, d, st⟩⟩) (cs := #[.string ⟨c.toArray⟩, .bool on, .int .i64 a, .int .i64 b, .int .i64 d, .string ⟨st.toArray⟩]) (e := 34) rfl (B := W2.heap.size) rfl)
  have hz2 := HB2.out.size
  have A4 := Lib.hid (upQ A.out (bl_newZ W2 (.cells #[.string ⟨c.toArray⟩, .bool on, .int .i64 a, .int .i64 b, .int .i64 d, .string ⟨st.toArray⟩] 34)))
  have R4 := Lib.hid (upQ R.out (bl_newZ W2 (.cells #[.string ⟨c.toArray⟩, .bool on, .int .i64 a, .int .i64 b, .int .i64 d, .string ⟨st.toArray⟩] 34)))
  obtain ⟨⟨q0, q1⟩, f0, f1⟩ := twoQ A.out
  obtain ⟨⟨c_0, c_1, c_2, c_3, c_4, c_5⟩, ⟨d_0, d_1, d_2, d_3, d_4, d_5⟩⟩ := sixQ C.out
  go_wp2_with (at_builtin; refine wpList_append_S chgOK rfl _ _ rfl w1.heap.size _ l rfl O2.out (some ⟨W2.heap.size, 0, none⟩) 1 1 [⟨c, on, ⟨a, b, d, st⟩⟩] rfl rfl (fun e => by cases e) C4.out (by simp only [List.length_cons, List.length_nil]; omega) (by rw [World.size_alloc]; omega) ?_)
  intro v' w3 ho' hb'
  have A5 := Lib.hid ((hb'.block _ hA).trans A4.out)
  have R5 := Lib.hid ((hb'.block _ hR).trans R4.out)
  have HB5 := Lib.hid (HB2.out.trans (hb'.mono (Nat.le_of_lt hA)))
  obtain ⟨gv, cv, rfl⟩ : ∃ a c, v' = .slice a (l.length + 1) c := by obtain ⟨a', c', e⟩ := ownQ_shape ho'; exact ⟨a', c', by rw [e, List.length_append]; rfl⟩
  have O5 := Lib.hid ho'
  clear ho' hb' O2 HB2 C4 A4 R4 A C R O HB q0 q1 f0 f1 c_0 c_1 c_2 c_3 c_4 c_5 d_0 d_1 d_2 d_3 d_4 d_5
  obtain ⟨⟨q0, q1⟩, f0, f1⟩ := twoQ A5.out
  go_upto_region 10 with fail
  have A6 := Lib.hid (show _ = some (Obj.cells #[.slice gv (l.length + 1) cv, .bool false] 26 (0, 0)) from heap_setCell_same w3 w.heap.size 0 _ _ (.slice gv (l.length + 1) cv) A5.out)
  have R6 := Lib.hid ((Below.heap_setCell w3 ⟨w.heap.size, 0, none⟩ (.slice gv (l.length + 1) cv) (w.heap.size + 1 + 1) (by show ¬ w.heap.size + 1 + 1 = w.heap.size; omega)).trans R5.out)
  have O6 := Lib.hid (ownQ_other O5.out hA 0 (.slice gv (l.length + 1) cv))
  have HB6 := Lib.hid (HB5.out.setCell (p := ⟨w.heap.size, 0, none⟩) (Nat.le_refl _) (.slice gv (l.length + 1) cv))
  clear A5 R5 O5 HB5 q0 q1 f0 f1
  generalize (w3.setCell ⟨w.heap.size, 0, none⟩ (.slice gv (l.length + 1) cv)) = W6 at A6 R6 O6 HB6 ⊢
  obtain ⟨⟨q0, q1⟩, f0, f1⟩ := twoQ A6.out
  obtain ⟨⟨r0, r1⟩, g0, g1⟩ := twoQ R6.out
  go_wp2_with fail
  obtain ⟨z0, z1⟩ := set2Q (y0 := .slice gv (l.length + 1) cv) (y1 := .bool false) R6.out
  have hle : w.heap.size ≤ w.heap.size + 1 + 1 := by omega
  exact bodyPost_ret (v := .agg #[.slice gv (l.length + 1) cv, .bool false]) (by simp [results, Tryz.results46, go_sem, z0, z1]) rfl ⟨_, rfl, ownS_low (ownQ_other (ownQ_other O6.out hR _ _) hR _ _) (Nat.le_of_lt hA), (HB6.out.setCell hle _).setCell hle _⟩

end Go.Proofs.YtndicdomdndjaaaGreat

end

section

/-
  THE CONTRACTS OF THE DOCUMENT'S Set AND SameChanges.
-/
namespace Go.Proofs.YtndicdomdndjaaaGreat
open Go.RowKit

end Go.Proofs.YtndicdomdndjaaaGreat

end

section

/-
  THE CONTRACT OF THE DOCUMENT'S SameChanges.
-/
namespace Go.Proofs.YtndicdomdndjaaaGreat
open Go.RowKit

def csSame (a b : List Chg) : Bool := decide (a.length = b.length) && (List.range a.length).all fun i => cSame (a.getD i Chg.zero) (b.getD i Chg.zero)

theorem csSame_self (a : List Chg) : csSame a a = true := by
  unfold csSame
  simp only [decide_true, Bool.true_and, List.all_eq_true]
  intro i _
  exact cSame_self _

theorem csSame_len {a b : List Chg} (h : ¬ a.length = b.length) : csSame a b = false := by
  unfold csSame
  simp [h]

theorem csSame_off {a b : List Chg} {k : Nat} (hk : k < a.length) (h : cSame (a.getD k Chg.zero) (b.getD k Chg.zero) = false) : csSame a b = false := by
  rw [Bool.eq_false_iff]
  intro h'
  unfold csSame at h'
  rw [Bool.and_eq_true, List.all_eq_true] at h'
  rw [h'.2 k (by simpa using hk)] at h
  cases h

theorem csSame_on {a b : List Chg} (hl : a.length = b.length) (h : (List.range a.length).all (fun i => cSame (a.getD i Chg.zero) (b.getD i Chg.zero)) = true) : csSame a b = true := by
  unfold csSame
  rw [h]
  simp [hl]

theorem csSame_next {t u : List Chg} {k : Nat} (h : (List.range k).all (fun i => cSame (t.getD i Chg.zero) (u.getD i Chg.zero)) = true) (hk : cSame (t.getD k Chg.zero) (u.getD k Chg.zero) = true) :
    (List.range (k + 1)).all (fun i => cSame (t.getD i Chg.zero) (u.getD i Chg.zero)) = true := range_all_succ h hk

set_option maxHeartbeats 800000 in
set_option maxRecDepth 100000 in
theorem csame_any {w : World} {v u : Value} {t s : List Chg} (hv : Chgs w v t) (hu : Chgs w u s) :
    Calls Tryz.prog 60 #[v, u] w fun e w' => e = .returned (.bool (csSame t s)) ∧ Below w.heap.size w w' := by
  have HV := Lib.hid hv
  have HU := Lib.hid hu
  obtain ⟨a, cap, rfl, hm⟩ := hv.open'
  obtain ⟨a2, cap2, rfl, hm2⟩ := hu.open'
  clear hv hu
  by_cases hl : t.length = s.length
  · have HL := Lib.hid hl
    have t1 : ((t.length : Int) != (s.length : Int)) = false := by simp [hl]
    clear hl
    go_enter Tryz.func60, Tryz.ntmps60
    go_wp2_with fail
    go_loopw [5] (fun i wr => ∃ k : Nat, k ≤ t.length ∧ i = .int .i64 k ∧ Hid (Below w.heap.size w wr) ∧ Hid ((List.range k).all (fun i => cSame (t.getD i Chg.zero) (s.getD i Chg.zero)) = true)) (fun i _ => t.length - (intOf i).toNat)
    case atStart => exact ⟨0, by omega, rfl, Below.refl _ _, by show _ = _; simp⟩
    case round =>
      obtain ⟨k, hk, rfl, HN, HA⟩ := hrel
      by_cases hlt : k < t.length
      · obtain ⟨b, off, rfl, h0, h1, h2, h3, h4, h5⟩ := HV.out.row HN.out k hlt
        obtain ⟨b2, off2, rfl, i0, i1, i2, i3, i4, i5⟩ := HU.out.row HN.out k (by rw [← HL.out]; exact hlt)
        have hlt2 : k < s.length := by rw [← HL.out]; exact hlt
        obtain ⟨⟨c, o, ⟨x, y, z, st⟩⟩, hr⟩ : ∃ r, t.getD k Chg.zero = r := ⟨_, rfl⟩
        obtain ⟨⟨c', o', ⟨x', y', z', st'⟩⟩, hr'⟩ : ∃ r, s.getD k Chg.zero = r := ⟨_, rfl⟩
        rw [hr] at h0 h1 h2 h3 h4 h5
        rw [hr'] at i0 i1 i2 i3 i4 i5
        have hgd : Tryz.prog.eqGuardType Tryz.prog.depth 34 = false := by kernel_rfl
        have hne := chg_neq6 c c' o o' x y z x' y' z' st st'
        cases hs : cSame ⟨c, o, x, y, z, st⟩ ⟨c', o', x', y', z', st'⟩ with
        | false =>
          have HR : Hid (csSame t s = false) := by show _ = _; exact csSame_off hlt (by rw [hr, hr']; exact hs)
          rw [hs] at hne
          simp only at h0 h1 h2 h3 h4 h5 i0 i1 i2 i3 i4 i5
          clear hr hr' hs
          go_wp2_with fail
          go_region
          go_wp2_with fail
          go_ret
          exact ⟨by rw [HR.out]; rfl, HN.out.drew⟩
        | true =>
          have HA2 : Hid ((List.range (k + 1)).all (fun i => cSame (t.getD i Chg.zero) (s.getD i Chg.zero)) = true) := by show _ = _; exact csSame_next HA.out (by rw [hr, hr']; exact hs)
          rw [hs] at hne
          simp only at h0 h1 h2 h3 h4 h5 i0 i1 i2 i3 i4 i5
          clear hr hr' hs
          go_wp2_with fail
          go_region
          go_wp2_with fail
          go_roundw
          case rel => exact ⟨k + 1, by omega, by go_num, HN.out.drew, HA2⟩
          case measure => simp [intOf]; omega
      · obtain rfl : k = t.length := by omega
        have HR : Hid (csSame t s = true) := by show _ = _; exact csSame_on HL.out HA.out
        go_wp2_with fail
        go_ret
        exact ⟨by rw [HR.out]; rfl, HN.out⟩
  · have HR := Lib.hid (csSame_len hl)
    have t1 : ((t.length : Int) != (s.length : Int)) = true := by simp; omega
    clear hl
    go_enter Tryz.func60, Tryz.ntmps60
    go_wp2_with fail
    go_ret
    exact ⟨by rw [HR.out]; rfl, Below.refl _ _⟩

end Go.Proofs.YtndicdomdndjaaaGreat

end
