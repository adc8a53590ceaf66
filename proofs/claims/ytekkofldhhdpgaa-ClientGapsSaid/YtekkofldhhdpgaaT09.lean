/-
  TEXTS OF THE PROOF, one behind the other: FraPure, FraFrame, CliFrame, QuePure, PacPure, LinkPure, Seq, Aid, SeqS, LnkFrm, OpenS, CliFrms, FnMap, CliMap, FraRead, FraSize, FraP, CliPure, DigMap, DigChgs.
-/
import Derived.Test.YtekkofldhhdpgaaT02
import Derived.Test.YtekkofldhhdpgaaT08
import Derived.Test.YtekkofldhhdpgaaT01
import Derived.Laws.IdiomCopy
import Derived.Laws.AppendOwnNone
import Derived.Lib.AppendZerosOnto
import Derived.Lib.Overlaps
import Derived.Deep.RegionLaw
import Derived.Laws.Externs
import Derived.Lib.SliceRun
import Derived.Test.YtekkofldhhdpgaaT07
import Derived.ProofKit
import Derived.OpenShut
import Derived.Lib.SmallJoins
import Derived.Deep.Slices
import Derived.Deep.Fields
import Derived.ChangeSame
import Derived.Test.YtekkofldhhdpgaaRows
import Derived.Maps.OwnSet
import Derived.Lib.Hide

section

/-
  LAYER 6, PLAIN: frames, their bytes, and what is taken of bytes.
-/
namespace Go.Proofs.Ytekkofldhhdpgaa

structure Frm where
  k : Int
  s : Int
  on : Bool
  c : List UInt8
  v : Val
  sum : Nat
  t : List Row

def Frm.zero : Frm := ⟨0, 0, false, [], Val.zero, 0, []⟩

/-- What P6.1 asks, all but Kind and Seq. -/
def frRest (f : Frm) : Bool :=
  if f.k = 1 then decide (f.sum = 0) && (decide (f.t.length = 0) && (idIs f.c && (if f.on = true then vaMay f.v else vSame f.v Val.zero)))
  else if f.k = 2 then (!f.on && (f.c == [] && vSame f.v Val.zero)) && decide (f.t.length = 0)
  else if f.k = 3 then (!f.on && (f.c == [] && vSame f.v Val.zero)) && (decide (f.sum = 0) && diMay f.t)
  else (!f.on && (f.c == [] && vSame f.v Val.zero)) && (decide (f.sum = 0) && decide (f.t.length = 0))

def frMay (f : Frm) : Bool := (decide (1 ≤ f.k) && decide (f.k ≤ 4)) && ((decide (0 ≤ f.s) && decide (f.s ≤ 1099511627776)) && frRest f)

/-- Eight bytes, the highest one first. -/
def be8 (n : Nat) : List UInt8 := [u8of (n / 72057594037927936 % 256), u8of (n / 281474976710656 % 256), u8of (n / 1099511627776 % 256), u8of (n / 4294967296 % 256), u8of (n / 16777216 % 256), u8of (n / 65536 % 256), u8of (n / 256 % 256), u8of (n % 256)]

def frBody (f : Frm) : List UInt8 :=
  if f.k = 1 then (if f.on = true then 1 :: ((idPut f.c).1 ++ vaBytes f.v) else 0 :: (idPut f.c).1)
  else if f.k = 2 then be8 f.sum
  else if f.k = 3 then (diPut f.t).1
  else []

/-- A frame's bytes, without a seal. -/
def frPlain (f : Frm) : List UInt8 := u8of f.k.toNat :: (vput f.s.toNat ++ frBody f)

def frEnc (f : Frm) : List UInt8 × Nat := if frMay f = true then (cseal (frPlain f), 0) else ([], 1)

/-- A number out of bytes, the highest one first. -/
def sum8 (l : List UInt8) : Nat := l.foldl (fun a b => a * 256 + b.toNat) 0

def frTakeBody (k : Nat) (s : Nat) (b : List UInt8) : Option Frm :=
  if k = 1 then
    (if b.length = 0 then none
     else if (idTake b 1).2.2 ≠ 0 then none
     else if b.getD 0 0 = 0 then some ⟨1, s, false, (idTake b 1).1, Val.zero, 0, []⟩
     else if (vaTake b (idTake b 1).2.1).2.2 ≠ 0 then none
     else some ⟨1, s, true, (idTake b 1).1, (vaTake b (idTake b 1).2.1).1, 0, []⟩)
  else if k = 2 then (if b.length < 8 then none else some ⟨2, s, false, [], Val.zero, sum8 (b.take 8), []⟩)
  else if k = 3 then (if (diTake b 0).2.2 ≠ 0 then none else some ⟨3, s, false, [], Val.zero, 0, (diTake b 0).1⟩)
  else some ⟨k, s, false, [], Val.zero, 0, []⟩

/-- What is taken of bytes: a frame, or something near it. -/
def frTake (l : List UInt8) : Option Frm :=
  match l with
  | [] => none
  | x :: r => if x.toNat < 1 ∨ 4 < x.toNat then none else if (vget (x :: r) 1).2.2 ≠ 0 then none else frTakeBody x.toNat (vget (x :: r) 1).1 ((x :: r).drop (vget (x :: r) 1).2.1)

theorem sum8_be8 (n : Nat) (h : n < 18446744073709551616) : sum8 (be8 n) = n := by
  unfold sum8 be8
  simp only [List.foldl_cons, List.foldl_nil]
  rw [u8of_toNat (by omega), u8of_toNat (by omega), u8of_toNat (by omega), u8of_toNat (by omega), u8of_toNat (by omega), u8of_toNat (by omega), u8of_toNat (by omega), u8of_toNat (by omega)]
  omega

structure FrOk (f : Frm) : Prop where
  k1 : 1 ≤ f.k
  k4 : f.k ≤ 4
  s0 : 0 ≤ f.s
  s1 : f.s ≤ 1099511627776
  rest : frRest f = true

theorem frMay_iff {f : Frm} : frMay f = true ↔ FrOk f := by
  unfold frMay
  simp only [Bool.and_eq_true, decide_eq_true_eq]
  exact ⟨fun ⟨⟨a, b⟩, ⟨c, d⟩, e⟩ => ⟨a, b, c, d, e⟩, fun ⟨a, b, c, d, e⟩ => ⟨⟨a, b⟩, ⟨c, d⟩, e⟩⟩

theorem frTakeBody_body {f : Frm} (h : FrOk f) (hs : f.sum < 18446744073709551616) : frTakeBody f.k.toNat f.s.toNat (frBody f) = some f := by
  obtain ⟨k, s, on, c, v, sum, t⟩ := f
  obtain ⟨h1, h2, h3, h4, h5⟩ := h
  simp only at h1 h2 h3 h4 hs
  obtain ⟨s, rfl⟩ := Int.eq_ofNat_of_zero_le h3
  have hk : k = 1 ∨ k = 2 ∨ k = 3 ∨ k = 4 := by omega
  unfold frRest at h5
  simp only at h5
  rcases hk with rfl | rfl | rfl | rfl
  · simp only [if_true, Bool.and_eq_true, decide_eq_true_eq, List.length_eq_zero_iff] at h5
    obtain ⟨rfl, rfl, hc, hv⟩ := h5
    have hp : (idPut c).1 = vput c.length ++ c := by unfold idPut; rw [if_pos hc]
    cases on with
    | false =>
      simp only [Bool.false_eq_true, if_false] at hv
      obtain rfl := vSame_iff.1 hv
      have e := idTake_at hc [0] []
      simp only [List.append_nil, List.length_singleton, List.cons_append, List.nil_append] at e
      have e' : idTake (0 :: (vput c.length ++ c)) 1 = (c, 1 + (vput c.length ++ c).length, 0) := e
      unfold frTakeBody frBody
      simp [hp, e']
    | true =>
      simp only [if_true] at hv
      have e := idTake_at hc [1] (vaBytes v)
      simp only [List.length_singleton, List.cons_append, List.nil_append] at e
      have e' : idTake (1 :: ((vput c.length ++ c) ++ vaBytes v)) 1 = (c, 1 + (vput c.length ++ c).length, 0) := e
      have g := vaTake_put hv (1 :: (vput c.length ++ c)) []
      rw [List.append_nil, List.cons_append] at g
      have g' : vaTake (1 :: ((vput c.length ++ c) ++ vaBytes v)) ((1 + (vput c.length ++ c).length : Nat) : Int) = (v, (1 :: (vput c.length ++ c)).length + (vaBytes v).length, 0) := by
        rw [← g]
        congr 1
        simp only [List.length_cons]
        omega
      unfold frTakeBody frBody
      simp only [if_true, hp, e', g']
      simp
  · simp only [show ¬ (2 : Int) = 1 by omega, if_false, if_true, Bool.and_eq_true, decide_eq_true_eq, List.length_eq_zero_iff, Bool.not_eq_true', beq_iff_eq] at h5
    obtain ⟨⟨rfl, rfl, hv⟩, rfl⟩ := h5
    obtain rfl := vSame_iff.1 hv
    unfold frTakeBody frBody
    simp [be8]
    exact sum8_be8 sum hs
  · simp only [show ¬ (3 : Int) = 1 by omega, show ¬ (3 : Int) = 2 by omega, if_false, if_true, Bool.and_eq_true, decide_eq_true_eq, Bool.not_eq_true', beq_iff_eq] at h5
    obtain ⟨⟨rfl, rfl, hv⟩, rfl, ht⟩ := h5
    obtain rfl := vSame_iff.1 hv
    have e := diTake_put ht [] []
    simp only [List.nil_append, List.append_nil, List.length_nil] at e
    have e' : diTake (diBytes t) 0 = (t, 0 + (diBytes t).length, 0) := e
    have hp : (diPut t).1 = diBytes t := by unfold diPut; rw [if_pos ht]
    unfold frTakeBody frBody
    simp [hp, e']
  · simp only [show ¬ (4 : Int) = 1 by omega, show ¬ (4 : Int) = 2 by omega, show ¬ (4 : Int) = 3 by omega, if_false, Bool.and_eq_true, decide_eq_true_eq, List.length_eq_zero_iff, Bool.not_eq_true', beq_iff_eq] at h5
    obtain ⟨⟨rfl, rfl, hv⟩, rfl, rfl⟩ := h5
    obtain rfl := vSame_iff.1 hv
    unfold frTakeBody frBody
    simp

/-- What may be is taken of its bytes. -/
theorem frTake_plain {f : Frm} (h : frMay f = true) (hs : f.sum < 18446744073709551616) : frTake (frPlain f) = some f := by
  have ho := frMay_iff.1 h
  have hk1 := ho.k1
  have hk4 := ho.k4
  have hs1 := ho.s1
  have hb := frTakeBody_body ho hs
  have hx : (u8of f.k.toNat).toNat = f.k.toNat := u8of_toNat (by omega)
  have hg := vget_vput f.s.toNat (by omega) [u8of f.k.toNat] (frBody f)
  simp only [List.length_singleton, List.cons_append, List.nil_append] at hg
  have hg' : vget (u8of f.k.toNat :: (vput f.s.toNat ++ frBody f)) 1 = (f.s.toNat, 1 + (vput f.s.toNat).length, 0) := hg
  unfold frPlain frTake
  simp only [hg', hx]
  rw [if_neg (by omega), if_neg (by simp)]
  have hd : (u8of f.k.toNat :: (vput f.s.toNat ++ frBody f)).drop (1 + (vput f.s.toNat).length) = frBody f := by
    rw [Nat.add_comm, List.drop_succ_cons, List.drop_left' rfl]
  rw [hd, hb]

theorem frPlain_inj {f g : Frm} (hf : frMay f = true) (hg : frMay g = true) (hs : f.sum < 18446744073709551616) (ht : g.sum < 18446744073709551616) (h : frPlain f = frPlain g) : f = g := by
  have a := frTake_plain hf hs
  rw [h, frTake_plain hg ht] at a
  exact (Option.some.inj a).symm

end Go.Proofs.Ytekkofldhhdpgaa

end

section

/-
  FOR THE FRAMES OF LAYER 6's PROOFS: frames that came in, opened.
-/
namespace Go.Proofs.Ytekkofldhhdpgaa
open Go.ChangeShapes Go.WideShapes Go.ChangeAt Go.RowKit Go.Deep

section
variable {H : Type} {enc : TypeId × Value → H} {w : World} {base : Nat} {spare : Nat → Bool} {held : Bool}

theorem trod_tabF {fuel : Nat} {cs : List Value} {z : DataW H × List MemPlace} (hf : DataW.trod enc Try.prog w base spare held fuel 25 cs = some z) :
    ∃ v, cs = [v] ∧ ∃ t : List Row, Tab w v t := by
  rcases open_slice Try.underlying25 hf with ⟨hcs, _⟩ | ⟨x, len, cap, m, n, D', Pl, hcs, _, hl, hm, hmm, _, hi⟩
  · exact ⟨_, hcs, [], tab_nil w⟩
  · refine ⟨_, hcs, ?_⟩
    have hlm : len ≤ m := by rw [hmm]; split <;> omega
    rw [show Try.prog.cellsOf 57 = 5 from by kernel_rfl] at hi
    obtain ⟨t, htl, ht⟩ := choose_rows (n := len) (Q := fun i r => ∀ j u, (rowVals r)[j]? = some u → w.cell? ((x.add (i * 5)).add j) = some u) (fun i hil => by
      obtain ⟨cs', hc, htr⟩ := hi i (by omega)
      obtain ⟨_, hcl, hat⟩ := World.cells?_some hc
      obtain ⟨r, rfl, _, _⟩ := trod_row htr
      refine ⟨r, fun j u hu => ?_⟩
      have hj : j < 5 := by have := (List.getElem?_eq_some_iff.1 hu).1; rwa [rowVals_len] at this
      rw [hat j hj, hu])
    refine ⟨t, ⟨some x, cap, by rw [htl], by omega, by omega, (fun e => by cases e), ?_⟩⟩
    by_cases h0 : len = 0
    · exact .inl (List.length_eq_zero_iff.1 (by omega))
    · obtain ⟨b, off, spot⟩ := x
      have hc := ht 0 (by omega) 0 _ rfl
      have hspot : spot = none := by simpa [Addr.add] using World.cell?_spot hc
      subst hspot
      refine .inr ⟨b, off, rfl, ?_, fun i hil => cells5_of fun j u hu => ?_⟩
      · have := World.block_lt_of_cell? w _ hc
        simpa [Addr.add] using this
      · have := ht i (by omega) j u hu
        rwa [Addr.add_lit, Addr.add_lit] at this

theorem list10F {α : Type} {l : List α} (h : l.length = 10) : ∃ c0 c1 c2 c3 c4 c5 c6 c7 c8 c9, l = [c0, c1, c2, c3, c4, c5, c6, c7, c8, c9] := by
  match l, h with
  | [c0, c1, c2, c3, c4, c5, c6, c7, c8, c9], _ => exact ⟨c0, c1, c2, c3, c4, c5, c6, c7, c8, c9, rfl⟩

theorem trod_u64F {fuel : Nat} {cs : List Value} {x : DataW H × List MemPlace} (h : DataW.trod enc Try.prog w base spare held fuel 32 cs = some x) : ∃ z : Nat, cs = [.int .u64 z] ∧ z < 18446744073709551616 := by
  obtain ⟨z, e, _, hw⟩ := DataW.trod_int Try.underlying32 h
  have hw2 : 0 ≤ z ∧ z < 18446744073709551616 := by
    simp [Lit.wf, IntKind.min, IntKind.max, IntKind.signed, IntKind.bits] at hw
    omega
  obtain ⟨n, rfl⟩ := Int.eq_ofNat_of_zero_le hw2.1
  exact ⟨n, e, by omega⟩

set_option maxRecDepth 100000 in
theorem trod_frame {fuel : Nat} {cs : List Value} {x : DataW H × List MemPlace} (h : DataW.trod enc Try.prog w base spare held fuel 34 cs = some x) :
    ∃ (f : Frm) (v : Value), cs = [.int .i64 f.k, .int .i64 f.s, .bool f.on, .string ⟨f.c.toArray⟩, .int .i64 f.v.sh, .int .i64 f.v.pr, .int .i64 f.v.si, .string ⟨f.v.st.toArray⟩, .int .u64 f.sum, v] ∧ f.c.length ≤ maxLen ∧ f.v.st.length ≤ maxLen ∧ f.sum < 18446744073709551616 ∧ Tab w v f.t := by
  obtain ⟨xs, n, _, _, hl, hx, hf⟩ := DataW.trod_struct Try.underlying34 h
  have cc : Try.prog.cellsOf 34 = 10 := by kernel_rfl
  have ci : Try.prog.cellsOf 3 = 1 := by kernel_rfl
  have cb : Try.prog.cellsOf 4 = 1 := by kernel_rfl
  have cx : Try.prog.cellsOf 9 = 1 := by kernel_rfl
  have cv : Try.prog.cellsOf 31 = 4 := by kernel_rfl
  have cu : Try.prog.cellsOf 32 = 1 := by kernel_rfl
  have cr : Try.prog.cellsOf 25 = 1 := by kernel_rfl
  rw [cc] at hl
  obtain ⟨c0, c1, c2, c3, c4, c5, c6, c7, c8, c9, rfl⟩ := list10F hl
  have get : ∀ i, i < 7 → xs[i]? = some (xs.getD i (.nil, [])) := fun i hi => by
    have : i < xs.length := by rw [hx]; exact hi
    simp [List.getD, List.getElem?_eq_getElem this]
  have f0 : DataW.trod enc Try.prog w base spare held n 3 (([c0, c1, c2, c3, c4, c5, c6, c7, c8, c9].drop 0).take (Try.prog.cellsOf 3)) = some (xs.getD 0 (.nil, [])) := (hf 0 _ rfl).trans (get 0 (by omega))
  rw [ci] at f0
  have f1 : DataW.trod enc Try.prog w base spare held n 3 (([c0, c1, c2, c3, c4, c5, c6, c7, c8, c9].drop 1).take (Try.prog.cellsOf 3)) = some (xs.getD 1 (.nil, [])) := (hf 1 _ rfl).trans (get 1 (by omega))
  rw [ci] at f1
  have f2 : DataW.trod enc Try.prog w base spare held n 4 (([c0, c1, c2, c3, c4, c5, c6, c7, c8, c9].drop 2).take (Try.prog.cellsOf 4)) = some (xs.getD 2 (.nil, [])) := (hf 2 _ rfl).trans (get 2 (by omega))
  rw [cb] at f2
  have f3 : DataW.trod enc Try.prog w base spare held n 9 (([c0, c1, c2, c3, c4, c5, c6, c7, c8, c9].drop 3).take (Try.prog.cellsOf 9)) = some (xs.getD 3 (.nil, [])) := (hf 3 _ rfl).trans (get 3 (by omega))
  rw [cx] at f3
  have f4 : DataW.trod enc Try.prog w base spare held n 31 (([c0, c1, c2, c3, c4, c5, c6, c7, c8, c9].drop 4).take (Try.prog.cellsOf 31)) = some (xs.getD 4 (.nil, [])) := (hf 4 _ rfl).trans (get 4 (by omega))
  rw [cv] at f4
  have f5 : DataW.trod enc Try.prog w base spare held n 32 (([c0, c1, c2, c3, c4, c5, c6, c7, c8, c9].drop 8).take (Try.prog.cellsOf 32)) = some (xs.getD 5 (.nil, [])) := (hf 5 _ rfl).trans (get 5 (by omega))
  rw [cu] at f5
  have f6 : DataW.trod enc Try.prog w base spare held n 25 (([c0, c1, c2, c3, c4, c5, c6, c7, c8, c9].drop 9).take (Try.prog.cellsOf 25)) = some (xs.getD 6 (.nil, [])) := (hf 6 _ rfl).trans (get 6 (by omega))
  rw [cr] at f6
  obtain ⟨z0, e0⟩ := trod_int1 f0
  obtain ⟨z1, e1⟩ := trod_int1 f1
  obtain ⟨z2, e2⟩ := trod_truth f2
  obtain ⟨z3, e3, w3⟩ := trod_text f3
  obtain ⟨z4, e4, w4⟩ := trod_value f4
  obtain ⟨z5, e5, w5⟩ := trod_u64F f5
  obtain ⟨z6, e6, t6, w6⟩ := trod_tabF f6
  simp at e0 e1 e2 e3 e4 e5 e6
  obtain ⟨g1, g2, g3, g4⟩ := e4
  subst e0 e1 e2 e3 g1 g2 g3 g4 e5 e6
  exact ⟨⟨z0, z1, z2, z3, z4, z5, t6⟩, _, rfl, w3, w4, w5, w6⟩

set_option maxRecDepth 100000 in
/-- A frame that came in. -/
theorem open_frame {r : Reach} {b0 : Nat} {v : Value} {d : DataW H} {p : List MemPlace} (hv : Value.okWide Try.prog w r b0 34 v) (h : DataW.Trod enc Try.prog w base spare held 34 v d p) :
    ∃ (f : Frm) (t : Value), v = .agg #[.int .i64 f.k, .int .i64 f.s, .bool f.on, .string ⟨f.c.toArray⟩, .int .i64 f.v.sh, .int .i64 f.v.pr, .int .i64 f.v.si, .string ⟨f.v.st.toArray⟩, .int .u64 f.sum, t] ∧ f.c.length ≤ maxLen ∧ f.v.st.length ≤ maxLen ∧ f.sum < 18446744073709551616 ∧ Tab w t f.t := by
  obtain ⟨cs, rfl, _⟩ := okWide_struct Try.underlying34 hv
  obtain ⟨fuel, hf⟩ := h
  obtain ⟨f, t, hc, ww⟩ := trod_frame hf
  refine ⟨f, t, ?_, ww⟩
  obtain ⟨l⟩ := cs
  simp only [Value.cells] at hc
  rw [hc]

end

end Go.Proofs.Ytekkofldhhdpgaa

end

section

/-
  FOR THE FRAMES OF LAYER 19's PROOFS: clients and frames that came in, opened.
-/
namespace Go.Proofs.Ytekkofldhhdpgaa
open Go.ChangeShapes Go.WideShapes Go.ChangeAt Go.RowKit Go.Deep

section
variable {H : Type} {enc : TypeId × Value → H} {w : World} {base : Nat} {spare : Nat → Bool} {held : Bool}

theorem trod_intW {fuel : Nat} {cs : List Value} {x : DataW H × List MemPlace} (h : DataW.trod enc Try.prog w base spare held fuel 3 cs = some x) : ∃ z : Int, cs = [.int .i64 z] ∧ (Lit.int .i64 z).wf = true := by
  obtain ⟨z, e, _, hw⟩ := DataW.trod_int Try.underlying3 h
  exact ⟨z, e, hw⟩

set_option maxRecDepth 100000 in
theorem trod_frameW {fuel : Nat} {cs : List Value} {x : DataW H × List MemPlace} (h : DataW.trod enc Try.prog w base spare held fuel 34 cs = some x) :
    ∃ (f : Frm) (v : Value), cs = [.int .i64 f.k, .int .i64 f.s, .bool f.on, .string ⟨f.c.toArray⟩, .int .i64 f.v.sh, .int .i64 f.v.pr, .int .i64 f.v.si, .string ⟨f.v.st.toArray⟩, .int .u64 f.sum, v] ∧ (f.c.length ≤ maxLen ∧ f.v.st.length ≤ maxLen ∧ f.sum < 18446744073709551616 ∧ (Lit.int .i64 f.k).wf = true) ∧ Tab w v f.t := by
  obtain ⟨f, v, hc, h1, h2, h3, h4⟩ := trod_frame h
  obtain ⟨xs, n, _, _, hl, hx, hf⟩ := DataW.trod_struct Try.underlying34 h
  have ci : Try.prog.cellsOf 3 = 1 := by kernel_rfl
  have f0 : DataW.trod enc Try.prog w base spare held n 3 ((cs.drop 0).take (Try.prog.cellsOf 3)) = some (xs.getD 0 (.nil, [])) := (hf 0 _ rfl).trans (by
    have : 0 < xs.length := by rw [hx]; decide
    simp [List.getD, List.getElem?_eq_getElem this])
  rw [ci, hc] at f0
  obtain ⟨z, e, hw⟩ := trod_intW f0
  simp only [List.drop_zero, List.take_succ_cons, List.take_zero, List.cons.injEq, Value.int.injEq, and_true, true_and] at e
  rw [← e] at hw
  exact ⟨f, v, hc, ⟨h1, h2, h3, hw⟩, h4⟩

set_option maxRecDepth 100000 in
/-- A frame that came in, its Kind a number of 64 bits. -/
theorem open_framew {r : Reach} {b0 : Nat} {v : Value} {d : DataW H} {p : List MemPlace} (hv : Value.okWide Try.prog w r b0 34 v) (h : DataW.Trod enc Try.prog w base spare held 34 v d p) :
    ∃ (f : Frm) (t : Value), v = .agg #[.int .i64 f.k, .int .i64 f.s, .bool f.on, .string ⟨f.c.toArray⟩, .int .i64 f.v.sh, .int .i64 f.v.pr, .int .i64 f.v.si, .string ⟨f.v.st.toArray⟩, .int .u64 f.sum, t] ∧ (f.c.length ≤ maxLen ∧ f.v.st.length ≤ maxLen ∧ f.sum < 18446744073709551616 ∧ (Lit.int .i64 f.k).wf = true) ∧ Tab w t f.t := by
  obtain ⟨cs, rfl, _⟩ := okWide_struct Try.underlying34 hv
  obtain ⟨fuel, hf⟩ := h
  obtain ⟨f, t, hc, ww⟩ := trod_frameW hf
  refine ⟨f, t, ?_, ww⟩
  obtain ⟨l⟩ := cs
  simp only [Value.cells] at hc
  rw [hc]

set_option maxRecDepth 100000 in
theorem trod_cli {fuel : Nat} {cs : List Value} {x : DataW H × List MemPlace} (h : DataW.trod enc Try.prog w base spare held fuel 27 cs = some x) :
    ∃ (t : List Row) (n : Int) (o : Bool) (u : Value), cs = [u, .int .i64 n, .bool o] ∧ Tab w u t := by
  obtain ⟨xs, n, _, _, hl, hx, hg⟩ := DataW.trod_struct Try.underlying27 h
  have cc : Try.prog.cellsOf 27 = 3 := by kernel_rfl
  have ci : Try.prog.cellsOf 3 = 1 := by kernel_rfl
  have cb : Try.prog.cellsOf 4 = 1 := by kernel_rfl
  have cr : Try.prog.cellsOf 25 = 1 := by kernel_rfl
  rw [cc] at hl
  obtain ⟨c0, c1, c2, rfl⟩ : ∃ a b c, cs = [a, b, c] := by
    match cs, hl with
    | [a, b, c], _ => exact ⟨a, b, c, rfl⟩
  have get : ∀ i, i < 3 → xs[i]? = some (xs.getD i (.nil, [])) := fun i hi => by
    have : i < xs.length := by rw [hx]; exact hi
    simp [List.getD, List.getElem?_eq_getElem this]
  have f0 : DataW.trod enc Try.prog w base spare held n 25 (([c0, c1, c2].drop 0).take (Try.prog.cellsOf 25)) = some (xs.getD 0 (.nil, [])) := (hg 0 _ rfl).trans (get 0 (by omega))
  rw [cr] at f0
  have f1 : DataW.trod enc Try.prog w base spare held n 3 (([c0, c1, c2].drop 1).take (Try.prog.cellsOf 3)) = some (xs.getD 1 (.nil, [])) := (hg 1 _ rfl).trans (get 1 (by omega))
  rw [ci] at f1
  have f2 : DataW.trod enc Try.prog w base spare held n 4 (([c0, c1, c2].drop 2).take (Try.prog.cellsOf 4)) = some (xs.getD 2 (.nil, [])) := (hg 2 _ rfl).trans (get 2 (by omega))
  rw [cb] at f2
  obtain ⟨u, e0, t, ht⟩ := trod_tabF f0
  obtain ⟨z, e1⟩ := trod_int1 f1
  obtain ⟨b, e2⟩ := trod_truth f2
  simp at e0 e1 e2
  subst e0 e1 e2
  exact ⟨t, z, b, c0, rfl, ht⟩

set_option maxRecDepth 100000 in
/-- A client that came in. -/
theorem open_cli {r : Reach} {b0 : Nat} {v : Value} {d : DataW H} {p : List MemPlace} (hv : Value.okWide Try.prog w r b0 27 v) (h : DataW.Trod enc Try.prog w base spare held 27 v d p) :
    ∃ (t : List Row) (n : Int) (o : Bool) (u : Value), v = .agg #[u, .int .i64 n, .bool o] ∧ Tab w u t := by
  obtain ⟨cs, rfl, _⟩ := okWide_struct Try.underlying27 hv
  obtain ⟨fuel, hf⟩ := h
  obtain ⟨t, n, o, u, hc, ht⟩ := trod_cli hf
  refine ⟨t, n, o, u, ?_, ht⟩
  obtain ⟨l⟩ := cs
  simp only [Value.cells] at hc
  rw [hc]

end

end Go.Proofs.Ytekkofldhhdpgaa

end

section

/-
  LAYER 17, PLAIN: changes that wait, of each contact the last one alone.
-/
namespace Go.Proofs.Ytekkofldhhdpgaa

structure Que where
  l : List Chg
  la : Bool

def Chg.nought : Chg := ⟨[], false, Val.zero⟩

/-- P17.1. -/
def quOne (c : Chg) : Bool := idIs c.c && (if c.on = true then vaMay c.v else vSame c.v Val.zero)
/-- The first place of a contact; how many there are, if there is none. -/
def quAt (l : List Chg) (x : List UInt8) : Nat := l.findIdx fun c => c.c == x
def quHas (l : List Chg) (x : List UInt8) : Bool := decide (quAt l x < l.length)
def quNo2 (l : List Chg) : Prop := (l.map (·.c)).Nodup
instance (l : List Chg) : Decidable (quNo2 l) := by unfold quNo2; infer_instance
def quMay (q : Que) (room : Int) : Bool := decide ((q.l.length : Int) ≤ room) && !(q.la && decide (0 < q.l.length)) && q.l.all quOne && decide (quNo2 q.l)
def quEmpty (q : Que) : Bool := decide (q.l.length = 0) && !q.la
def quFind (q : Que) (x : List UInt8) : Chg × Bool := if quHas q.l x = true then (q.l.getD (quAt q.l x) Chg.nought, true) else (Chg.nought, false)
/-- P17.2. -/
def quPush (q : Que) (c : Chg) (room : Int) : Que :=
  if q.la = true then q else if quHas q.l c.c = true then ⟨q.l.set (quAt q.l c.c) c, false⟩ else if (q.l.length : Int) < room then ⟨q.l ++ [c], false⟩ else ⟨[], true⟩
/-- P17.3. -/
def quPop (q : Que) : Chg × Que × Bool := match q.l with
  | [] => (Chg.nought, q, false)
  | c :: l => (c, ⟨l, q.la⟩, true)

/-! ### each text once -/
/-! ### what is pushed -/
end Go.Proofs.Ytekkofldhhdpgaa

end

section

/-
  LAYER 16, PLAIN: configs, buckets, levels, what is taken; and what the statements of the layer say of them.
-/
namespace Go.Proofs.Ytekkofldhhdpgaa

structure Cfg where
  room : Int
  burst : Int
  rate : Int
  per : Int

structure Bkt where
  tok : Int
  at' : Int

def pcMay (c : Cfg) : Bool := decide (1 ≤ c.room) && (decide (c.room ≤ 16) && (decide (1 ≤ c.burst) && (decide (c.burst ≤ 64) && (decide (1 ≤ c.rate) && (decide (c.rate ≤ 16) && (decide (1 ≤ c.per) && decide (c.per ≤ 1000)))))))
def pcTime (n : Int) : Bool := decide (0 ≤ n) && decide (n ≤ 1099511627776)
def pcOne (c : Cfg) (b : Bkt) : Bool := pcMay c && (decide (0 ≤ b.tok) && (decide (b.tok ≤ c.burst) && pcTime b.at'))

def pcNew (c : Cfg) (now : Int) : Bkt × Nat := if (pcMay c && pcTime now) = true then (⟨c.burst, now⟩, 0) else (⟨0, 0⟩, 1)

/-- The level, where all may be. -/
def pcLev (c : Cfg) (b : Bkt) (now : Int) : Int := if now ≤ b.at' then b.tok else min c.burst (b.tok + (now - b.at') * c.rate)

def pcLevel (c : Cfg) (b : Bkt) (now : Int) : Int := if (pcOne c b && pcTime now) = true then pcLev c b now else 0

def pcTake (c : Cfg) (b : Bkt) (now : Int) : Bkt × Bool :=
  if (pcOne c b && pcTime now) = true then
    (if pcLev c b now = 0 then (⟨0, max now b.at'⟩, false) else (⟨pcLev c b now - 1, max now b.at'⟩, true))
  else (b, false)

def pcWait (c : Cfg) (b : Bkt) (now : Int) : Int := if (pcOne c b && pcTime now) = true then (if 1 ≤ pcLev c b now then 0 else 1) else 0

/-- PaceRate: what holds of the ticks at which was taken, and of the bucket that is left. -/
structure RateOK (c : Cfg) (b : Bkt) (at' : List Int) : Prop where
  left : ∀ i (hi : i < at'.length), ((at'.length - i : Nat) : Int) + b.tok ≤ c.burst + c.rate * (b.at' - at'[i])
  all : ∀ i k (hk : k < at'.length) (hik : i ≤ k), ((k - i + 1 : Nat) : Int) ≤ c.burst + c.rate * (at'[k] - at'[i]'(by omega))

end Go.Proofs.Ytekkofldhhdpgaa

end

section

/-
  LAYER 18, PLAIN: links, and what they tell.
-/
namespace Go.Proofs.Ytekkofldhhdpgaa

structure Lnk where
  seq : Int
  q : Que
  b : Bkt
  sn : Bool
  dg : Int

def lnMay (c : Cfg) (l : Lnk) : Bool := pcOne c l.b && (decide (0 ≤ l.seq) && (decide (l.seq ≤ 1099511627776) && (quMay l.q c.room && (!l.q.la && (pcTime l.dg && (!l.sn || decide (l.q.l = [])))))))
def lnAsk (l : Lnk) : Lnk := { l with sn := true, q := ⟨[], false⟩ }
def lnPush (c : Cfg) (l : Lnk) (x : Chg) : Lnk := if l.sn = true then l else if (quPush l.q x c.room).la = true then lnAsk l else { l with q := quPush l.q x c.room }
def lnQuiet (l : Lnk) : Bool := !l.sn && quEmpty l.q

/-- What is told next, without its number, and what waits behind that. -/
def lnTell (c : Cfg) (view : List Row) (now : Int) (l : Lnk) : Option (Frm × Lnk) :=
  if l.sn = true then some (⟨3, 0, false, [], Val.zero, 0, view⟩, { l with sn := false, q := ⟨[], false⟩, dg := now })
  else match l.q.l with
    | x :: r => some (⟨1, 0, x.on, x.c, x.v, 0, []⟩, { l with q := ⟨r, l.q.la⟩ })
    | [] => if now - l.dg < c.per then none else some (⟨2, 0, false, [], Val.zero, diSum view, []⟩, { l with dg := now })

def lnStep (c : Cfg) (view : List Row) (now : Int) (l : Lnk) : Option (Frm × Lnk) :=
  if 1099511627776 ≤ l.seq then none
  else match lnTell c view now l with
    | none => none
    | some (f, m) => if (pcTake c l.b now).2 = true then some ({ f with s := l.seq }, { m with b := (pcTake c l.b now).1, seq := l.seq + 1 }) else none

def lnRun (c : Cfg) (view : List Row) (now : Int) : Nat → Lnk → Lnk × List Frm
  | 0, l => (l, [])
  | n + 1, l => match lnStep c view now l with
    | none => (l, [])
    | some (f, m) => ((lnRun c view now n m).1, f :: (lnRun c view now n m).2)

def lnEmit (c : Cfg) (l : Lnk) (view : List Row) (now : Int) : Lnk × List Frm :=
  if (lnMay c l && (diMay view && pcTime now)) = true then lnRun c view now 65 l else (l, [])

end Go.Proofs.Ytekkofldhhdpgaa

end

section

/-
  ROWS OF STRUCTS, OVER ANY PROGRAM AND ANY ELEMENT OF A FEW CELLS: slices that are read, or owned, appended to, copied, cleared, grown by zero rows.
-/
namespace Go.Proofs.Ytekkofldhhdpgaa
open Go.RowKit

/-- The cells of elements, one behind the other. -/
def cellsS {α : Type} (vals : α → List Value) (t : List α) : List Value := (t.map vals).flatten

/-- What is to be known of an element's type T, and of its slice's S. -/
structure RowOK {α : Type} (P : Program) (vals : α → List Value) (sz : Nat) (zero : α) (T S : TypeId) (Z : Value) (bytes : Nat) : Prop where
  len : ∀ a, (vals a).length = sz
  one : ∀ a, ∀ u ∈ vals a, u.oneCell' = true
  pos : 0 < sz
  small : sz ≤ 100
  under : P.underlying S = some (.slice T)
  info : (P.info? T).map (fun i => (i.zero, i.size, i.bytes)) = some (some Z, sz, bytes)
  zvals : Z.cells.toList = vals zero
  fits : bytes ≤ 4096

section pure
variable {α : Type} {vals : α → List Value} {sz : Nat}

theorem cellsS_nil : cellsS vals [] = [] := rfl
theorem cellsS_cons (r : α) (t : List α) : cellsS vals (r :: t) = vals r ++ cellsS vals t := rfl
theorem cellsS_append (a b : List α) : cellsS vals (a ++ b) = cellsS vals a ++ cellsS vals b := by simp [cellsS]
theorem cellsS_one (r : α) : cellsS vals [r] = vals r := by simp [cellsS]

theorem cellsS_len (hl : ∀ a, (vals a).length = sz) : ∀ t : List α, (cellsS vals t).length = t.length * sz
  | [] => by simp [cellsS]
  | r :: t => by rw [cellsS_cons, List.length_append, hl, cellsS_len hl t, List.length_cons, Nat.add_mul, Nat.one_mul, Nat.add_comm]

theorem cellsS_at (hl : ∀ a, (vals a).length = sz) (zero : α) : ∀ (t : List α) (i j : Nat), i < t.length → j < sz → (cellsS vals t)[i * sz + j]? = (vals (t.getD i zero))[j]?
  | [], i, j, h, _ => by simp at h
  | r :: t, 0, j, _, hj => by
    rw [cellsS_cons, Nat.zero_mul, Nat.zero_add, List.getElem?_append_left (by rw [hl]; exact hj)]
    rfl
  | r :: t, i + 1, j, h, hj => by
    rw [cellsS_cons, List.getElem?_append_right (by rw [hl, Nat.add_mul]; omega), hl, show (i + 1) * sz + j - sz = i * sz + j by rw [Nat.add_mul]; omega, cellsS_at hl zero t i j (by simpa using h) hj]
    rfl

theorem cellsS_take (hl : ∀ a, (vals a).length = sz) (u : List α) (o : Nat) : (cellsS vals u).take (o * sz) = cellsS vals (u.take o) := by
  have h := cellsS_append (vals := vals) (u.take o) (u.drop o)
  rw [List.take_append_drop] at h
  rw [h]
  by_cases ho : o ≤ u.length
  · rw [List.take_left' (by rw [cellsS_len hl, List.length_take, Nat.min_eq_left ho])]
  · have e1 : u.drop o = [] := List.drop_of_length_le (by omega)
    have e2 : u.take o = u := List.take_of_length_le (by omega)
    rw [e1, e2, cellsS_nil, List.append_nil, List.take_of_length_le (by rw [cellsS_len hl]; exact Nat.mul_le_mul_right _ (by omega))]

theorem cellsS_drop (hl : ∀ a, (vals a).length = sz) (u : List α) (o : Nat) : (cellsS vals u).drop (o * sz) = cellsS vals (u.drop o) := by
  have h := cellsS_append (vals := vals) (u.take o) (u.drop o)
  rw [List.take_append_drop] at h
  by_cases ho : o ≤ u.length
  · rw [h, List.drop_left' (by rw [cellsS_len hl, List.length_take, Nat.min_eq_left ho])]
  · have e1 : u.drop o = [] := List.drop_of_length_le (by omega)
    rw [e1, cellsS_nil, List.drop_of_length_le (by rw [cellsS_len hl]; exact Nat.mul_le_mul_right _ (by omega))]

/-- 'ms' laid over 'u' from place 'o' on. -/
def layS {β : Type} (u : List β) (o : Nat) (ms : List β) : List β := u.take o ++ (ms ++ u.drop (o + ms.length))

/-- One put in at i. -/
def putS {β : Type} (t : List β) (i : Nat) (r : β) : List β := t.take i ++ ([r] ++ t.drop i)

end pure

section rows
variable {α : Type} {P : Program} {vals : α → List Value} {sz : Nat} {zero : α} {T S : TypeId} {Z : Value} {bytes : Nat}

/-- A slice of the call's own. -/
def OwnS (vals : α → List Value) (sz : Nat) (T : TypeId) (w : World) (base : Nat) (v : Value) (t : List α) : Prop := w.ownsRow base T sz v t.length (cellsS vals t)

/-- Its cells, whatever they hold. -/
def OwnCS (sz : Nat) (T : TypeId) (w : World) (base g n cap : Nat) (xs : List Value) : Prop := w.ownsRow base T sz (.slice (some ⟨g, 0, none⟩) n cap) n xs

/-- The cells that a slice reads. -/
def SrcS (vals : α → List Value) (w : World) (ad : Addr) (ms : List α) : Prop := ∀ j u, (cellsS vals ms)[j]? = some u → w.cell? (ad.add j) = some u

/-- The cells of one element. -/
def CellsAt (w : World) (b o : Nat) (vs : List Value) : Prop := ∀ j u, vs[j]? = some u → w.cell? ⟨b, o + j, none⟩ = some u

theorem CellsAt.later {w w' : World} {b o : Nat} {vs : List Value} (h : CellsAt w b o vs) (hb : Below w.heap.size w w') : CellsAt w' b o vs := by
  intro j u hu
  have := h j u hu
  rw [hb.cell (World.block_lt_of_cell? w _ this)]
  exact this

/-- A slice that may be read. -/
def RdS (vals : α → List Value) (sz : Nat) (zero : α) (w : World) (v : Value) (l : List α) : Prop :=
  ∃ a cap, v = .slice a l.length cap ∧ l.length ≤ cap ∧ cap ≤ maxLen ∧ (a = none → cap = 0) ∧
    (l = [] ∨ ∃ b off, a = some ⟨b, off, none⟩ ∧ b < w.heap.size ∧ ∀ i, i < l.length → CellsAt w b (off + i * sz) (vals (l.getD i zero)))

theorem RdS.later {w w' : World} {v : Value} {l : List α} (h : RdS vals sz zero w v l) (hb : Below w.heap.size w w') : RdS vals sz zero w' v l := by
  obtain ⟨a, cap, h1, h2, h3, h4, h5⟩ := h
  refine ⟨a, cap, h1, h2, h3, h4, ?_⟩
  rcases h5 with h5 | ⟨b, off, e, hlt, hc⟩
  · exact .inl h5
  · exact .inr ⟨b, off, e, Nat.lt_of_lt_of_le hlt hb.size, fun i hi => (hc i hi).later hb⟩

theorem rdS_nil (w : World) : RdS vals sz zero w (.slice none 0 0) [] := ⟨none, 0, rfl, by simp, by simp, fun _ => rfl, .inl rfl⟩

theorem RdS.row {w wr : World} {a : Option Addr} {n cap : Nat} {l : List α} (h : RdS vals sz zero w (.slice a n cap) l) (hb : Below w.heap.size w wr) (k : Nat) (hk : k < l.length) :
    ∃ b off, a = some ⟨b, off, none⟩ ∧ CellsAt wr b (off + k * sz) (vals (l.getD k zero)) := by
  obtain ⟨a', cap', e, _, _, _, h⟩ := h.later hb
  simp only [Value.slice.injEq] at e
  rcases h with h | ⟨b, off, e', _, hc⟩
  · rw [h] at hk; simp at hk
  · exact ⟨b, off, e.1.trans e', hc k hk⟩

theorem RdS.open' {w : World} {v : Value} {l : List α} (h : RdS vals sz zero w v l) : ∃ a cap, v = .slice a l.length cap ∧ l.length ≤ 9223372036854775807 := by
  obtain ⟨a, cap, e, h1, h2, _⟩ := h
  unfold maxLen at h2
  exact ⟨a, cap, e, by omega⟩

theorem OwnS.alloc {w : World} {base : Nat} {v : Value} {t : List α} (h : OwnS vals sz T w base v t) (o : Obj) : OwnS vals sz T (w.alloc o) base v t := World.ownsRow.alloc h o

theorem OwnS.drew {w : World} {base : Nat} {v : Value} {t : List α} (h : OwnS vals sz T w base v t) : OwnS vals sz T w.drew base v t := World.ownsRow.drew h

theorem OwnS.later {w w' : World} {base : Nat} {v : Value} {t : List α} (h : OwnS vals sz T w base v t) (hb : Below w.heap.size w w') : OwnS vals sz T w' base v t := by
  refine ⟨h.1, ?_⟩
  rcases h.2 with h' | ⟨g, cap, cur, h1, h2, h3, h4⟩
  · exact .inl h'
  · exact .inr ⟨g, cap, cur, h1, h2, by rw [hb.block g (Array.getElem?_eq_some_iff.1 h3).1]; exact h3, h4⟩

theorem ltS {i n j sz : Nat} (hi : i < n) (hj : j < sz) : i * sz + j < n * sz := by
  have := Nat.mul_le_mul_right sz (show i + 1 ≤ n by omega)
  rw [Nat.add_mul, Nat.one_mul] at this
  omega

theorem OwnS.head {w : World} {base g n cap : Nat} {u : List α} (h : OwnS vals sz T w base (.slice (some ⟨g, 0, none⟩) n cap) u) : n = u.length ∧ base ≤ g ∧ g < w.heap.size ∧ n ≤ cap ∧ cap ≤ maxLen ∧ ∃ cur : Array Value, w.heap[g]? = some (.cells cur T (0, 0)) ∧ cur.size = cap * sz := by
  rcases h with ⟨_, ⟨h', _⟩ | ⟨g', cap', cur, h', hb, hg, hnc, hcm, hcs, _⟩⟩
  · simp at h'
  · simp only [Value.slice.injEq, Option.some.injEq, Addr.mk.injEq, and_true] at h'
    obtain ⟨rfl, h2, rfl⟩ := h'
    exact ⟨h2, hb, (Array.getElem?_eq_some_iff.1 hg).1, by omega, hcm, cur, hg, hcs⟩

theorem OwnS.cellAt (_D : RowOK P vals sz zero T S Z bytes) {w : World} {base g n cap : Nat} {u : List α} (h : OwnS vals sz T w base (.slice (some ⟨g, 0, none⟩) n cap) u) (j : Nat) (hj : j < u.length * sz) : w.cell? ⟨g, j, none⟩ = (cellsS vals u)[j]? := by
  have hn := h.head.1
  subst hn
  exact World.ownsRow.cellAt h j hj

theorem OwnS.frozenAt {w : World} {base g n cap : Nat} {u : List α} (h : OwnS vals sz T w base (.slice (some ⟨g, 0, none⟩) n cap) u) (j : Nat) : w.frozen? ⟨g, j, none⟩ = false := by
  have hn := h.head.1
  subst hn
  exact World.ownsRow.frozenAt h j

theorem OwnS.someAt (D : RowOK P vals sz zero T S Z bytes) {w : World} {base g n cap : Nat} {u : List α} (h : OwnS vals sz T w base (.slice (some ⟨g, 0, none⟩) n cap) u) (j : Nat) (hj : j < u.length * sz) : (w.cell? ⟨g, j, none⟩).isSome = true := by
  rw [h.cellAt D j hj, List.getElem?_eq_getElem (by rw [cellsS_len D.len]; exact hj)]
  rfl

/-- What an element of the call's own slice holds, at its cells. -/
theorem OwnS.row (D : RowOK P vals sz zero T S Z bytes) {w : World} {base g n cap : Nat} {u : List α} (h : OwnS vals sz T w base (.slice (some ⟨g, 0, none⟩) n cap) u) {k : Nat} (hk : k < u.length) : CellsAt w g (k * sz) (vals (u.getD k zero)) := by
  intro j x hx
  have hj : j < sz := by have := (List.getElem?_eq_some_iff.1 hx).1; rwa [D.len] at this
  rw [h.cellAt D _ (ltS hk hj), cellsS_at D.len zero u k j hk hj, hx]

theorem OwnS.src (D : RowOK P vals sz zero T S Z bytes) {w : World} {base g n cap : Nat} {u : List α} (h : OwnS vals sz T w base (.slice (some ⟨g, 0, none⟩) n cap) u) (o k : Nat) (hk : o + k ≤ u.length) : SrcS vals w ⟨g, o * sz, none⟩ ((u.drop o).take k) := by
  intro j x hx
  have hj := (List.getElem?_eq_some_iff.1 hx).1
  rw [cellsS_len D.len, List.length_take, List.length_drop] at hj
  have h1 : min k (u.length - o) * sz ≤ k * sz := Nat.mul_le_mul_right _ (Nat.min_le_left _ _)
  have h2 : o * sz + k * sz ≤ u.length * sz := by rw [← Nat.add_mul]; exact Nat.mul_le_mul_right _ hk
  rw [Addr.add_lit, h.cellAt D _ (by omega), ← hx]
  rw [← cellsS_take D.len, ← cellsS_drop D.len, List.getElem?_take, if_pos (by omega), List.getElem?_drop]

/-- The cells of a slice, at its address. -/
theorem RdS.src (D : RowOK P vals sz zero T S Z bytes) {w : World} {ad : Addr} {n cap : Nat} {t : List α} (h : RdS vals sz zero w (.slice (some ad) n cap) t) : SrcS vals w ad t := by
  obtain ⟨a', cap', e, _, _, _, h⟩ := h
  simp only [Value.slice.injEq] at e
  intro j u hu
  have hj := (List.getElem?_eq_some_iff.1 hu).1
  rw [cellsS_len D.len] at hj
  rcases h with h | ⟨b, off, e', _, hc⟩
  · rw [h] at hj; simp at hj
  · have e2 := e.1.trans e'
    injection e2 with e2
    subst e2
    have hm : j % sz < sz := Nat.mod_lt _ D.pos
    have hd : j = j / sz * sz + j % sz := by have := Nat.div_add_mod j sz; rw [Nat.mul_comm] at this; omega
    have hq : j / sz < t.length := (Nat.div_lt_iff_lt_mul D.pos).2 hj
    rw [hd, cellsS_at D.len zero t (j / sz) (j % sz) hq hm] at hu
    have := hc (j / sz) hq (j % sz) u hu
    rw [Addr.add_lit, hd, ← Nat.add_assoc]
    exact this

theorem OwnCS.drew {w : World} {base g n cap : Nat} {xs : List Value} (h : OwnCS sz T w base g n cap xs) : OwnCS sz T w.drew base g n cap xs := World.ownsRow.drew h

theorem OwnCS.rows {w : World} {base g cap n : Nat} {t : List α} (h : OwnCS sz T w base g n cap (cellsS vals t)) (hn : n = t.length) : OwnS vals sz T w base (.slice (some ⟨g, 0, none⟩) n cap) t := by
  subst hn
  exact h

/-- Block B holds one element, and nothing else. -/
def LoneS (vals : α → List Value) (T : TypeId) (w : World) (B : Nat) (r : α) : Prop := ∃ cs : Array Value, cs.toList = vals r ∧ w.heap[B]? = some (.cells cs T (0, 0))

theorem LoneS.later {w w' : World} {B : Nat} {r : α} (h : LoneS vals T w B r) (hb : Below w.heap.size w w') : LoneS vals T w' B r := by
  obtain ⟨cs, h1, h2⟩ := h
  exact ⟨cs, h1, (hb.block B (Array.getElem?_eq_some_iff.1 h2).1).trans h2⟩

theorem LoneS.lt {w : World} {B : Nat} {r : α} (h : LoneS vals T w B r) : B < w.heap.size := by
  obtain ⟨cs, h1, h2⟩ := h
  exact (Array.getElem?_eq_some_iff.1 h2).1

theorem LoneS.src {w : World} {B : Nat} {r : α} (h : LoneS vals T w B r) : SrcS vals w ⟨B, 0, none⟩ [r] := by
  obtain ⟨cs, h1, h2⟩ := h
  intro j u hu
  rw [cellsS_one, ← h1] at hu
  rw [Addr.add_lit, Nat.zero_add, cell_of_row w B j _ _ (0, 0) h2, ← hu]
  simp

theorem LoneS.free {w : World} {B : Nat} {r : α} (h : LoneS vals T w B r) (j : Nat) : w.frozen? ⟨B, j, none⟩ = false := by
  obtain ⟨cs, h1, h2⟩ := h
  exact frozen_of_row w B j _ _ h2

theorem LoneS.shape (hl : ∀ a, (vals a).length = sz) {w : World} {B : Nat} {r : α} (h : LoneS vals T w B r) : w.shape? B = some (T, sz) := by
  obtain ⟨cs, h1, h2⟩ := h
  have hs : cs.size = sz := by rw [← Array.length_toList, h1, hl]
  simp only [World.shape?, h2, hs]

end rows

end Go.Proofs.Ytekkofldhhdpgaa

end

section

/-
  SMALL WORDS ON WORLDS, for contracts over slices of structs.
-/
namespace Go.Proofs.Ytekkofldhhdpgaa
open Go.RowKit

theorem below2Z {w a b : World} (h1 : Below w.heap.size w a) (h2 : Below a.heap.size a b) : Below w.heap.size w b := h1.trans (h2.mono h1.size)

theorem bl_newZ (w : World) (o : Obj) : Below w.heap.size w (w.alloc o) := (Below.refl _ _).alloc (Nat.le_refl _) o

theorem cellLaterZ {w w' : World} {a : Addr} {v : Value} (h : w.cell? a = some v) (hb : Below w.heap.size w w') : w'.cell? a = some v :=
  (hb.cell (World.block_lt_of_cell? w _ h)).trans h

end Go.Proofs.Ytekkofldhhdpgaa

end

section

/-
  A SLICE OF A SLICE OF STRUCTS.
-/
namespace Go.Proofs.Ytekkofldhhdpgaa
open Go.RowKit

end Go.Proofs.Ytekkofldhhdpgaa

end

section

/-
  LAYER 18: frames in memory: rows of ten cells, each with a table of its own.
-/
namespace Go.Proofs.Ytekkofldhhdpgaa
open Go.RowKit

/-- A frame, and where its table lies. -/
structure FrS where
  f : Frm
  a : Option Addr
  n : Nat
  cap : Nat

def FrS.zero : FrS := ⟨Frm.zero, none, 0, 0⟩
def FrS.tv (p : FrS) : Value := .slice p.a p.n p.cap
def frVals (p : FrS) : List Value := [.int .i64 p.f.k, .int .i64 p.f.s, .bool p.f.on, .string ⟨p.f.c.toArray⟩, .int .i64 p.f.v.sh, .int .i64 p.f.v.pr, .int .i64 p.f.v.si, .string ⟨p.f.v.st.toArray⟩, .int .u64 p.f.sum, p.tv]

theorem frSOK : RowOK Try.prog frVals 10 FrS.zero 34 22 (.agg #[.int .i64 0, .int .i64 0, .bool false, .string ⟨#[]⟩, .int .i64 0, .int .i64 0, .int .i64 0, .string ⟨#[]⟩, .int .u64 0, .slice none 0 0]) 112 where
  len := fun _ => rfl
  one := fun p u hu => by
    simp only [frVals, FrS.tv, List.mem_cons, List.not_mem_nil, or_false] at hu
    rcases hu with rfl | rfl | rfl | rfl | rfl | rfl | rfl | rfl | rfl | rfl <;> rfl
  pos := by decide
  small := by decide
  under := by kernel_rfl
  info := by kernel_rfl
  zvals := rfl
  fits := by decide

/-- Frames that lie in memory. -/
def Frms (w : World) (v : Value) (l : List FrS) : Prop := RdS frVals 10 FrS.zero w v l ∧ ∀ p ∈ l, Tab w p.tv p.f.t

theorem Frms.later {w w' : World} {v : Value} {l : List FrS} (h : Frms w v l) (hb : Below w.heap.size w w') : Frms w' v l := ⟨RdS.later h.1 hb, fun p hp => (h.2 p hp).later hb⟩

end Go.Proofs.Ytekkofldhhdpgaa

end

section

/-
  FOR THE FRAMES: a slice of structs that came in, opened; over any program.
-/
namespace Go.Proofs.Ytekkofldhhdpgaa
open Go.ChangeShapes Go.WideShapes Go.ChangeAt Go.RowKit Go.Deep

theorem choose_S {α : Type} (zero : α) {n : Nat} {Q : Nat → α → Prop} (h : ∀ i, i < n → ∃ r, Q i r) : ∃ t : List α, t.length = n ∧ ∀ i, i < n → Q i (t.getD i zero) := by
  induction n with
  | zero => exact ⟨[], rfl, fun i hi => absurd hi (by omega)⟩
  | succ n ih =>
    obtain ⟨t, hl, ht⟩ := ih fun i hi => h i (by omega)
    obtain ⟨r, hr⟩ := h n (by omega)
    refine ⟨t ++ [r], by simp [hl], fun i hi => ?_⟩
    by_cases hin : i < n
    · have := ht i hin
      simp only [List.getD] at this ⊢
      rwa [List.getElem?_append_left (by omega)]
    · obtain rfl : i = n := by omega
      simp only [List.getD]
      rw [List.getElem?_append_right (by omega), hl]
      simpa using hr

/-- A slice of structs that came in. -/
theorem open_rdS {α : Type} {P : Program} {vals : α → List Value} {sz : Nat} {zero : α} {T S : TypeId} {Z : Value} {bytes : Nat} (D : RowOK P vals sz zero T S Z bytes) (hcells : P.cellsOf T = sz)
    {H : Type} {enc : TypeId × Value → H} {w : World} {base : Nat} {spare : Nat → Bool} {held : Bool} {ok : α → Prop}
    (helem : ∀ fuel cs x, DataW.trod enc P w base spare held fuel T cs = some x → ∃ r, cs = vals r ∧ ok r)
    {r : Reach} {b0 : Nat} {v : Value} {d : DataW H} {p : List MemPlace} (hv : Value.okWide P w r b0 S v) (h : DataW.Trod enc P w base spare held S v d p) :
    ∃ t : List α, RdS vals sz zero w v t ∧ ∀ r ∈ t, ok r := by
  obtain ⟨a, len, cap, rfl⟩ := okWide_slice D.under hv
  obtain ⟨fuel, hf⟩ := h
  rcases open_slice D.under hf with ⟨hcs, _⟩ | ⟨x, l, c, m, n, D', Pl, hcs, _, hl, hm, hmm, _, hi⟩
  · simp [Value.cells] at hcs
    obtain ⟨rfl, rfl, rfl⟩ := hcs
    exact ⟨[], rdS_nil w, by simp⟩
  · simp [Value.cells] at hcs
    obtain ⟨rfl, rfl, rfl⟩ := hcs
    have hlm : len ≤ m := by rw [hmm]; split <;> omega
    rw [hcells] at hi
    obtain ⟨t, htl, ht⟩ := choose_S zero (n := len) (Q := fun i r => (∀ j u, (vals r)[j]? = some u → w.cell? ((x.add (i * sz)).add j) = some u) ∧ ok r) (fun i hil => by
      obtain ⟨cs', hc, htr⟩ := hi i (by omega)
      obtain ⟨_, hcl, hat⟩ := World.cells?_some hc
      obtain ⟨r, rfl, w1⟩ := helem _ _ _ htr
      refine ⟨r, fun j u hu => ?_, w1⟩
      have hj : j < sz := by have := (List.getElem?_eq_some_iff.1 hu).1; rwa [D.len] at this
      rw [hat j hj, hu])
    refine ⟨t, ⟨some x, cap, by rw [htl], by omega, by omega, (fun e => by cases e), ?_⟩, fun r hr => ?_⟩
    · by_cases h0 : len = 0
      · exact .inl (List.length_eq_zero_iff.1 (by omega))
      · obtain ⟨b, off, spot⟩ := x
        have hne : 0 < (vals (t.getD 0 zero)).length := by rw [D.len]; exact D.pos
        have hc := (ht 0 (by omega)).1 0 _ (List.getElem?_eq_getElem hne)
        have hspot : spot = none := by simpa [Addr.add] using World.cell?_spot hc
        subst hspot
        refine .inr ⟨b, off, rfl, ?_, fun i hil => fun j u hu => ?_⟩
        · have := World.block_lt_of_cell? w _ hc
          simpa [Addr.add] using this
        · have := (ht i (by omega)).1 j u hu
          rwa [Addr.add_lit, Addr.add_lit] at this
    · obtain ⟨i, hil, rfl⟩ := List.getElem_of_mem hr
      have := (ht i (by omega)).2
      rwa [List.getD_eq_getElem?_getD, List.getElem?_eq_getElem hil] at this

end Go.Proofs.Ytekkofldhhdpgaa

end

section

/-
  FOR THE FRAMES OF LAYER 19's PROOFS: many frames that came in, opened.
-/
namespace Go.Proofs.Ytekkofldhhdpgaa
open Go.ChangeShapes Go.WideShapes Go.ChangeAt Go.RowKit Go.Deep

/-- What is known of a frame that came in. -/
def FrFit (w : World) (p : FrS) : Prop := (p.f.c.length ≤ maxLen ∧ p.f.v.st.length ≤ maxLen ∧ p.f.sum < 18446744073709551616 ∧ (Lit.int .i64 p.f.k).wf = true) ∧ Tab w p.tv p.f.t

section
variable {H : Type} {enc : TypeId × Value → H} {w : World} {base : Nat} {spare : Nat → Bool} {held : Bool}

set_option maxRecDepth 100000 in
theorem trod_frs (fuel : Nat) (cs : List Value) (x : DataW H × List MemPlace) (h : DataW.trod enc Try.prog w base spare held fuel 34 cs = some x) : ∃ p : FrS, cs = frVals p ∧ FrFit w p := by
  obtain ⟨f, v, hc, h1, h2⟩ := trod_frameW h
  obtain ⟨a, cap, rfl, _⟩ := h2.open'
  exact ⟨⟨f, a, f.t.length, cap⟩, hc, h1, h2⟩

set_option maxRecDepth 100000 in
/-- Frames that came in. -/
theorem open_frms {r : Reach} {b0 : Nat} {v : Value} {d : DataW H} {p : List MemPlace} (hv : Value.okWide Try.prog w r b0 22 v) (h : DataW.Trod enc Try.prog w base spare held 22 v d p) :
    ∃ l : List FrS, RdS frVals 10 FrS.zero w v l ∧ ∀ p ∈ l, FrFit w p :=
  open_rdS (ok := FrFit w) frSOK (by kernel_rfl) trod_frs hv h

end

end Go.Proofs.Ytekkofldhhdpgaa

end

section

/-
  MAPS FROM NUMBERS TO FUNCTIONS THAT THE CALL HAS MADE.
-/
namespace Go.Proofs.Ytekkofldhhdpgaa
open Go.RowKit Go.ChangeMaps Go.MapKept

def fnVal : Option (Int × Nat) → Value
  | some x => .func (.func x.2) #[] #[]
  | none => .nilFunc

def fnData : Option (Int × Nat) → DataW Unit
  | some x => .lit (.int .i64 x.2)
  | none => .lit (.bool false)

def fnElem : Value → Option (DataW Unit × List MemPlace)
  | .func (.func f) ⟨[]⟩ ⟨[]⟩ => some (.lit (.int .i64 f), [])
  | .nilFunc => some (.lit (.bool false), [])
  | _ => none

theorem fnElem_inv {v : Value} {z : DataW Unit × List MemPlace} (h : fnElem v = some z) (o : Option (Int × Nat)) (hz : z.1 = fnData o) : v = fnVal o := by
  unfold fnElem at h
  split at h
  · rename_i f
    obtain rfl := (Option.some.inj h).symm
    cases o with
    | none => simp [fnData] at hz
    | some x =>
      obtain ⟨k, g⟩ := x
      simp [fnData] at hz
      obtain rfl := Int.ofNat.inj hz
      rfl
  · obtain rfl := (Option.some.inj h).symm
    cases o with
    | none => rfl
    | some x => simp [fnData] at hz
  · cases h

/-- Block B is a map that holds these functions, the latest one first. -/
def FnMap (w : World) (B : Nat) (l : List (Int × Nat)) : Prop :=
  ∃ D : DataW Unit, w.ownsMap Try.prog 3 fnElem B l.length D ∧
    ∀ k : Int, Maps.has D (.int .i64 k) = l.any (fun x => x.1 == k) ∧ D.atKey (.int .i64 k) (.lit (.bool false)) = fnData (l.find? fun x => x.1 == k)

theorem fnMap_made (w : World) : FnMap (w.alloc (.map #[] 0)) w.heap.size [] :=
  ⟨.map [], World.ownsMap_made w _ _ _, fun _ => ⟨rfl, rfl⟩⟩

theorem FnMap.lt {w : World} {B : Nat} {l : List (Int × Nat)} (h : FnMap w B l) : B < w.heap.size := by
  obtain ⟨_, h, _⟩ := h
  exact h.lt

theorem FnMap.later {w w' : World} {B : Nat} {l : List (Int × Nat)} (h : FnMap w B l) (hb : Below w.heap.size w w') : FnMap w' B l := by
  have hlt := h.lt
  obtain ⟨D, ⟨es, clock, h2, h3, h4, h5⟩, h6⟩ := h
  exact ⟨D, ⟨es, clock, (hb.block B hlt).trans h2, h3, h4, h5⟩, h6⟩

end Go.Proofs.Ytekkofldhhdpgaa

end

section

/-
  LAYER 19: the contract of client.kinds.
-/
namespace Go.Proofs.Ytekkofldhhdpgaa
open Go.RowKit Go.ChangeMaps Go.MapKept

theorem zeroFnC (w : World) : (zeroValue 29).run Try.prog w = .ok .nilFunc w := by kernel_rfl

theorem FnMap.lookC {w : World} {B : Nat} {l : List (Int × Nat)} (h : FnMap w B l) (k : Int) (hk : (Lit.int .i64 k).wf = true) :
    (Instr.lookup 61 (.map (some B)) (.int .i64 k) true).run Try.prog w = .ok (.tuple #[fnVal (l.find? fun x => x.1 == k), .bool (l.any fun x => x.1 == k)]) w := by
  obtain ⟨D, h2, h3⟩ := h
  obtain ⟨v, ps, hrun, hv⟩ := h2.look_ok (Maps.int_keyed Try.underlying3) Try.underlying61 (zeroFnC w) (show fnElem .nilFunc = some (.lit (.bool false), []) from rfl) (Maps.keyOf_int_mk Try.underlying3 hk)
  rw [(h3 k).2] at hv
  rw [fnElem_inv hv _ rfl, (h3 k).1] at hrun
  exact hrun

/-- 'm[k] = f'. -/
theorem wpList_fnC {w : World} {ops : Array Oper} {rest : List Oper} {o : Oper} {a : Act} {Q : Exit → Act → World → Prop}
    (hg : o.guard = none) (m x v : Operand) (hop : o.op = Op.insert 61 m x v) (B : Nat) (l : List (Int × Nat)) (hm : a.eval m = .map (some B)) (hown : FnMap w B l) (hl : l.length ≤ 100)
    (k : Int) (hk : (Lit.int .i64 k).wf = true) (f : Nat) (hx : a.eval x = .int .i64 k) (hv : a.eval v = .func (.func f) #[] #[])
    (hK : ∀ w', FnMap w' B ((k, f) :: l) → w.grownBy w' (some B) → wpList Try.prog ops Q rest (a.put o.dst undef) w') :
    wpList Try.prog ops Q (o :: rest) a w := by
  obtain ⟨D, h2, h3⟩ := hown
  refine wpList_plain hg fun K' hK' => ?_
  obtain ⟨w', hrun, h6, h7⟩ := h2.update (Maps.int_keyed Try.underlying3) Try.underlying61 (by unfold maxLen; omega) (Maps.keyOf_int_mk Try.underlying3 hk) (show fnElem (.func (.func f) #[] #[]) = some (.lit (.int .i64 f), []) from rfl)
  unfold Oper.wp
  simp [execOp, hop, hm, hx, hv, hrun, Result.andThen]
  refine hK' _ _ ?_
  have hT := h2.tidy (Maps.int_keyed Try.underlying3)
  refine hK w' ⟨_, h6, fun y => ?_⟩ h7
  by_cases e : y = k
  · subst e
    rw [Maps.has_put_same hT.isMap (show WideAt.IsKeyLit (.int .i64 y) from True.intro), Maps.atKey_put_same hT.isMap (show WideAt.IsKeyLit (.int .i64 y) from True.intro)]
    simp [fnData]
  · have hne : (Lit.int .i64 y) ≠ .int .i64 k := fun h => e (by injection h)
    rw [Maps.has_put_other hne, Maps.atKey_put_other hne, (h3 y).1, (h3 y).2]
    have e' : (k == y) = false := by simpa using fun h => e h.symm
    simp [e']

def kindFnsC : List (Int × Nat) := [(3, 42), (2, 41), (1, 40)]

set_option maxHeartbeats 800000 in
set_option maxRecDepth 100000 in
theorem kindsC_any (w : World) : Calls Try.prog 24 #[] w fun e w' => e = .returned (.map (some w.heap.size)) ∧ FnMap w' w.heap.size kindFnsC ∧ Below w.heap.size w w' := by
  have hmm := fun w => run_makeMap (P := Try.prog) 61 w
  have H0 := Lib.hid (fnMap_made w)
  have B0 : Hid (Below w.heap.size w (w.alloc (.map #[] 0))) := Lib.hid ((Below.refl _ _).alloc (Nat.le_refl _) _)
  go_enter Try.func24, Try.ntmps24
  go_wp2_with (first
    | (refine wpList_fnC rfl _ _ _ rfl w.heap.size [] rfl H0.out (by decide) 1 (by decide) 40 rfl rfl ?_; intro w1 h g; (have H1 := Lib.hid h); (have B1 : Hid (Below w.heap.size w w1) := Lib.hid (B0.out.grown g B0.out.size (by intro k hk; injection hk with hk; omega))); clear h g H0)
    | (refine wpList_fnC rfl _ _ _ rfl w.heap.size [(1, 40)] rfl H1.out (by decide) 2 (by decide) 41 rfl rfl ?_; intro w2 h g; (have H2 := Lib.hid h); (have B2 : Hid (Below w.heap.size w w2) := Lib.hid (B1.out.grown g B1.out.size (by intro k hk; injection hk with hk; omega))); clear h g H1)
    | (refine wpList_fnC rfl _ _ _ rfl w.heap.size [(2, 41), (1, 40)] rfl H2.out (by decide) 3 (by decide) 42 rfl rfl ?_; intro w3 h g; (have H3 := Lib.hid h); (have B3 : Hid (Below w.heap.size w w3) := Lib.hid (B2.out.grown g B2.out.size (by intro k hk; injection hk with hk; omega))); clear h g H2))
  go_ret
  exact ⟨rfl, H3.out, B3.out⟩

end Go.Proofs.Ytekkofldhhdpgaa

end

section

/-
  LAYER 6, PLAIN: what the document reads of bytes; Decode.
-/
namespace Go.Proofs.Ytekkofldhhdpgaa

/-- What bytes may be a frame's of, or something near it. -/
def frReadAt (l : List UInt8) (k n a : Nat) : Frm :=
  if k = 1 then
    (if l.length ≤ a then Frm.zero
     else if (idTake l (a + 1)).2.2 ≠ 0 then Frm.zero
     else if l.getD a 0 = 1 then
       (if (vaTake l (idTake l (a + 1)).2.1).2.2 ≠ 0 then Frm.zero else ⟨1, n, true, (idTake l (a + 1)).1, (vaTake l (idTake l (a + 1)).2.1).1, 0, []⟩)
     else ⟨1, n, false, (idTake l (a + 1)).1, Val.zero, 0, []⟩)
  else if k = 2 then ⟨2, n, false, [], Val.zero, sum8 ((l.drop a).take 8), []⟩
  else if k = 3 then (if (diTake l a).2.2 ≠ 0 then Frm.zero else ⟨3, n, false, [], Val.zero, 0, (diTake l a).1⟩)
  else ⟨k, n, false, [], Val.zero, 0, []⟩

def frRead (l : List UInt8) : Frm :=
  match l with
  | [] => Frm.zero
  | x :: r => if (vget (x :: r) 1).2.2 ≠ 0 ∨ 1099511627776 < (vget (x :: r) 1).1 then Frm.zero else frReadAt (x :: r) x.toNat (vget (x :: r) 1).1 (vget (x :: r) 1).2.1

theorem frMay_zero : frMay Frm.zero = false := by decide

theorem frReadAt_body {f : Frm} (h : FrOk f) (hs : f.sum < 18446744073709551616) (a : List UInt8) : frReadAt (a ++ frBody f) f.k.toNat f.s.toNat a.length = f := by
  obtain ⟨k, s, on, c, v, sum, t⟩ := f
  obtain ⟨h1, h2, h3, h4, h5⟩ := h
  simp only at h1 h2 h3 h4 hs
  obtain ⟨s, rfl⟩ := Int.eq_ofNat_of_zero_le h3
  have hk : k = 1 ∨ k = 2 ∨ k = 3 ∨ k = 4 := by omega
  unfold frRest at h5
  simp only at h5
  rcases hk with rfl | rfl | rfl | rfl
  · simp only [if_true, Bool.and_eq_true, decide_eq_true_eq, List.length_eq_zero_iff] at h5
    obtain ⟨rfl, rfl, hc, hv⟩ := h5
    have hp : (idPut c).1 = vput c.length ++ c := by unfold idPut; rw [if_pos hc]
    cases on with
    | false =>
      simp only [Bool.false_eq_true, if_false] at hv
      obtain rfl := vSame_iff.1 hv
      have e := idTake_at hc (a ++ [0]) []
      have e' : idTake (a ++ 0 :: (vput c.length ++ c)) ((a.length : Int) + 1) = (c, (a ++ [0]).length + (vput c.length ++ c).length, 0) := by
        rw [← e]
        congr 1
        · simp
        · simp
      unfold frReadAt frBody
      simp [hp, e']
      omega
    | true =>
      simp only [if_true] at hv
      have e := idTake_at hc (a ++ [1]) (vaBytes v)
      have e' : idTake (a ++ 1 :: (vput c.length ++ (c ++ vaBytes v))) ((a.length : Int) + 1) = (c, (a ++ [1]).length + (vput c.length ++ c).length, 0) := by
        rw [← e]
        congr 1
        · simp
        · simp
      have g := vaTake_put hv (a ++ 1 :: (vput c.length ++ c)) []
      have g' : vaTake (a ++ 1 :: (vput c.length ++ (c ++ vaBytes v))) (((a ++ [1]).length + (vput c.length ++ c).length : Nat) : Int) = (v, (a ++ 1 :: (vput c.length ++ c)).length + (vaBytes v).length, 0) := by
        rw [← g]
        congr 1
        · simp
        · simp only [List.length_append, List.length_cons, List.length_nil]
          omega
      unfold frReadAt frBody
      simp only [if_true, hp, List.append_assoc, e', g']
      simp
      omega
  · simp only [show ¬ (2 : Int) = 1 by omega, if_false, if_true, Bool.and_eq_true, decide_eq_true_eq, List.length_eq_zero_iff, Bool.not_eq_true', beq_iff_eq] at h5
    obtain ⟨⟨rfl, rfl, hv⟩, rfl⟩ := h5
    obtain rfl := vSame_iff.1 hv
    unfold frReadAt frBody
    simp [be8]
    exact sum8_be8 sum hs
  · simp only [show ¬ (3 : Int) = 1 by omega, show ¬ (3 : Int) = 2 by omega, if_false, if_true, Bool.and_eq_true, decide_eq_true_eq, Bool.not_eq_true', beq_iff_eq] at h5
    obtain ⟨⟨rfl, rfl, hv⟩, rfl, ht⟩ := h5
    obtain rfl := vSame_iff.1 hv
    have e := diTake_put ht a []
    rw [List.append_nil] at e
    have hp : (diPut t).1 = diBytes t := by unfold diPut; rw [if_pos ht]
    unfold frReadAt frBody
    simp [hp, e]
  · simp only [show ¬ (4 : Int) = 1 by omega, show ¬ (4 : Int) = 2 by omega, show ¬ (4 : Int) = 3 by omega, if_false, Bool.and_eq_true, decide_eq_true_eq, List.length_eq_zero_iff, Bool.not_eq_true', beq_iff_eq] at h5
    obtain ⟨⟨rfl, rfl, hv⟩, rfl, rfl⟩ := h5
    obtain rfl := vSame_iff.1 hv
    unfold frReadAt frBody
    simp

theorem frRead_plain {f : Frm} (h : frMay f = true) (hs : f.sum < 18446744073709551616) : frRead (frPlain f) = f := by
  have ho := frMay_iff.1 h
  have hk1 := ho.k1
  have hk4 := ho.k4
  have hs1 := ho.s1
  have hb := frReadAt_body ho hs (u8of f.k.toNat :: vput f.s.toNat)
  have hx : (u8of f.k.toNat).toNat = f.k.toNat := u8of_toNat (by omega)
  have hg := vget_vput f.s.toNat (by omega) [u8of f.k.toNat] (frBody f)
  simp only [List.length_singleton, List.cons_append, List.nil_append] at hg
  have hg' : vget (u8of f.k.toNat :: (vput f.s.toNat ++ frBody f)) 1 = (f.s.toNat, 1 + (vput f.s.toNat).length, 0) := hg
  unfold frPlain frRead
  simp only [hg', hx]
  rw [if_neg (by omega)]
  simp only [List.length_cons, List.cons_append] at hb
  rw [Nat.add_comm 1]
  exact hb

/-- Decode: the frame of which these are the sealed bytes. -/
def frDec (s : List UInt8) : Frm × Nat :=
  if (copen s).2 ≠ 0 then (Frm.zero, (copen s).2)
  else match frTake (copen s).1 with
    | some f => if frMay f = true ∧ frPlain f = (copen s).1 then (f, 0) else (Frm.zero, 3)
    | none => (Frm.zero, 3)

/-- .. as the document says it. -/
def frDoc (s : List UInt8) : Frm × Nat :=
  if (copen s).2 ≠ 0 then (Frm.zero, (copen s).2)
  else if frMay (frRead (copen s).1) = true ∧ cseal (frPlain (frRead (copen s).1)) = s then (frRead (copen s).1, 0) else (Frm.zero, 3)

theorem frDec_plain {s : List UInt8} {f : Frm} (hf : frMay f = true) (hs : f.sum < 18446744073709551616) (h : cseal (frPlain f) = s) : frDec s = (f, 0) ∧ frDoc s = (f, 0) := by
  subst h
  unfold frDec frDoc
  rw [copen_seal]
  simp only [frTake_plain hf hs, frRead_plain hf hs, hf]
  simp

theorem sum8_lt : ∀ (l : List UInt8) (a : Nat), l.foldl (fun a b => a * 256 + b.toNat) a < (a + 1) * 256 ^ l.length
  | [], a => by simp
  | b :: r, a => by
    have h := sum8_lt r (a * 256 + b.toNat)
    have hb : b.toNat < 256 := b.toNat_lt
    rw [List.foldl_cons, List.length_cons, Nat.pow_succ]
    refine Nat.lt_of_lt_of_le h ?_
    rw [Nat.mul_comm (256 ^ r.length) 256, ← Nat.mul_assoc]
    exact Nat.mul_le_mul_right _ (by omega)

theorem sum8_take (l : List UInt8) : sum8 (l.take 8) < 18446744073709551616 := by
  have h := sum8_lt (l.take 8) 0
  have h2 : 256 ^ (l.take 8).length ≤ 256 ^ 8 := Nat.pow_le_pow_right (by omega) (by rw [List.length_take]; omega)
  unfold sum8
  omega

theorem frTake_sum {l : List UInt8} {f : Frm} (h : frTake l = some f) : f.sum < 18446744073709551616 := by
  unfold frTake at h
  split at h
  · cases h
  · split at h
    · cases h
    · split at h
      · cases h
      · unfold frTakeBody at h
        repeat' split at h
        all_goals (first | (cases h; done) | (obtain rfl := Option.some.inj h; first | exact sum8_take _ | (simp only; omega)))

theorem frRead_sum (l : List UInt8) : (frRead l).sum < 18446744073709551616 := by
  unfold frRead
  split
  · simp [Frm.zero]
  · split
    · simp [Frm.zero]
    · unfold frReadAt
      repeat' split
      all_goals (first | exact sum8_take _ | simp [Frm.zero])

/-- The code's Decode and the document's are one. -/
theorem frDec_doc (s : List UInt8) : frDec s = frDoc s := by
  by_cases he : (copen s).2 = 0
  · have hc : copen s = ((copen s).1, 0) := by rw [← he]
    have hs := copen_ok hc
    by_cases hd : ∃ f, frTake (copen s).1 = some f ∧ frMay f = true ∧ frPlain f = (copen s).1
    · obtain ⟨f, h1, h2, h3⟩ := hd
      have := frDec_plain h2 (frTake_sum h1) (s := s) (by rw [h3]; exact hs)
      rw [this.1, this.2]
    · have e1 : frDec s = (Frm.zero, 3) := by
        unfold frDec
        rw [if_neg (by simp [he])]
        split
        · rename_i f hf
          rw [if_neg (fun h => hd ⟨f, hf, h.1, h.2⟩)]
        · rfl
      by_cases h : frMay (frRead (copen s).1) = true ∧ cseal (frPlain (frRead (copen s).1)) = s
      · have := (frDec_plain h.1 (frRead_sum _) h.2).1
        rw [e1] at this
        simp at this
      · rw [e1]
        unfold frDoc
        rw [if_neg (by simp [he]), if_neg h]
  · unfold frDec frDoc
    rw [if_pos he, if_pos he]

end Go.Proofs.Ytekkofldhhdpgaa

end

section

/-
  LAYER 6, PLAIN: how long a frame's bytes are.
-/
namespace Go.Proofs.Ytekkofldhhdpgaa

theorem idPut_lenS (c : List UInt8) : (idPut c).1.length ≤ 26 := by
  unfold idPut
  by_cases h : idIs c = true
  · rw [if_pos h]
    have := (idIs_parts h).2.1
    have := vput_len_le c.length
    simp only [List.length_append]
    omega
  · rw [if_neg h]
    simp

theorem frBody_len {f : Frm} (h : FrOk f) : (frBody f).length ≤ 1985 := by
  have hr := h.rest
  unfold frRest at hr
  unfold frBody
  by_cases h1 : f.k = 1
  · rw [if_pos h1] at hr ⊢
    simp only [Bool.and_eq_true] at hr
    have hi := idPut_lenS f.c
    cases ho : f.on with
    | false => simp; omega
    | true =>
      rw [ho] at hr
      simp only [if_true] at hr
      have := vaBytes_len hr.2.2.2
      have := (vaMay_parts hr.2.2.2).2.2.2.2.2.2
      have := vput_len_le f.v.si.toNat
      simp
      omega
  · rw [if_neg h1]
    by_cases h2 : f.k = 2
    · rw [if_pos h2]; simp [be8]
    · rw [if_neg h2]
      by_cases h3 : f.k = 3
      · rw [if_pos h3]; exact diPut_len f.t
      · rw [if_neg h3]; simp

theorem frPlain_len {f : Frm} (h : frMay f = true) : 2 ≤ (frPlain f).length ∧ (frPlain f).length ≤ 1996 := by
  have hb := frBody_len (frMay_iff.1 h)
  have h1 := vput_len_le f.s.toNat
  have h2 := vput_len_pos f.s.toNat
  unfold frPlain
  simp only [List.length_cons, List.length_append]
  omega

/-- A table with its last row away. -/
theorem may_less {t : List Row} (h : diMay t = true) : diMay (t.take (t.length - 1)) = true := by
  obtain ⟨h1, h2, h3⟩ := diMay_iff.1 h
  refine diMay_iff.2 ⟨by rw [List.length_take]; omega, fun r hr => h2 r (List.mem_of_mem_take hr), ?_⟩
  exact List.Pairwise.sublist (List.take_sublist _ _) h3

theorem bytes_less {t : List Row} (h : diMay t = true) (hn : 0 < t.length) : (diBytes (t.take (t.length - 1))).length < (diBytes t).length := by
  obtain ⟨h1, _, _⟩ := diMay_iff.1 h
  have e : rowsBytes t = rowsBytes (t.take (t.length - 1)) ++ rowBytes (t.getD (t.length - 1) Row.zero) := by
    have := rowsBytes_succ (t := t) (k := t.length - 1) (by omega)
    rw [show t.length - 1 + 1 = t.length by omega, List.take_length] at this
    exact this
  have hp := vput_len_pos (t.getD (t.length - 1) Row.zero).c.length
  unfold diBytes
  rw [e, List.length_append, List.length_append, List.length_append, vput_small_len (by rw [List.length_take]; omega), vput_small_len (by omega)]
  unfold rowBytes
  simp only [List.length_append]
  omega

end Go.Proofs.Ytekkofldhhdpgaa

end

section

/-
  LAYER 6, PLAIN: what is encoded, how long it is, and a table with a row less.
-/
namespace Go.Proofs.Ytekkofldhhdpgaa

theorem enc_mayP {f : Frm} (h : frMay f = true) : frEnc f = (cseal (frPlain f), 0) := by unfold frEnc; rw [if_pos h]
theorem enc_notP {f : Frm} (h : frMay f = false) : frEnc f = ([], 1) := by unfold frEnc; rw [if_neg (by rw [h]; decide)]

theorem seal_lenP (l : List UInt8) : (cseal l).length = l.length + 4 := by simp [cseal, low4]

theorem enc_lenP {f : Frm} (h : frMay f = true) : 6 ≤ (cseal (frPlain f)).length ∧ (cseal (frPlain f)).length ≤ 2000 := by
  have := frPlain_len h
  rw [seal_lenP]
  omega

theorem may3_iff {q sum : Nat} {i : Int} {on : Bool} {c : List UInt8} {v : Val} {t : List Row} (_ : q = 0) :
    frMay ⟨3, i, on, c, v, sum, t⟩ = true ↔ ((decide (0 ≤ i) && decide (i ≤ 1099511627776)) = true ∧ (!on && (c == [] && vSame v Val.zero)) = true ∧ decide (sum = 0) = true) ∧ diMay t = true := by
  unfold frMay frRest
  simp only [show ¬ (3 : Int) = 1 by omega, show ¬ (3 : Int) = 2 by omega, if_false, if_true, Bool.and_eq_true]
  constructor
  · rintro ⟨-, h1, h2, h3, h4⟩
    exact ⟨⟨h1, h2, h3⟩, h4⟩
  · rintro ⟨⟨h1, h2, h3⟩, h4⟩
    exact ⟨⟨rfl, rfl⟩, h1, h2, h3, h4⟩

theorem less_may {i : Int} {on : Bool} {c : List UInt8} {v : Val} {sum n : Nat} {t : List Row} (h : frMay ⟨3, i, on, c, v, sum, t⟩ = true) (hn : t.length = n + 1) :
    frMay ⟨3, i, on, c, v, sum, t.take n⟩ = true ∧ (cseal (frPlain ⟨3, i, on, c, v, sum, t.take n⟩)).length < (cseal (frPlain ⟨3, i, on, c, v, sum, t⟩)).length := by
  obtain ⟨h1, h2⟩ := (may3_iff (q := 0) rfl).1 h
  have h3 := may_less h2
  have h4 := bytes_less h2 (by omega)
  rw [hn, Nat.add_sub_cancel] at h3 h4
  refine ⟨(may3_iff (q := 0) rfl).2 ⟨h1, h3⟩, ?_⟩
  rw [seal_lenP, seal_lenP]
  unfold frPlain frBody diPut
  simp only [show ¬ (3 : Int) = 1 by omega, show ¬ (3 : Int) = 2 by omega, if_false, if_true, h2, h3, List.length_cons, List.length_append]
  omega

end Go.Proofs.Ytekkofldhhdpgaa

end

section

/-
  LAYER 19, PLAIN: a client, and what frames make of it.
-/
namespace Go.Proofs.Ytekkofldhhdpgaa

structure Cli where
  t : List Row
  n : Int
  o : Bool

def clMay (c : Cli) : Bool := (decide (0 ≤ c.n) && decide (c.n ≤ 1099511627777)) && diMay c.t

/-- P19.2: not refused, and behind what may be. -/
def clDo (c : Cli) (f : Frm) : Cli :=
  if f.k = 3 then ⟨f.t, f.s + 1, false⟩
  else if (c.o || decide (c.n < f.s)) = true then ⟨c.t, f.s + 1, true⟩
  else if f.k = 2 then ⟨c.t, f.s + 1, !decide (diSum c.t = f.sum)⟩
  else if diMay (diSet c.t ⟨f.c, f.on, f.v⟩) = true then ⟨diSet c.t ⟨f.c, f.on, f.v⟩, f.s + 1, false⟩
  else ⟨c.t, f.s + 1, true⟩

/-- P19.2: whether a frame does anything. -/
def clTakes (c : Cli) (f : Frm) : Bool := (frMay f && !decide (f.k = 4)) && (clMay c && decide (c.n ≤ f.s))

def clFeed (c : Cli) (f : Frm) : Cli := if clTakes c f = true then clDo c f else c

def clSame (a b : Cli) : Bool := decide (a.n = b.n) && ((a.o == b.o) && tSame a.t b.t)

theorem clSame_iff {a b : Cli} : clSame a b = true ↔ a = b := by
  obtain ⟨t, n, o⟩ := a
  obtain ⟨t2, n2, o2⟩ := b
  unfold clSame
  simp only [Bool.and_eq_true, decide_eq_true_eq, beq_iff_eq, tSame_iff, Cli.mk.injEq]
  exact ⟨fun ⟨a, b, c⟩ => ⟨c, a, b⟩, fun ⟨c, a, b⟩ => ⟨a, b, c⟩⟩

theorem clSame_self (a : Cli) : clSame a a = true := clSame_iff.2 rfl

/-- By what a client asks. -/
def clReq (c : Cli) : Frm := ⟨4, if c.n ≤ 1099511627776 then c.n else 1099511627776, false, [], Val.zero, 0, []⟩

def clAsk (c : Cli) : List UInt8 × Bool := if (c.o && clMay c) = true then (cseal (frPlain (clReq c)), true) else ([], false)

def clRead (c : Cli) (s : List UInt8) : Cli × Nat := if (frDec s).2 = 0 then (clFeed c (frDec s).1, 0) else (c, (frDec s).2)

theorem clMay_parts {c : Cli} (h : clMay c = true) : 0 ≤ c.n ∧ c.n ≤ 1099511627777 ∧ diMay c.t = true := by
  unfold clMay at h
  simp only [Bool.and_eq_true, decide_eq_true_eq] at h
  exact ⟨h.1.1, h.1.2, h.2⟩

theorem clMay_of {c : Cli} (h0 : 0 ≤ c.n) (h1 : c.n ≤ 1099511627777) (h2 : diMay c.t = true) : clMay c = true := by
  unfold clMay
  simp [h0, h1, h2]

theorem clReq_may {c : Cli} (h : clMay c = true) : frMay (clReq c) = true := by
  obtain ⟨h0, h1, _⟩ := clMay_parts h
  refine frMay_iff.2 ⟨(by show (1 : Int) ≤ 4; decide), (by show (4 : Int) ≤ 4; decide), ?_, ?_, ?_⟩
  · show 0 ≤ (if c.n ≤ 1099511627776 then c.n else 1099511627776)
    split <;> omega
  · show (if c.n ≤ 1099511627776 then c.n else 1099511627776) ≤ 1099511627776
    split <;> omega
  · unfold frRest clReq
    simp [vSame_self]

theorem clTakes_parts {c : Cli} {f : Frm} (h : clTakes c f = true) : frMay f = true ∧ ¬ f.k = 4 ∧ clMay c = true ∧ c.n ≤ f.s := by
  unfold clTakes at h
  simp only [Bool.and_eq_true, decide_eq_true_eq, Bool.not_eq_true', decide_eq_false_iff_not] at h
  exact ⟨h.1.1, h.1.2, h.2.1, h.2.2⟩

theorem clTakes_of {c : Cli} {f : Frm} (h1 : frMay f = true) (h2 : ¬ f.k = 4) (h3 : clMay c = true) (h4 : c.n ≤ f.s) : clTakes c f = true := by
  unfold clTakes
  simp [h1, h2, h3, h4]

theorem clDo_n (c : Cli) (f : Frm) : (clDo c f).n = f.s + 1 := by
  unfold clDo
  split
  · rfl
  · split
    · rfl
    · split
      · rfl
      · split <;> rfl

theorem frTable_may {f : Frm} (h : frMay f = true) (hk : f.k = 3) : diMay f.t = true := by
  have := (frMay_iff.1 h).rest
  unfold frRest at this
  rw [if_neg (by omega), if_neg (by omega), if_pos hk] at this
  simp only [Bool.and_eq_true] at this
  exact this.2.2

theorem clDo_may {c : Cli} {f : Frm} (hf : frMay f = true) (hc : clMay c = true) : clMay (clDo c f) = true := by
  have ho := frMay_iff.1 hf
  obtain ⟨_, _, ht⟩ := clMay_parts hc
  have hn := clDo_n c f
  refine clMay_of (by have := ho.s0; omega) (by have := ho.s1; omega) ?_
  unfold clDo
  split
  · rename_i h; exact frTable_may hf h
  · split
    · exact ht
    · split
      · exact ht
      · split
        · assumption
        · exact ht

theorem clFeed_may {c : Cli} (f : Frm) (hc : clMay c = true) : clMay (clFeed c f) = true := by
  unfold clFeed
  split
  · rename_i h; exact clDo_may (clTakes_parts h).1 hc
  · exact hc

theorem clFeed_n (c : Cli) (f : Frm) : c.n ≤ (clFeed c f).n := by
  unfold clFeed
  split
  · rename_i h
    have := (clTakes_parts h).2.2.2
    rw [clDo_n]
    omega
  · exact Int.le_refl _

/-- A frame that does nothing to a client whose Next is not less. -/
def clPast (n : Int) (f : Frm) : Prop := frMay f = true → ¬ f.k = 4 → f.s < n

theorem clPast_feed {c : Cli} {f : Frm} (h : clPast c.n f) : clFeed c f = c := by
  unfold clFeed
  split
  · rename_i ht
    obtain ⟨h1, h2, _, h4⟩ := clTakes_parts ht
    have := h h1 h2
    omega
  · rfl

theorem clPast_mono {n m : Int} {f : Frm} (h : clPast n f) (hm : n ≤ m) : clPast m f := fun a b => by have := h a b; omega

theorem clPast_self {c : Cli} (f : Frm) (hc : clMay c = true) : clPast (clFeed c f).n f := by
  intro h1 h2
  unfold clFeed
  split
  · rw [clDo_n]; omega
  · rename_i h
    by_cases h4 : c.n ≤ f.s
    · exact absurd (clTakes_of h1 h2 hc h4) h
    · omega

def Cli.new : Cli := ⟨[], 0, false⟩

theorem clMay_new : clMay Cli.new = true := by decide

theorem clRead_err {c : Cli} {s : List UInt8} {e : Nat} {f : Frm} (h : frDec s = (f, e)) (he : e ≠ 0) : clRead c s = (c, e) := by
  unfold clRead
  rw [h, if_neg he]

theorem clRead_ok {c : Cli} {s : List UInt8} {f : Frm} (h : frDec s = (f, 0)) : clRead c s = (clFeed c f, 0) := by
  unfold clRead
  rw [h, if_pos rfl]

/-- P19.4, of frames whose numbers rise: what the law keeps beside the client. -/
def GapsAt (c : Cli) (out : Bool) (next : Int) (t : List Row) : Prop := clMay c = true ∧ c.o = out ∧ c.n = next ∧ diMay t = true ∧ (out = false → c.t = t)

theorem gaps_new : GapsAt Cli.new false 0 [] := ⟨clMay_new, rfl, rfl, by decide, fun _ => rfl⟩

theorem gaps_snap {c : Cli} {out : Bool} {next : Int} {t : List Row} {f : Frm} (h : GapsAt c out next t) (hf : frMay f = true) (hk : f.k = 3) (hs : next ≤ f.s) : GapsAt (clFeed c f) false (f.s + 1) f.t := by
  obtain ⟨h1, h2, h3, h4, h5⟩ := h
  have ht := clTakes_of hf (by omega) h1 (by omega : c.n ≤ f.s)
  have e : clFeed c f = ⟨f.t, f.s + 1, false⟩ := by unfold clFeed clDo; rw [if_pos ht, if_pos hk]
  exact ⟨clFeed_may f h1, by rw [e], by rw [e], frTable_may hf hk, fun _ => by rw [e]⟩

theorem gaps_gap {c : Cli} {out : Bool} {next : Int} {t : List Row} {f : Frm} (h : GapsAt c out next t) (hf : frMay f = true) (hk : ¬ f.k = 3) (hk4 : ¬ f.k = 4) (hs : next < f.s) : GapsAt (clFeed c f) true (f.s + 1) t := by
  obtain ⟨h1, h2, h3, h4, h5⟩ := h
  have ht := clTakes_of hf hk4 h1 (by omega : c.n ≤ f.s)
  have e : clFeed c f = ⟨c.t, f.s + 1, true⟩ := by
    unfold clFeed clDo
    rw [if_pos ht, if_neg hk, if_pos]
    simp; right; omega
  exact ⟨clFeed_may f h1, by rw [e], by rw [e], h4, fun h => by cases h⟩

theorem gaps_out {c : Cli} {next : Int} {t : List Row} {f : Frm} (h : GapsAt c true next t) (hf : frMay f = true) (hk : ¬ f.k = 3) (hk4 : ¬ f.k = 4) (hs : next ≤ f.s) : GapsAt (clFeed c f) true (f.s + 1) t := by
  obtain ⟨h1, h2, h3, h4, h5⟩ := h
  have ht := clTakes_of hf hk4 h1 (by omega : c.n ≤ f.s)
  have e : clFeed c f = ⟨c.t, f.s + 1, true⟩ := by
    unfold clFeed clDo
    rw [if_pos ht, if_neg hk, if_pos]
    simp [h2]
  exact ⟨clFeed_may f h1, by rw [e], by rw [e], h4, fun h => by cases h⟩

theorem gaps_sum {c : Cli} {t : List Row} {f : Frm} (h : GapsAt c false f.s t) (hf : frMay f = true) (hk : f.k = 2) : GapsAt (clFeed c f) (!decide (diSum t = f.sum)) (f.s + 1) t := by
  obtain ⟨h1, h2, h3, h4, h5⟩ := h
  have ht := clTakes_of hf (by omega) h1 (by omega : c.n ≤ f.s)
  have e : clFeed c f = ⟨c.t, f.s + 1, !decide (diSum t = f.sum)⟩ := by
    unfold clFeed clDo
    rw [if_pos ht, if_neg (by omega), if_neg (by simp [h2]; omega), if_pos hk, h5 rfl]
  exact ⟨clFeed_may f h1, by rw [e], by rw [e], h4, fun _ => by rw [e]; exact h5 rfl⟩

theorem gaps_row {c : Cli} {t : List Row} {f : Frm} (h : GapsAt c false f.s t) (hf : frMay f = true) (hk : f.k = 1) :
    (diMay (diSet t ⟨f.c, f.on, f.v⟩) = true → GapsAt (clFeed c f) false (f.s + 1) (diSet t ⟨f.c, f.on, f.v⟩)) ∧
    (diMay (diSet t ⟨f.c, f.on, f.v⟩) = false → GapsAt (clFeed c f) true (f.s + 1) t) := by
  obtain ⟨h1, h2, h3, h4, h5⟩ := h
  have ht := clTakes_of hf (by omega) h1 (by omega : c.n ≤ f.s)
  have e0 : clFeed c f = if diMay (diSet t ⟨f.c, f.on, f.v⟩) = true then ⟨diSet t ⟨f.c, f.on, f.v⟩, f.s + 1, false⟩ else ⟨c.t, f.s + 1, true⟩ := by
    unfold clFeed clDo
    rw [if_pos ht, if_neg (by omega), if_neg (by simp [h2]; omega), if_neg (by omega), h5 rfl]
  constructor
  · intro hm
    have e := e0.trans (if_pos hm)
    exact ⟨clFeed_may f h1, by rw [e], by rw [e], hm, fun _ => by rw [e]⟩
  · intro hm
    have e := e0.trans (if_neg (by rw [hm]; decide))
    exact ⟨clFeed_may f h1, by rw [e], by rw [e], h4, fun h => by cases h⟩

end Go.Proofs.Ytekkofldhhdpgaa

end

section

/-
  THE CONTRACT OF digest.firsts: a map of the call's own, from each Contact to its first row.
-/
namespace Go.Proofs.Ytekkofldhhdpgaa
open Go.RowKit Go.ChangeMaps Go.MapKept

/-- How a row reads as a map's element. -/
def seenData (r : Row) : DataW Unit := .agg [.lit (.string r.c), .lit (.int .i64 r.v.sh), .lit (.int .i64 r.v.pr), .lit (.int .i64 r.v.si), .lit (.string r.v.st)]

def seenElem : Value → Option (DataW Unit × List MemPlace)
  | .agg cs => match cs.toList with
    | [.string c, .int .i64 x, .int .i64 y, .int .i64 z, .string s] => some (seenData ⟨c.data.toList, x, y, z, s.data.toList⟩, [])
    | _ => none
  | _ => none

/-- The row that a Contact's key stands for. -/
def firstRow (t : List Row) (x : List UInt8) : Row := if (diGet t x).2 = true then ⟨x, (diGet t x).1⟩ else Row.zero

/-- Block B is a map that holds of each Contact of t the first row. -/
def FirstsAt (w : World) (B : Nat) (t : List Row) : Prop :=
  ∃ n, ∃ D : DataW Unit, n ≤ t.length ∧ w.ownsMap Try.prog 9 seenElem B n D ∧
    ∀ x : List UInt8, Maps.has D (.string x) = (diGet t x).2 ∧ D.atKey (.string x) (seenData Row.zero) = seenData (firstRow t x)

theorem FirstsAt.lt {w : World} {B : Nat} {t : List Row} (h : FirstsAt w B t) : B < w.heap.size := by
  obtain ⟨_, _, _, h, _⟩ := h
  exact h.lt

theorem FirstsAt.later {w w' : World} {B : Nat} {t : List Row} (h : FirstsAt w B t) (hb : Below w.heap.size w w') : FirstsAt w' B t := by
  have hlt := h.lt
  obtain ⟨n, D, h1, ⟨es, clock, h2, h3, h4, h5⟩, h6⟩ := h
  exact ⟨n, D, h1, ⟨es, clock, (hb.block B hlt).trans h2, h3, h4, h5⟩, h6⟩

end Go.Proofs.Ytekkofldhhdpgaa

end

section

/-
  LISTS OF CHANGES IN MEMORY: rows of six cells.
-/
namespace Go.Proofs.Ytekkofldhhdpgaa
open Go.RowKit

def Chg.zero : Chg := ⟨[], false, Val.zero⟩

def chgVals (r : Chg) : List Value := [.string ⟨r.c.toArray⟩, .bool r.on, .int .i64 r.v.sh, .int .i64 r.v.pr, .int .i64 r.v.si, .string ⟨r.v.st.toArray⟩]

def Cells6 (w : World) (b o : Nat) (r : Chg) : Prop :=
  w.cell? ⟨b, o, none⟩ = some (.string ⟨r.c.toArray⟩) ∧ w.cell? ⟨b, o + 1, none⟩ = some (.bool r.on) ∧ w.cell? ⟨b, o + 2, none⟩ = some (.int .i64 r.v.sh) ∧ w.cell? ⟨b, o + 3, none⟩ = some (.int .i64 r.v.pr) ∧
    w.cell? ⟨b, o + 4, none⟩ = some (.int .i64 r.v.si) ∧ w.cell? ⟨b, o + 5, none⟩ = some (.string ⟨r.v.st.toArray⟩)

theorem Cells6.later {w w' : World} {b o : Nat} {r : Chg} (h : Cells6 w b o r) (hb : Below w.heap.size w w') (hlt : b < w.heap.size) : Cells6 w' b o r := by
  obtain ⟨h0, h1, h2, h3, h4, h5⟩ := h
  have k : ∀ o, w'.cell? ⟨b, o, none⟩ = w.cell? ⟨b, o, none⟩ := fun o => hb.cell (p := ⟨b, o, none⟩) hlt
  exact ⟨(k _).trans h0, (k _).trans h1, (k _).trans h2, (k _).trans h3, (k _).trans h4, (k _).trans h5⟩

/-- Which changes a slice holds. -/
def Chgs (w : World) (v : Value) (t : List Chg) : Prop :=
  ∃ a cap, v = .slice a t.length cap ∧ t.length ≤ cap ∧ cap ≤ maxLen ∧ (a = none → cap = 0) ∧
    (t = [] ∨ ∃ b off, a = some ⟨b, off, none⟩ ∧ b < w.heap.size ∧ ∀ i, i < t.length → Cells6 w b (off + i * 6) (t.getD i Chg.zero))

theorem Chgs.later {w w' : World} {v : Value} {t : List Chg} (h : Chgs w v t) (hb : Below w.heap.size w w') : Chgs w' v t := by
  obtain ⟨a, cap, h1, h2, h3, h4, h5⟩ := h
  refine ⟨a, cap, h1, h2, h3, h4, ?_⟩
  rcases h5 with h5 | ⟨b, off, e, hlt, hc⟩
  · exact .inl h5
  · exact .inr ⟨b, off, e, Nat.lt_of_lt_of_le hlt hb.size, fun i hi => (hc i hi).later hb hlt⟩

/-- A change of a list, in a later world. -/
theorem Chgs.row {w wr : World} {a : Option Addr} {n cap : Nat} {t : List Chg} (h : Chgs w (.slice a n cap) t) (hb : Below w.heap.size w wr) (k : Nat) (hk : k < t.length) :
    ∃ b off, a = some ⟨b, off, none⟩ ∧ Cells6 wr b (off + k * 6) (t.getD k Chg.zero) := by
  obtain ⟨a', cap', e, _, _, _, h⟩ := h.later hb
  simp only [Value.slice.injEq] at e
  rcases h with h | ⟨b, off, e', _, hc⟩
  · rw [h] at hk; simp at hk
  · exact ⟨b, off, e.1.trans e', hc k hk⟩

theorem Chgs.open' {w : World} {v : Value} {t : List Chg} (h : Chgs w v t) : ∃ a cap, v = .slice a t.length cap ∧ t.length ≤ 9223372036854775807 := by
  obtain ⟨a, cap, e, h1, h2, _⟩ := h
  unfold maxLen at h2
  exact ⟨a, cap, e, by omega⟩

/-- The cells of rows, one row behind the other. -/
def cellsOfC (t : List Chg) : List Value := (t.map chgVals).flatten

/-- A list of changes of the call's own. -/
def OwnC (w : World) (base : Nat) (v : Value) (t : List Chg) : Prop := w.ownsRow base 45 6 v t.length (cellsOfC t)

theorem OwnC.alloc {w : World} {base : Nat} {v : Value} {t : List Chg} (h : OwnC w base v t) (o : Obj) : OwnC (w.alloc o) base v t := World.ownsRow.alloc h o

theorem OwnC.later {w w' : World} {base : Nat} {v : Value} {t : List Chg} (h : OwnC w base v t) (hb : Below w.heap.size w w') : OwnC w' base v t := by
  refine ⟨h.1, ?_⟩
  rcases h.2 with h' | ⟨g, cap, cur, h1, h2, h3, h4⟩
  · exact .inl h'
  · exact .inr ⟨g, cap, cur, h1, h2, by rw [hb.block g (Array.getElem?_eq_some_iff.1 h3).1]; exact h3, h4⟩

end Go.Proofs.Ytekkofldhhdpgaa

end
