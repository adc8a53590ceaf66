/-
  TEXTS OF THE PROOF, one behind the other: FraPure, FraFrame, DigMap, DigChgs, FraMay.
-/
import Derived.Test.YtohfhphiofobcaaS01
import Derived.Test.YtohfhphiofobcaaS07
import Derived.Maps.OwnSet
import Derived.Deep.RegionHeld3
import Derived.Laws.EntriesVeiled

set_option linter.unusedVariables false

section

/-
  LAYER 6, PLAIN: frames, their bytes, and what is taken of bytes.
-/
namespace Go.Proofs.Ytohfhphiofobcaa

structure Frm where
  k : Int
  s : Int
  on : Bool
  c : List UInt8
  v : Val
  sum : Nat
  t : List Row

def Frm.zero : Frm := ⟨0, 0, false, [], Val.zero, 0, []⟩

/-- What P6.1 asks, all but Kind and Seq. -/
def frRest (f : Frm) : Bool :=
  if f.k = 1 then decide (f.sum = 0) && (decide (f.t.length = 0) && (idIs f.c && (if f.on = true then vaMay f.v else vSame f.v Val.zero)))
  else if f.k = 2 then (!f.on && (f.c == [] && vSame f.v Val.zero)) && decide (f.t.length = 0)
  else if f.k = 3 then (!f.on && (f.c == [] && vSame f.v Val.zero)) && (decide (f.sum = 0) && diMay f.t)
  else (!f.on && (f.c == [] && vSame f.v Val.zero)) && (decide (f.sum = 0) && decide (f.t.length = 0))

def frMay (f : Frm) : Bool := (decide (1 ≤ f.k) && decide (f.k ≤ 4)) && ((decide (0 ≤ f.s) && decide (f.s ≤ 1099511627776)) && frRest f)

/-- Eight bytes, the highest one first. -/
def be8 (n : Nat) : List UInt8 := [u8of (n / 72057594037927936 % 256), u8of (n / 281474976710656 % 256), u8of (n / 1099511627776 % 256), u8of (n / 4294967296 % 256), u8of (n / 16777216 % 256), u8of (n / 65536 % 256), u8of (n / 256 % 256), u8of (n % 256)]

def frBody (f : Frm) : List UInt8 :=
  if f.k = 1 then (if f.on = true then 1 :: ((idPut f.c).1 ++ vaBytes f.v) else 0 :: (idPut f.c).1)
  else if f.k = 2 then be8 f.sum
  else if f.k = 3 then (diPut f.t).1
  else []

/-- A frame's bytes, without a seal. -/
def frPlain (f : Frm) : List UInt8 := u8of f.k.toNat :: (vput f.s.toNat ++ frBody f)

def frEnc (f : Frm) : List UInt8 × Nat := if frMay f = true then (cseal (frPlain f), 0) else ([], 1)

/-- A number out of bytes, the highest one first. -/
def sum8 (l : List UInt8) : Nat := l.foldl (fun a b => a * 256 + b.toNat) 0

def frTakeBody (k : Nat) (s : Nat) (b : List UInt8) : Option Frm :=
  if k = 1 then
    (if b.length = 0 then none
     else if (idTake b 1).2.2 ≠ 0 then none
     else if b.getD 0 0 = 0 then some ⟨1, s, false, (idTake b 1).1, Val.zero, 0, []⟩
     else if (vaTake b (idTake b 1).2.1).2.2 ≠ 0 then none
     else some ⟨1, s, true, (idTake b 1).1, (vaTake b (idTake b 1).2.1).1, 0, []⟩)
  else if k = 2 then (if b.length < 8 then none else some ⟨2, s, false, [], Val.zero, sum8 (b.take 8), []⟩)
  else if k = 3 then (if (diTake b 0).2.2 ≠ 0 then none else some ⟨3, s, false, [], Val.zero, 0, (diTake b 0).1⟩)
  else some ⟨k, s, false, [], Val.zero, 0, []⟩

/-- What is taken of bytes: a frame, or something near it. -/
def frTake (l : List UInt8) : Option Frm :=
  match l with
  | [] => none
  | x :: r => if x.toNat < 1 ∨ 4 < x.toNat then none else if (vget (x :: r) 1).2.2 ≠ 0 then none else frTakeBody x.toNat (vget (x :: r) 1).1 ((x :: r).drop (vget (x :: r) 1).2.1)

theorem sum8_be8 (n : Nat) (h : n < 18446744073709551616) : sum8 (be8 n) = n := by
  unfold sum8 be8
  simp only [List.foldl_cons, List.foldl_nil]
  rw [u8of_toNat (by omega), u8of_toNat (by omega), u8of_toNat (by omega), u8of_toNat (by omega), u8of_toNat (by omega), u8of_toNat (by omega), u8of_toNat (by omega), u8of_toNat (by omega)]
  omega

structure FrOk (f : Frm) : Prop where
  k1 : 1 ≤ f.k
  k4 : f.k ≤ 4
  s0 : 0 ≤ f.s
  s1 : f.s ≤ 1099511627776
  rest : frRest f = true

theorem frMay_iff {f : Frm} : frMay f = true ↔ FrOk f := by
  unfold frMay
  simp only [Bool.and_eq_true, decide_eq_true_eq]
  exact ⟨fun ⟨⟨a, b⟩, ⟨c, d⟩, e⟩ => ⟨a, b, c, d, e⟩, fun ⟨a, b, c, d, e⟩ => ⟨⟨a, b⟩, ⟨c, d⟩, e⟩⟩

theorem frTakeBody_body {f : Frm} (h : FrOk f) (hs : f.sum < 18446744073709551616) : frTakeBody f.k.toNat f.s.toNat (frBody f) = some f := by
  obtain ⟨k, s, on, c, v, sum, t⟩ := f
  obtain ⟨h1, h2, h3, h4, h5⟩ := h
  simp only at h1 h2 h3 h4 hs
  obtain ⟨s, rfl⟩ := Int.eq_ofNat_of_zero_le h3
  have hk : k = 1 ∨ k = 2 ∨ k = 3 ∨ k = 4 := by omega
  unfold frRest at h5
  simp only at h5
  rcases hk with rfl | rfl | rfl | rfl
  · simp only [if_true, Bool.and_eq_true, decide_eq_true_eq, List.length_eq_zero_iff] at h5
    obtain ⟨rfl, rfl, hc, hv⟩ := h5
    have hp : (idPut c).1 = vput c.length ++ c := by unfold idPut; rw [if_pos hc]
    cases on with
    | false =>
      simp only [Bool.false_eq_true, if_false] at hv
      obtain rfl := vSame_iff.1 hv
      have e := idTake_at hc [0] []
      simp only [List.append_nil, List.length_singleton, List.cons_append, List.nil_append] at e
      have e' : idTake (0 :: (vput c.length ++ c)) 1 = (c, 1 + (vput c.length ++ c).length, 0) := e
      unfold frTakeBody frBody
      simp [hp, e']
    | true =>
      simp only [if_true] at hv
      have e := idTake_at hc [1] (vaBytes v)
      simp only [List.length_singleton, List.cons_append, List.nil_append] at e
      have e' : idTake (1 :: ((vput c.length ++ c) ++ vaBytes v)) 1 = (c, 1 + (vput c.length ++ c).length, 0) := e
      have g := vaTake_put hv (1 :: (vput c.length ++ c)) []
      rw [List.append_nil, List.cons_append] at g
      have g' : vaTake (1 :: ((vput c.length ++ c) ++ vaBytes v)) ((1 + (vput c.length ++ c).length : Nat) : Int) = (v, (1 :: (vput c.length ++ c)).length + (vaBytes v).length, 0) := by
        rw [← g]
        congr 1
        simp only [List.length_cons]
        omega
      unfold frTakeBody frBody
      simp only [if_true, hp, e', g']
      simp
  · simp only [show ¬ (2 : Int) = 1 by omega, if_false, if_true, Bool.and_eq_true, decide_eq_true_eq, List.length_eq_zero_iff, Bool.not_eq_true', beq_iff_eq] at h5
    obtain ⟨⟨rfl, rfl, hv⟩, rfl⟩ := h5
    obtain rfl := vSame_iff.1 hv
    unfold frTakeBody frBody
    simp [be8]
    exact sum8_be8 sum hs
  · simp only [show ¬ (3 : Int) = 1 by omega, show ¬ (3 : Int) = 2 by omega, if_false, if_true, Bool.and_eq_true, decide_eq_true_eq, Bool.not_eq_true', beq_iff_eq] at h5
    obtain ⟨⟨rfl, rfl, hv⟩, rfl, ht⟩ := h5
    obtain rfl := vSame_iff.1 hv
    have e := diTake_put ht [] []
    simp only [List.nil_append, List.append_nil, List.length_nil] at e
    have e' : diTake (diBytes t) 0 = (t, 0 + (diBytes t).length, 0) := e
    have hp : (diPut t).1 = diBytes t := by unfold diPut; rw [if_pos ht]
    unfold frTakeBody frBody
    simp [hp, e']
  · simp only [show ¬ (4 : Int) = 1 by omega, show ¬ (4 : Int) = 2 by omega, show ¬ (4 : Int) = 3 by omega, if_false, Bool.and_eq_true, decide_eq_true_eq, List.length_eq_zero_iff, Bool.not_eq_true', beq_iff_eq] at h5
    obtain ⟨⟨rfl, rfl, hv⟩, rfl, rfl⟩ := h5
    obtain rfl := vSame_iff.1 hv
    unfold frTakeBody frBody
    simp

/-- What may be is taken of its bytes. -/
theorem frTake_plain {f : Frm} (h : frMay f = true) (hs : f.sum < 18446744073709551616) : frTake (frPlain f) = some f := by
  have ho := frMay_iff.1 h
  have hk1 := ho.k1
  have hk4 := ho.k4
  have hs1 := ho.s1
  have hb := frTakeBody_body ho hs
  have hx : (u8of f.k.toNat).toNat = f.k.toNat := u8of_toNat (by omega)
  have hg := vget_vput f.s.toNat (by omega) [u8of f.k.toNat] (frBody f)
  simp only [List.length_singleton, List.cons_append, List.nil_append] at hg
  have hg' : vget (u8of f.k.toNat :: (vput f.s.toNat ++ frBody f)) 1 = (f.s.toNat, 1 + (vput f.s.toNat).length, 0) := hg
  unfold frPlain frTake
  simp only [hg', hx]
  rw [if_neg (by omega), if_neg (by simp)]
  have hd : (u8of f.k.toNat :: (vput f.s.toNat ++ frBody f)).drop (1 + (vput f.s.toNat).length) = frBody f := by
    rw [Nat.add_comm, List.drop_succ_cons, List.drop_left' rfl]
  rw [hd, hb]

theorem frPlain_inj {f g : Frm} (hf : frMay f = true) (hg : frMay g = true) (hs : f.sum < 18446744073709551616) (ht : g.sum < 18446744073709551616) (h : frPlain f = frPlain g) : f = g := by
  have a := frTake_plain hf hs
  rw [h, frTake_plain hg ht] at a
  exact (Option.some.inj a).symm

end Go.Proofs.Ytohfhphiofobcaa

end

section

/-
  FOR THE FRAMES OF LAYER 6's PROOFS: frames that came in, opened.
-/
namespace Go.Proofs.Ytohfhphiofobcaa
open Go.ChangeShapes Go.WideShapes Go.ChangeAt Go.RowKit Go.Deep

section
variable {H : Type} {enc : TypeId × Value → H} {w : World} {base : Nat} {spare : Nat → Bool} {held : Bool}

theorem trod_tabF {fuel : Nat} {cs : List Value} {z : DataW H × List MemPlace} (hf : DataW.trod enc Try.prog w base spare held fuel 25 cs = some z) :
    ∃ v, cs = [v] ∧ ∃ t : List Row, Tab w v t := by
  rcases open_slice Try.underlying25 hf with ⟨hcs, _⟩ | ⟨x, len, cap, m, n, D', Pl, hcs, _, hl, hm, hmm, _, hi⟩
  · exact ⟨_, hcs, [], tab_nil w⟩
  · refine ⟨_, hcs, ?_⟩
    have hlm : len ≤ m := by rw [hmm]; split <;> omega
    rw [show Try.prog.cellsOf 82 = 5 from by kernel_rfl] at hi
    obtain ⟨t, htl, ht⟩ := choose_rows (n := len) (Q := fun i r => ∀ j u, (rowVals r)[j]? = some u → w.cell? ((x.add (i * 5)).add j) = some u) (fun i hil => by
      obtain ⟨cs', hc, htr⟩ := hi i (by omega)
      obtain ⟨_, hcl, hat⟩ := World.cells?_some hc
      obtain ⟨r, rfl, _, _⟩ := trod_row htr
      refine ⟨r, fun j u hu => ?_⟩
      have hj : j < 5 := by have := (List.getElem?_eq_some_iff.1 hu).1; rwa [rowVals_len] at this
      rw [hat j hj, hu])
    refine ⟨t, ⟨some x, cap, by rw [htl], by omega, by omega, (fun e => by cases e), ?_⟩⟩
    by_cases h0 : len = 0
    · exact .inl (List.length_eq_zero_iff.1 (by omega))
    · obtain ⟨b, off, spot⟩ := x
      have hc := ht 0 (by omega) 0 _ rfl
      have hspot : spot = none := by simpa [Addr.add] using World.cell?_spot hc
      subst hspot
      refine .inr ⟨b, off, rfl, ?_, fun i hil => cells5_of fun j u hu => ?_⟩
      · have := World.block_lt_of_cell? w _ hc
        simpa [Addr.add] using this
      · have := ht i (by omega) j u hu
        rwa [Addr.add_lit, Addr.add_lit] at this

theorem list10F {α : Type} {l : List α} (h : l.length = 10) : ∃ c0 c1 c2 c3 c4 c5 c6 c7 c8 c9, l = [c0, c1, c2, c3, c4, c5, c6, c7, c8, c9] := by
  match l, h with
  | [c0, c1, c2, c3, c4, c5, c6, c7, c8, c9], _ => exact ⟨c0, c1, c2, c3, c4, c5, c6, c7, c8, c9, rfl⟩

theorem trod_u64F {fuel : Nat} {cs : List Value} {x : DataW H × List MemPlace} (h : DataW.trod enc Try.prog w base spare held fuel 24 cs = some x) : ∃ z : Nat, cs = [.int .u64 z] ∧ z < 18446744073709551616 := by
  obtain ⟨z, e, _, hw⟩ := DataW.trod_int Try.underlying24 h
  have hw2 : 0 ≤ z ∧ z < 18446744073709551616 := by
    simp [Lit.wf, IntKind.min, IntKind.max, IntKind.signed, IntKind.bits] at hw
    omega
  obtain ⟨n, rfl⟩ := Int.eq_ofNat_of_zero_le hw2.1
  exact ⟨n, e, by omega⟩

set_option maxRecDepth 100000 in
theorem trod_frame {fuel : Nat} {cs : List Value} {x : DataW H × List MemPlace} (h : DataW.trod enc Try.prog w base spare held fuel 27 cs = some x) :
    ∃ (f : Frm) (v : Value), cs = [.int .i64 f.k, .int .i64 f.s, .bool f.on, .string ⟨f.c.toArray⟩, .int .i64 f.v.sh, .int .i64 f.v.pr, .int .i64 f.v.si, .string ⟨f.v.st.toArray⟩, .int .u64 f.sum, v] ∧ f.c.length ≤ maxLen ∧ f.v.st.length ≤ maxLen ∧ f.sum < 18446744073709551616 ∧ Tab w v f.t := by
  obtain ⟨xs, n, _, _, hl, hx, hf⟩ := DataW.trod_struct Try.underlying27 h
  have cc : Try.prog.cellsOf 27 = 10 := by kernel_rfl
  have ci : Try.prog.cellsOf 3 = 1 := by kernel_rfl
  have cb : Try.prog.cellsOf 4 = 1 := by kernel_rfl
  have cx : Try.prog.cellsOf 9 = 1 := by kernel_rfl
  have cv : Try.prog.cellsOf 23 = 4 := by kernel_rfl
  have cu : Try.prog.cellsOf 24 = 1 := by kernel_rfl
  have cr : Try.prog.cellsOf 25 = 1 := by kernel_rfl
  rw [cc] at hl
  obtain ⟨c0, c1, c2, c3, c4, c5, c6, c7, c8, c9, rfl⟩ := list10F hl
  have get : ∀ i, i < 7 → xs[i]? = some (xs.getD i (.nil, [])) := fun i hi => by
    have : i < xs.length := by rw [hx]; exact hi
    simp [List.getD, List.getElem?_eq_getElem this]
  have f0 : DataW.trod enc Try.prog w base spare held n 3 (([c0, c1, c2, c3, c4, c5, c6, c7, c8, c9].drop 0).take (Try.prog.cellsOf 3)) = some (xs.getD 0 (.nil, [])) := (hf 0 _ rfl).trans (get 0 (by omega))
  rw [ci] at f0
  have f1 : DataW.trod enc Try.prog w base spare held n 3 (([c0, c1, c2, c3, c4, c5, c6, c7, c8, c9].drop 1).take (Try.prog.cellsOf 3)) = some (xs.getD 1 (.nil, [])) := (hf 1 _ rfl).trans (get 1 (by omega))
  rw [ci] at f1
  have f2 : DataW.trod enc Try.prog w base spare held n 4 (([c0, c1, c2, c3, c4, c5, c6, c7, c8, c9].drop 2).take (Try.prog.cellsOf 4)) = some (xs.getD 2 (.nil, [])) := (hf 2 _ rfl).trans (get 2 (by omega))
  rw [cb] at f2
  have f3 : DataW.trod enc Try.prog w base spare held n 9 (([c0, c1, c2, c3, c4, c5, c6, c7, c8, c9].drop 3).take (Try.prog.cellsOf 9)) = some (xs.getD 3 (.nil, [])) := (hf 3 _ rfl).trans (get 3 (by omega))
  rw [cx] at f3
  have f4 : DataW.trod enc Try.prog w base spare held n 23 (([c0, c1, c2, c3, c4, c5, c6, c7, c8, c9].drop 4).take (Try.prog.cellsOf 23)) = some (xs.getD 4 (.nil, [])) := (hf 4 _ rfl).trans (get 4 (by omega))
  rw [cv] at f4
  have f5 : DataW.trod enc Try.prog w base spare held n 24 (([c0, c1, c2, c3, c4, c5, c6, c7, c8, c9].drop 8).take (Try.prog.cellsOf 24)) = some (xs.getD 5 (.nil, [])) := (hf 5 _ rfl).trans (get 5 (by omega))
  rw [cu] at f5
  have f6 : DataW.trod enc Try.prog w base spare held n 25 (([c0, c1, c2, c3, c4, c5, c6, c7, c8, c9].drop 9).take (Try.prog.cellsOf 25)) = some (xs.getD 6 (.nil, [])) := (hf 6 _ rfl).trans (get 6 (by omega))
  rw [cr] at f6
  obtain ⟨z0, e0⟩ := trod_int1 f0
  obtain ⟨z1, e1⟩ := trod_int1 f1
  obtain ⟨z2, e2⟩ := trod_truth f2
  obtain ⟨z3, e3, w3⟩ := trod_text f3
  obtain ⟨z4, e4, w4⟩ := trod_value f4
  obtain ⟨z5, e5, w5⟩ := trod_u64F f5
  obtain ⟨z6, e6, t6, w6⟩ := trod_tabF f6
  simp at e0 e1 e2 e3 e4 e5 e6
  obtain ⟨g1, g2, g3, g4⟩ := e4
  subst e0 e1 e2 e3 g1 g2 g3 g4 e5 e6
  exact ⟨⟨z0, z1, z2, z3, z4, z5, t6⟩, _, rfl, w3, w4, w5, w6⟩

set_option maxRecDepth 100000 in
/-- A frame that came in. -/
theorem open_frame {r : Reach} {b0 : Nat} {v : Value} {d : DataW H} {p : List MemPlace} (hv : Value.okWide Try.prog w r b0 27 v) (h : DataW.Trod enc Try.prog w base spare held 27 v d p) :
    ∃ (f : Frm) (t : Value), v = .agg #[.int .i64 f.k, .int .i64 f.s, .bool f.on, .string ⟨f.c.toArray⟩, .int .i64 f.v.sh, .int .i64 f.v.pr, .int .i64 f.v.si, .string ⟨f.v.st.toArray⟩, .int .u64 f.sum, t] ∧ f.c.length ≤ maxLen ∧ f.v.st.length ≤ maxLen ∧ f.sum < 18446744073709551616 ∧ Tab w t f.t := by
  obtain ⟨cs, rfl, _⟩ := okWide_struct Try.underlying27 hv
  obtain ⟨fuel, hf⟩ := h
  obtain ⟨f, t, hc, ww⟩ := trod_frame hf
  refine ⟨f, t, ?_, ww⟩
  obtain ⟨l⟩ := cs
  simp only [Value.cells] at hc
  rw [hc]

end

end Go.Proofs.Ytohfhphiofobcaa

end

section

/-
  THE CONTRACT OF digest.firsts: a map of the call's own, from each Contact to its first row.
-/
namespace Go.Proofs.Ytohfhphiofobcaa
open Go.RowKit Go.ChangeMaps Go.MapKept

/-- How a row reads as a map's element. -/
def seenData (r : Row) : DataW Unit := .agg [.lit (.string r.c), .lit (.int .i64 r.v.sh), .lit (.int .i64 r.v.pr), .lit (.int .i64 r.v.si), .lit (.string r.v.st)]

def seenElem : Value → Option (DataW Unit × List MemPlace)
  | .agg cs => match cs.toList with
    | [.string c, .int .i64 x, .int .i64 y, .int .i64 z, .string s] => some (seenData ⟨c.data.toList, x, y, z, s.data.toList⟩, [])
    | _ => none
  | _ => none

/-- The row that a Contact's key stands for. -/
def firstRow (t : List Row) (x : List UInt8) : Row := if (diGet t x).2 = true then ⟨x, (diGet t x).1⟩ else Row.zero

/-- Block B is a map that holds of each Contact of t the first row. -/
def FirstsAt (w : World) (B : Nat) (t : List Row) : Prop :=
  ∃ n, ∃ D : DataW Unit, n ≤ t.length ∧ w.ownsMap Try.prog 9 seenElem B n D ∧
    ∀ x : List UInt8, Maps.has D (.string x) = (diGet t x).2 ∧ D.atKey (.string x) (seenData Row.zero) = seenData (firstRow t x)

theorem FirstsAt.lt {w : World} {B : Nat} {t : List Row} (h : FirstsAt w B t) : B < w.heap.size := by
  obtain ⟨_, _, _, h, _⟩ := h
  exact h.lt

theorem FirstsAt.later {w w' : World} {B : Nat} {t : List Row} (h : FirstsAt w B t) (hb : Below w.heap.size w w') : FirstsAt w' B t := by
  have hlt := h.lt
  obtain ⟨n, D, h1, ⟨es, clock, h2, h3, h4, h5⟩, h6⟩ := h
  exact ⟨n, D, h1, ⟨es, clock, (hb.block B hlt).trans h2, h3, h4, h5⟩, h6⟩

end Go.Proofs.Ytohfhphiofobcaa

end

section

/-
  LISTS OF CHANGES IN MEMORY: rows of six cells.
-/
namespace Go.Proofs.Ytohfhphiofobcaa
open Go.RowKit

def Chg.zero : Chg := ⟨[], false, Val.zero⟩

def chgVals (r : Chg) : List Value := [.string ⟨r.c.toArray⟩, .bool r.on, .int .i64 r.v.sh, .int .i64 r.v.pr, .int .i64 r.v.si, .string ⟨r.v.st.toArray⟩]

def Cells6 (w : World) (b o : Nat) (r : Chg) : Prop :=
  w.cell? ⟨b, o, none⟩ = some (.string ⟨r.c.toArray⟩) ∧ w.cell? ⟨b, o + 1, none⟩ = some (.bool r.on) ∧ w.cell? ⟨b, o + 2, none⟩ = some (.int .i64 r.v.sh) ∧ w.cell? ⟨b, o + 3, none⟩ = some (.int .i64 r.v.pr) ∧
    w.cell? ⟨b, o + 4, none⟩ = some (.int .i64 r.v.si) ∧ w.cell? ⟨b, o + 5, none⟩ = some (.string ⟨r.v.st.toArray⟩)

theorem Cells6.later {w w' : World} {b o : Nat} {r : Chg} (h : Cells6 w b o r) (hb : Below w.heap.size w w') (hlt : b < w.heap.size) : Cells6 w' b o r := by
  obtain ⟨h0, h1, h2, h3, h4, h5⟩ := h
  have k : ∀ o, w'.cell? ⟨b, o, none⟩ = w.cell? ⟨b, o, none⟩ := fun o => hb.cell (p := ⟨b, o, none⟩) hlt
  exact ⟨(k _).trans h0, (k _).trans h1, (k _).trans h2, (k _).trans h3, (k _).trans h4, (k _).trans h5⟩

/-- Which changes a slice holds. -/
def Chgs (w : World) (v : Value) (t : List Chg) : Prop :=
  ∃ a cap, v = .slice a t.length cap ∧ t.length ≤ cap ∧ cap ≤ maxLen ∧ (a = none → cap = 0) ∧
    (t = [] ∨ ∃ b off, a = some ⟨b, off, none⟩ ∧ b < w.heap.size ∧ ∀ i, i < t.length → Cells6 w b (off + i * 6) (t.getD i Chg.zero))

theorem Chgs.later {w w' : World} {v : Value} {t : List Chg} (h : Chgs w v t) (hb : Below w.heap.size w w') : Chgs w' v t := by
  obtain ⟨a, cap, h1, h2, h3, h4, h5⟩ := h
  refine ⟨a, cap, h1, h2, h3, h4, ?_⟩
  rcases h5 with h5 | ⟨b, off, e, hlt, hc⟩
  · exact .inl h5
  · exact .inr ⟨b, off, e, Nat.lt_of_lt_of_le hlt hb.size, fun i hi => (hc i hi).later hb hlt⟩

/-- A change of a list, in a later world. -/
theorem Chgs.row {w wr : World} {a : Option Addr} {n cap : Nat} {t : List Chg} (h : Chgs w (.slice a n cap) t) (hb : Below w.heap.size w wr) (k : Nat) (hk : k < t.length) :
    ∃ b off, a = some ⟨b, off, none⟩ ∧ Cells6 wr b (off + k * 6) (t.getD k Chg.zero) := by
  obtain ⟨a', cap', e, _, _, _, h⟩ := h.later hb
  simp only [Value.slice.injEq] at e
  rcases h with h | ⟨b, off, e', _, hc⟩
  · rw [h] at hk; simp at hk
  · exact ⟨b, off, e.1.trans e', hc k hk⟩

theorem Chgs.open' {w : World} {v : Value} {t : List Chg} (h : Chgs w v t) : ∃ a cap, v = .slice a t.length cap ∧ t.length ≤ 9223372036854775807 := by
  obtain ⟨a, cap, e, h1, h2, _⟩ := h
  unfold maxLen at h2
  exact ⟨a, cap, e, by omega⟩

/-- The cells of rows, one row behind the other. -/
def cellsOfC (t : List Chg) : List Value := (t.map chgVals).flatten

/-- A list of changes of the call's own. -/
def OwnC (w : World) (base : Nat) (v : Value) (t : List Chg) : Prop := w.ownsRow base 64 6 v t.length (cellsOfC t)

theorem OwnC.alloc {w : World} {base : Nat} {v : Value} {t : List Chg} (h : OwnC w base v t) (o : Obj) : OwnC (w.alloc o) base v t := World.ownsRow.alloc h o

theorem OwnC.later {w w' : World} {base : Nat} {v : Value} {t : List Chg} (h : OwnC w base v t) (hb : Below w.heap.size w w') : OwnC w' base v t := by
  refine ⟨h.1, ?_⟩
  rcases h.2 with h' | ⟨g, cap, cur, h1, h2, h3, h4⟩
  · exact .inl h'
  · exact .inr ⟨g, cap, cur, h1, h2, by rw [hb.block g (Array.getElem?_eq_some_iff.1 h3).1]; exact h3, h4⟩

end Go.Proofs.Ytohfhphiofobcaa

end

section

/-
  LAYER 6, THE CODE: whether a frame may be.
-/
namespace Go.Proofs.Ytohfhphiofobcaa
open Go.RowKit

theorem below_regrownF {w w' : World} (h : ∃ p : Regrown, w' = Sort.grow (redrawn w p.d) p.os) : Below w.heap.size w w' := by
  obtain ⟨p, rfl⟩ := h
  exact below_regrown _ _ _

set_option maxHeartbeats 400000 in
theorem isKind_any (k : Int) (w : World) : Calls Try.prog 36 #[.int .i64 k] w fun e w' => e = .returned (.bool (decide (1 ≤ k) && decide (k ≤ 4))) ∧ w = w' := by
  by_cases h1 : 1 ≤ k
  · by_cases h4 : k ≤ 4
    · have e : (decide (1 ≤ k) && decide (k ≤ 4)) = true := by simp [h1, h4]
      rw [e]
      go_enter Try.func36, Try.ntmps36
      go_wp2_with fail
      go_ret
      exact ⟨rfl, rfl⟩
    · have e : (decide (1 ≤ k) && decide (k ≤ 4)) = false := by simp [h4]
      rw [e]
      go_enter Try.func36, Try.ntmps36
      go_wp2_with fail
      go_ret
      exact ⟨rfl, rfl⟩
  · have e : (decide (1 ≤ k) && decide (k ≤ 4)) = false := by simp [h1]
    rw [e]
    go_enter Try.func36, Try.ntmps36
    go_wp2_with fail
    go_ret
    exact ⟨rfl, rfl⟩

set_option maxHeartbeats 800000 in
set_option maxRecDepth 100000 in
theorem change_any (k s : Int) (on : Bool) (c : List UInt8) (sh pr si : Int) (st : List UInt8) (sum : Nat) (v : Value) (w : World) :
    Calls Try.prog 41 #[.agg #[.int .i64 k, .int .i64 s, .bool on, .string ⟨c.toArray⟩, .int .i64 sh, .int .i64 pr, .int .i64 si, .string ⟨st.toArray⟩, .int .u64 sum, v]] w fun e w' => e = .returned (.agg #[.string ⟨c.toArray⟩, .bool on, .int .i64 sh, .int .i64 pr, .int .i64 si, .string ⟨st.toArray⟩]) ∧ Below w.heap.size w w' := by
  go_enter Try.func41, Try.ntmps41
  go_wp2_with fail
  refine bodyPost_ret (v := .agg #[.string ⟨c.toArray⟩, .bool on, .int .i64 sh, .int .i64 pr, .int .i64 si, .string ⟨st.toArray⟩]) (by simp [results, Try.results41, go_sem]) rfl ⟨rfl, ?_⟩
  repeat (first | exact Below.refl _ _ | refine Below.setCell ?_ (by first | (simp; done) | (simp; omega)) _ | refine Below.alloc ?_ (by first | (simp; done) | (simp; omega)) _ | refine Below.drew ?_)

/-- The kinds, five of three functions each. -/
abbrev kindsV : Value := .agg #[.nilFunc, .nilFunc, .nilFunc, .func (.func 65) #[] #[], .func (.func 66) #[] #[], .func (.func 67) #[] #[], .func (.func 68) #[] #[], .func (.func 69) #[] #[], .func (.func 70) #[] #[], .func (.func 71) #[] #[], .func (.func 72) #[] #[], .func (.func 73) #[] #[], .func (.func 74) #[] #[], .func (.func 75) #[] #[], .func (.func 76) #[] #[]]

set_option maxHeartbeats 800000 in
set_option maxRecDepth 100000 in
theorem kindsF_any  (w : World) :
    Calls Try.prog 37 #[] w fun e w' => e = .returned (kindsV) ∧ Below w.heap.size w w' := by
  go_enter Try.func37, Try.ntmps37
  go_wp2_with fail
  refine bodyPost_ret (v := kindsV) (by simp [results, Try.results37, go_sem]) rfl ⟨rfl, ?_⟩
  repeat (first | exact Below.refl _ _ | refine Below.setCell ?_ (by first | (simp; done) | (simp; omega)) _ | refine Below.alloc ?_ (by first | (simp; done) | (simp; omega)) _ | refine Below.drew ?_)

theorem chg_zero (c : List UInt8) (on : Bool) (sh pr si : Int) (st : List UInt8) : cSame ⟨c, on, sh, pr, si, st⟩ ⟨[], false, 0, 0, 0, []⟩ = (!on && (c == [] && vSame ⟨sh, pr, si, st⟩ Val.zero)) := by
  unfold cSame Val.zero
  cases on <;> cases c <;> simp

theorem bcellF {W w1 : World} (hb : Below W.heap.size W w1) : (∀ b o, b < W.heap.size → w1.cell? ⟨b, o, none⟩ = W.cell? ⟨b, o, none⟩) ∧ (∀ b o, b < W.heap.size → w1.frozen? ⟨b, o, none⟩ = W.frozen? ⟨b, o, none⟩) :=
  ⟨fun b o h => hb.cell (p := ⟨b, o, none⟩) h, fun b o h => hb.frozen (p := ⟨b, o, none⟩) h⟩

set_option maxHeartbeats 1600000 in
set_option maxRecDepth 100000 in
theorem mayDelta_any {w : World} {v : Value} {t : List Row} (hv : Tab w v t) (k s : Int) (on : Bool) (c : List UInt8) (sh pr si : Int) (st : List UInt8) (sum : Nat) (hc : c.length ≤ 4294967296) (hs : st.length ≤ 4294967296) :
    Calls Try.prog 65 #[.agg #[.int .i64 k, .int .i64 s, .bool on, .string ⟨c.toArray⟩, .int .i64 sh, .int .i64 pr, .int .i64 si, .string ⟨st.toArray⟩, .int .u64 sum, v]] w fun e w' => e = .returned (.bool (decide (sum = 0) && (decide (t.length = 0) && (idIs c && (if on = true then vaMay ⟨sh, pr, si, st⟩ else vSame ⟨sh, pr, si, st⟩ Val.zero))))) ∧ Below w.heap.size w w' := by
  obtain ⟨a, cap, rfl, _⟩ := hv.open'
  clear hv
  have B0 : Hid (Below w.heap.size w (w.alloc (.cells #[.int .i64 k, .int .i64 s, .bool on, .string ⟨c.toArray⟩, .int .i64 sh, .int .i64 pr, .int .i64 si, .string ⟨st.toArray⟩, .int .u64 sum, .slice a t.length cap] 27))) := Lib.hid ((Below.refl _ _).alloc (Nat.le_refl _) _)
  by_cases h1 : sum = 0
  · subst h1
    by_cases h2 : t.length = 0
    · have e2 : ((t.length : Int) != 0) = false := by simp [h2]
      have H2 := Lib.hid h2
      clear h2
      cases hi : idIs c with
      | false =>
        have HI := Lib.hid hi
        rw [show (decide ((0 : Nat) = 0) && (decide (t.length = 0) && (false && (if on = true then vaMay ⟨sh, pr, si, st⟩ else vSame ⟨sh, pr, si, st⟩ Val.zero)))) = false by simp]
        clear hi
        go_enter Try.func65, Try.ntmps65
        go_wp2_with fail
        refine (is_eq c hc HI _).mono ?_
        rintro e w1 ⟨rfl, b⟩
        have B1 := Lib.hid (below2' B0.out b)
        clear b
        go_wp2_with fail
        go_ret
        exact ⟨rfl, B1.out⟩
      | true =>
        have HI := Lib.hid hi
        clear hi
        cases on with
        | false =>
          rw [show (decide ((0 : Nat) = 0) && (decide (t.length = 0) && (true && (if false = true then vaMay ⟨sh, pr, si, st⟩ else vSame ⟨sh, pr, si, st⟩ Val.zero)))) = vSame ⟨sh, pr, si, st⟩ Val.zero by simp [H2.out]]
          have hq : ∀ w, (binOp .eql 23 (.agg #[.int .i64 sh, .int .i64 pr, .int .i64 si, .string ⟨st.toArray⟩]) (.agg #[.int .i64 0, .int .i64 0, .int .i64 0, .string ⟨#[]⟩])).run Try.prog w = .ok (.bool (vSame ⟨sh, pr, si, st⟩ Val.zero)) w := fun w => val_eql5 sh pr si 0 0 0 st [] w
          obtain ⟨r, hr⟩ : ∃ r, vSame ⟨sh, pr, si, st⟩ Val.zero = r := ⟨_, rfl⟩
          rw [hr]
          simp only [hr] at hq
          clear hr
          go_enter Try.func65, Try.ntmps65
          go_wp2_with fail
          refine (is_eq c hc HI _).mono ?_
          rintro e w1 ⟨rfl, b⟩
          have B1 := Lib.hid (below2' B0.out b)
          obtain ⟨hcl, _⟩ := bcellF b
          clear b
          go_wp2_with fail
          go_ret
          exact ⟨rfl, B1.out⟩
        | true =>
          rw [show (decide ((0 : Nat) = 0) && (decide (t.length = 0) && (true && (if true = true then vaMay ⟨sh, pr, si, st⟩ else vSame ⟨sh, pr, si, st⟩ Val.zero)))) = vaMay ⟨sh, pr, si, st⟩ by simp [H2.out]]
          obtain ⟨r, hr⟩ : ∃ r, vaMay ⟨sh, pr, si, st⟩ = r := ⟨_, rfl⟩
          rw [hr]
          have HM := Lib.hid hr
          clear hr
          go_enter Try.func65, Try.ntmps65
          go_wp2_with fail
          refine (is_eq c hc HI _).mono ?_
          rintro e w1 ⟨rfl, b⟩
          have B1 := Lib.hid (below2' B0.out b)
          obtain ⟨hcl, _⟩ := bcellF b
          clear b
          go_wp2_with fail
          refine (may_eq sh pr si st hs HM _).mono ?_
          rintro e w2 ⟨rfl, b⟩
          have B2 := Lib.hid (below2' B1.out b)
          clear b
          go_wp2_with fail
          go_ret
          exact ⟨rfl, B2.out⟩
    · have e2 : ((t.length : Int) != 0) = true := by rw [bne_iff_ne]; omega
      rw [show (decide ((0 : Nat) = 0) && (decide (t.length = 0) && (idIs c && (if on = true then vaMay ⟨sh, pr, si, st⟩ else vSame ⟨sh, pr, si, st⟩ Val.zero)))) = false by simp [h2]]
      clear h2
      go_enter Try.func65, Try.ntmps65
      go_wp2_with fail
      go_ret
      exact ⟨rfl, B0.out⟩
  · have e1 : ((sum : Int) != 0) = true := by rw [bne_iff_ne]; omega
    rw [show (decide (sum = 0) && (decide (t.length = 0) && (idIs c && (if on = true then vaMay ⟨sh, pr, si, st⟩ else vSame ⟨sh, pr, si, st⟩ Val.zero)))) = false by simp [h1]]
    clear h1
    go_enter Try.func65, Try.ntmps65
    go_wp2_with fail
    go_ret
    exact ⟨rfl, B0.out⟩

set_option maxHeartbeats 1600000 in
set_option maxRecDepth 100000 in
theorem mayDigest_any {w : World} {v : Value} {t : List Row} (hv : Tab w v t) (k s : Int) (on : Bool) (c : List UInt8) (sh pr si : Int) (st : List UInt8) (sum : Nat) (hc : c.length ≤ 4294967296) (hs : st.length ≤ 4294967296) :
    Calls Try.prog 68 #[.agg #[.int .i64 k, .int .i64 s, .bool on, .string ⟨c.toArray⟩, .int .i64 sh, .int .i64 pr, .int .i64 si, .string ⟨st.toArray⟩, .int .u64 sum, v]] w fun e w' => e = .returned (.bool ((!on && (c == [] && vSame ⟨sh, pr, si, st⟩ Val.zero)) && decide (t.length = 0))) ∧ Below w.heap.size w w' := by
  have HV := Lib.hid hv
  obtain ⟨a, cap, rfl, _⟩ := hv.open'
  clear hv
  have B0 : Hid (Below w.heap.size w (w.alloc (.cells #[.int .i64 k, .int .i64 s, .bool on, .string ⟨c.toArray⟩, .int .i64 sh, .int .i64 pr, .int .i64 si, .string ⟨st.toArray⟩, .int .u64 sum, .slice a t.length cap] 27))) := Lib.hid ((Below.refl _ _).alloc (Nat.le_refl _) _)
  have hq : ∀ w, (binOp .eql 64 (.agg #[.string ⟨c.toArray⟩, .bool on, .int .i64 sh, .int .i64 pr, .int .i64 si, .string ⟨st.toArray⟩]) (.agg #[.string ⟨#[]⟩, .bool false, .int .i64 0, .int .i64 0, .int .i64 0, .string ⟨#[]⟩])).run Try.prog w = .ok (.bool (!on && (c == [] && vSame ⟨sh, pr, si, st⟩ Val.zero))) w := fun w => by
    have := chg_eql6 c [] on false sh pr si 0 0 0 st [] w
    rw [chg_zero] at this
    exact this
  have hgd : Try.prog.eqGuardType Try.prog.depth 64 = false := by kernel_rfl
  obtain ⟨r, hr⟩ : ∃ r, (!on && (c == [] && vSame ⟨sh, pr, si, st⟩ Val.zero)) = r := ⟨_, rfl⟩
  rw [hr]
  simp only [hr] at hq
  clear hr
  cases r with
  | false =>
    rw [Bool.false_and]
    go_enter Try.func68, Try.ntmps68
    go_wp2_with fail
    refine (change_any k s on c sh pr si st sum _ _).mono ?_
    rintro e w1 ⟨rfl, b⟩
    have B1 := Lib.hid (below2' B0.out b)
    obtain ⟨hcl, _⟩ := bcellF b
    clear b
    go_wp2_with fail
    go_ret
    exact ⟨rfl, B1.out⟩
  | true =>
    rw [Bool.true_and]
    by_cases hzlen : t.length = 0
    · have elen : ((t.length : Int) == 0) = true := by simp [hzlen]
      rw [show decide (t.length = 0) = true by simp [hzlen]]
      clear hzlen
      go_enter Try.func68, Try.ntmps68
      go_wp2_with fail
      refine (change_any k s on c sh pr si st sum _ _).mono ?_
      rintro e w1 ⟨rfl, b⟩
      have B1 := Lib.hid (below2' B0.out b)
      obtain ⟨hcl, _⟩ := bcellF b
      clear b
      go_wp2_with fail
      go_ret
      exact ⟨rfl, B1.out⟩
    · have elen : ((t.length : Int) == 0) = false := by rw [beq_eq_false_iff_ne]; omega
      rw [show decide (t.length = 0) = false by simp [hzlen]]
      clear hzlen
      go_enter Try.func68, Try.ntmps68
      go_wp2_with fail
      refine (change_any k s on c sh pr si st sum _ _).mono ?_
      rintro e w1 ⟨rfl, b⟩
      have B1 := Lib.hid (below2' B0.out b)
      obtain ⟨hcl, _⟩ := bcellF b
      clear b
      go_wp2_with fail
      go_ret
      exact ⟨rfl, B1.out⟩

set_option maxHeartbeats 1600000 in
set_option maxRecDepth 100000 in
theorem maySnapshot_any {w : World} {v : Value} {t : List Row} (hv : Tab w v t) (k s : Int) (on : Bool) (c : List UInt8) (sh pr si : Int) (st : List UInt8) (sum : Nat) (hc : c.length ≤ 4294967296) (hs : st.length ≤ 4294967296) (hsh : Short t) :
    Calls Try.prog 71 #[.agg #[.int .i64 k, .int .i64 s, .bool on, .string ⟨c.toArray⟩, .int .i64 sh, .int .i64 pr, .int .i64 si, .string ⟨st.toArray⟩, .int .u64 sum, v]] w fun e w' => e = .returned (.bool ((!on && (c == [] && vSame ⟨sh, pr, si, st⟩ Val.zero)) && (decide (sum = 0) && diMay t))) ∧ Below w.heap.size w w' := by
  have HV := Lib.hid hv
  obtain ⟨a, cap, rfl, _⟩ := hv.open'
  clear hv
  have B0 : Hid (Below w.heap.size w (w.alloc (.cells #[.int .i64 k, .int .i64 s, .bool on, .string ⟨c.toArray⟩, .int .i64 sh, .int .i64 pr, .int .i64 si, .string ⟨st.toArray⟩, .int .u64 sum, .slice a t.length cap] 27))) := Lib.hid ((Below.refl _ _).alloc (Nat.le_refl _) _)
  have hq : ∀ w, (binOp .eql 64 (.agg #[.string ⟨c.toArray⟩, .bool on, .int .i64 sh, .int .i64 pr, .int .i64 si, .string ⟨st.toArray⟩]) (.agg #[.string ⟨#[]⟩, .bool false, .int .i64 0, .int .i64 0, .int .i64 0, .string ⟨#[]⟩])).run Try.prog w = .ok (.bool (!on && (c == [] && vSame ⟨sh, pr, si, st⟩ Val.zero))) w := fun w => by
    have := chg_eql6 c [] on false sh pr si 0 0 0 st [] w
    rw [chg_zero] at this
    exact this
  have hgd : Try.prog.eqGuardType Try.prog.depth 64 = false := by kernel_rfl
  obtain ⟨r, hr⟩ : ∃ r, (!on && (c == [] && vSame ⟨sh, pr, si, st⟩ Val.zero)) = r := ⟨_, rfl⟩
  rw [hr]
  simp only [hr] at hq
  clear hr
  cases r with
  | false =>
    rw [Bool.false_and]
    go_enter Try.func71, Try.ntmps71
    go_wp2_with fail
    refine (change_any k s on c sh pr si st sum _ _).mono ?_
    rintro e w1 ⟨rfl, b⟩
    have B1 := Lib.hid (below2' B0.out b)
    obtain ⟨hcl, _⟩ := bcellF b
    clear b
    go_wp2_with fail
    go_ret
    exact ⟨rfl, B1.out⟩
  | true =>
    rw [Bool.true_and]
    by_cases hzsum : sum = 0
    · have esum : ((sum : Int) == 0) = true := by simp [hzsum]
      rw [show decide (sum = 0) = true by simp [hzsum], Bool.true_and]
      clear hzsum
      obtain ⟨r2, hr2⟩ : ∃ r2, diMay t = r2 := ⟨_, rfl⟩
      rw [hr2]
      have HM := Lib.hid hr2
      clear hr2
      go_enter Try.func71, Try.ntmps71
      go_wp2_with fail
      refine (change_any k s on c sh pr si st sum _ _).mono ?_
      rintro e w1 ⟨rfl, b⟩
      have B1 := Lib.hid (below2' B0.out b)
      obtain ⟨hcl, _⟩ := bcellF b
      clear b
      go_wp2_with fail
      refine (dimay_eq (HV.out.later B1.out) hsh HM).mono ?_
      rintro e w2 ⟨rfl, b⟩
      have B2 := Lib.hid (below2' B1.out b)
      clear b
      go_wp2_with fail
      go_ret
      exact ⟨rfl, B2.out⟩
    · have esum : ((sum : Int) == 0) = false := by rw [beq_eq_false_iff_ne]; omega
      rw [show decide (sum = 0) = false by simp [hzsum], Bool.false_and]
      clear hzsum
      go_enter Try.func71, Try.ntmps71
      go_wp2_with fail
      refine (change_any k s on c sh pr si st sum _ _).mono ?_
      rintro e w1 ⟨rfl, b⟩
      have B1 := Lib.hid (below2' B0.out b)
      obtain ⟨hcl, _⟩ := bcellF b
      clear b
      go_wp2_with fail
      go_ret
      exact ⟨rfl, B1.out⟩

set_option maxHeartbeats 1600000 in
set_option maxRecDepth 100000 in
theorem mayResync_any {w : World} {v : Value} {t : List Row} (hv : Tab w v t) (k s : Int) (on : Bool) (c : List UInt8) (sh pr si : Int) (st : List UInt8) (sum : Nat) (hc : c.length ≤ 4294967296) (hs : st.length ≤ 4294967296) :
    Calls Try.prog 74 #[.agg #[.int .i64 k, .int .i64 s, .bool on, .string ⟨c.toArray⟩, .int .i64 sh, .int .i64 pr, .int .i64 si, .string ⟨st.toArray⟩, .int .u64 sum, v]] w fun e w' => e = .returned (.bool ((!on && (c == [] && vSame ⟨sh, pr, si, st⟩ Val.zero)) && (decide (sum = 0) && decide (t.length = 0)))) ∧ Below w.heap.size w w' := by
  have HV := Lib.hid hv
  obtain ⟨a, cap, rfl, _⟩ := hv.open'
  clear hv
  have B0 : Hid (Below w.heap.size w (w.alloc (.cells #[.int .i64 k, .int .i64 s, .bool on, .string ⟨c.toArray⟩, .int .i64 sh, .int .i64 pr, .int .i64 si, .string ⟨st.toArray⟩, .int .u64 sum, .slice a t.length cap] 27))) := Lib.hid ((Below.refl _ _).alloc (Nat.le_refl _) _)
  have hq : ∀ w, (binOp .eql 64 (.agg #[.string ⟨c.toArray⟩, .bool on, .int .i64 sh, .int .i64 pr, .int .i64 si, .string ⟨st.toArray⟩]) (.agg #[.string ⟨#[]⟩, .bool false, .int .i64 0, .int .i64 0, .int .i64 0, .string ⟨#[]⟩])).run Try.prog w = .ok (.bool (!on && (c == [] && vSame ⟨sh, pr, si, st⟩ Val.zero))) w := fun w => by
    have := chg_eql6 c [] on false sh pr si 0 0 0 st [] w
    rw [chg_zero] at this
    exact this
  have hgd : Try.prog.eqGuardType Try.prog.depth 64 = false := by kernel_rfl
  obtain ⟨r, hr⟩ : ∃ r, (!on && (c == [] && vSame ⟨sh, pr, si, st⟩ Val.zero)) = r := ⟨_, rfl⟩
  rw [hr]
  simp only [hr] at hq
  clear hr
  cases r with
  | false =>
    rw [Bool.false_and]
    go_enter Try.func74, Try.ntmps74
    go_wp2_with fail
    refine (change_any k s on c sh pr si st sum _ _).mono ?_
    rintro e w1 ⟨rfl, b⟩
    have B1 := Lib.hid (below2' B0.out b)
    obtain ⟨hcl, _⟩ := bcellF b
    clear b
    go_wp2_with fail
    go_ret
    exact ⟨rfl, B1.out⟩
  | true =>
    rw [Bool.true_and]
    by_cases hzsum : sum = 0
    · have esum : ((sum : Int) == 0) = true := by simp [hzsum]
      rw [show decide (sum = 0) = true by simp [hzsum], Bool.true_and]
      clear hzsum
      by_cases hzlen : t.length = 0
      · have elen : ((t.length : Int) == 0) = true := by simp [hzlen]
        rw [show decide (t.length = 0) = true by simp [hzlen]]
        clear hzlen
        go_enter Try.func74, Try.ntmps74
        go_wp2_with fail
        refine (change_any k s on c sh pr si st sum _ _).mono ?_
        rintro e w1 ⟨rfl, b⟩
        have B1 := Lib.hid (below2' B0.out b)
        obtain ⟨hcl, _⟩ := bcellF b
        clear b
        go_wp2_with fail
        go_ret
        exact ⟨rfl, B1.out⟩
      · have elen : ((t.length : Int) == 0) = false := by rw [beq_eq_false_iff_ne]; omega
        rw [show decide (t.length = 0) = false by simp [hzlen]]
        clear hzlen
        go_enter Try.func74, Try.ntmps74
        go_wp2_with fail
        refine (change_any k s on c sh pr si st sum _ _).mono ?_
        rintro e w1 ⟨rfl, b⟩
        have B1 := Lib.hid (below2' B0.out b)
        obtain ⟨hcl, _⟩ := bcellF b
        clear b
        go_wp2_with fail
        go_ret
        exact ⟨rfl, B1.out⟩
    · have esum : ((sum : Int) == 0) = false := by rw [beq_eq_false_iff_ne]; omega
      rw [show decide (sum = 0) = false by simp [hzsum], Bool.false_and]
      clear hzsum
      go_enter Try.func74, Try.ntmps74
      go_wp2_with fail
      refine (change_any k s on c sh pr si st sum _ _).mono ?_
      rintro e w1 ⟨rfl, b⟩
      have B1 := Lib.hid (below2' B0.out b)
      obtain ⟨hcl, _⟩ := bcellF b
      clear b
      go_wp2_with fail
      go_ret
      exact ⟨rfl, B1.out⟩

end Go.Proofs.Ytohfhphiofobcaa

end
