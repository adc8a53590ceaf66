/-
  TEXTS OF THE PROOF, one behind the other: HeaBet, BesCode, BesBest, BesFrame, StaMem, CrcPure, ScrPure, ValEq, ValMay.
-/
import Derived.Test.YthfkfonfiejbmaaGreatC08
import Derived.Test.YthfkfonfiejbmaaGreatC07
import Derived.ProofKit
import Derived.OpenShut
import Derived.Lib.SmallJoins
import Derived.Deep.Slices
import Derived.Deep.Fields
import Derived.ChangeSame
import Derived.Test.YthfkfonfiejbmaaGreatC01
import Derived.Test.YthfkfonfiejbmaaGreatProg
import Derived.Laws.StructEq

section

/-
  LAYER 10, THE CODE: the parent of a place; which of two slots is better.
-/
namespace Go.Proofs.YthfkfonfiejbmaaGreat
open Go.RowKit

/-- The ranks of a slot. -/
def rk (s : Sl) (i : Nat) : Int := if i = 0 then s.r0 else if i = 1 then s.r1 else s.r2

end Go.Proofs.YthfkfonfiejbmaaGreat

end

section

/-
  LAYER 11, THE CODE's: the slots of a session; whether one is better; which of two values is worth more.
-/
namespace Go.Proofs.YthfkfonfiejbmaaGreat
open Go.RowKit

end Go.Proofs.YthfkfonfiejbmaaGreat

end

section

/-
  LAYER 11, THE CODE's: the best one.
-/
namespace Go.Proofs.YthfkfonfiejbmaaGreat
open Go.RowKit

/-- Numbers that an int holds. -/
structure ValFit (v : Val) : Prop where
  sh : (Lit.int .i64 v.sh).wf = true
  pr : (Lit.int .i64 v.pr).wf = true
  si : (Lit.int .i64 v.si).wf = true

/-- Numbers that an int holds. -/
structure SesFit (s : Ses) : Prop where
  id : (Lit.int .i64 s.id).wf = true
  sh : (Lit.int .i64 s.v.sh).wf = true
  pr : (Lit.int .i64 s.v.pr).wf = true
  si : (Lit.int .i64 s.v.si).wf = true

end Go.Proofs.YthfkfonfiejbmaaGreat

end

section

/-
  FOR THE FRAMES OF LAYERS 9, 11 AND 12's PROOFS: values and sessions that came in, opened.
-/
namespace Go.Proofs.YthfkfonfiejbmaaGreat
open Go.ChangeShapes Go.WideShapes Go.ChangeAt Go.RowKit Go.Deep

section
variable {H : Type} {enc : TypeId × Value → H} {w : World} {base : Nat} {spare : Nat → Bool} {held : Bool}

theorem list4B {α : Type} {l : List α} (h : l.length = 4) : ∃ a b c d, l = [a, b, c, d] := by
  match l, h with
  | [a, b, c, d], _ => exact ⟨a, b, c, d, rfl⟩

theorem list6B {α : Type} {l : List α} (h : l.length = 6) : ∃ a b c d e f, l = [a, b, c, d, e, f] := by
  match l, h with
  | [a, b, c, d, e, f], _ => exact ⟨a, b, c, d, e, f, rfl⟩

theorem trod_intB {fuel : Nat} {cs : List Value} {x : DataW H × List MemPlace} (h : DataW.trod enc Tryz.prog w base spare held fuel 3 cs = some x) : ∃ z, cs = [.int .i64 z] ∧ (Lit.int .i64 z).wf = true := by
  obtain ⟨z, e, _, hw⟩ := DataW.trod_int Tryz.underlying3 h
  exact ⟨z, e, hw⟩

theorem trod_textB {fuel : Nat} {cs : List Value} {x : DataW H × List MemPlace} (h : DataW.trod enc Tryz.prog w base spare held fuel 9 cs = some x) : ∃ l : List UInt8, cs = [.string ⟨l.toArray⟩] := by
  obtain ⟨s, e, _, _⟩ := DataW.trod_string Tryz.underlying9 h
  exact ⟨s.data.toList, by rw [e]⟩

set_option maxRecDepth 100000 in
/-- A value's cells. -/
theorem trod_valB {fuel : Nat} {cs : List Value} {x : DataW H × List MemPlace} (h : DataW.trod enc Tryz.prog w base spare held fuel 27 cs = some x) :
    ∃ v : Val, cs = [.int .i64 v.sh, .int .i64 v.pr, .int .i64 v.si, .string ⟨v.st.toArray⟩] ∧ ValFit v := by
  obtain ⟨xs, n, _, _, hl, hx, hf⟩ := DataW.trod_struct Tryz.underlying27 h
  have c35 : Tryz.prog.cellsOf 27 = 4 := by kernel_rfl
  have c3 : Tryz.prog.cellsOf 3 = 1 := by kernel_rfl
  have c9 : Tryz.prog.cellsOf 9 = 1 := by kernel_rfl
  rw [c35] at hl
  obtain ⟨a, b, c, d, rfl⟩ := list4B hl
  have get : ∀ i, i < 4 → xs[i]? = some (xs.getD i (.nil, [])) := fun i hi => by
    have : i < xs.length := by rw [hx]; exact hi
    simp [List.getD, List.getElem?_eq_getElem this]
  have f0 : DataW.trod enc Tryz.prog w base spare held n 3 (([a, b, c, d].drop 0).take (Tryz.prog.cellsOf 3)) = some (xs.getD 0 (.nil, [])) := (hf 0 _ rfl).trans (get 0 (by omega))
  have f1 : DataW.trod enc Tryz.prog w base spare held n 3 (([a, b, c, d].drop 1).take (Tryz.prog.cellsOf 3)) = some (xs.getD 1 (.nil, [])) := (hf 1 _ rfl).trans (get 1 (by omega))
  have f2 : DataW.trod enc Tryz.prog w base spare held n 3 (([a, b, c, d].drop 2).take (Tryz.prog.cellsOf 3)) = some (xs.getD 2 (.nil, [])) := (hf 2 _ rfl).trans (get 2 (by omega))
  have f3 : DataW.trod enc Tryz.prog w base spare held n 9 (([a, b, c, d].drop 3).take (Tryz.prog.cellsOf 9)) = some (xs.getD 3 (.nil, [])) := (hf 3 _ rfl).trans (get 3 (by omega))
  rw [c3] at f0 f1 f2
  rw [c9] at f3
  obtain ⟨z0, e0, w0⟩ := trod_intB f0
  obtain ⟨z1, e1, w1⟩ := trod_intB f1
  obtain ⟨z2, e2, w2⟩ := trod_intB f2
  obtain ⟨l, e3⟩ := trod_textB f3
  simp at e0 e1 e2 e3
  subst e0 e1 e2 e3
  exact ⟨⟨z0, z1, z2, l⟩, rfl, ⟨w0, w1, w2⟩⟩

set_option maxRecDepth 100000 in
/-- A session's cells. -/
theorem trod_sesB (fuel : Nat) (cs : List Value) (x : DataW H × List MemPlace) (h : DataW.trod enc Tryz.prog w base spare held fuel 62 cs = some x) :
    ∃ s : Ses, cs = sesVals s ∧ SesFit s := by
  obtain ⟨xs, n, _, _, hl, hx, hf⟩ := DataW.trod_struct Tryz.underlying62 h
  have c6 : Tryz.prog.cellsOf 62 = 6 := by kernel_rfl
  have c4 : Tryz.prog.cellsOf 27 = 4 := by kernel_rfl
  have c3 : Tryz.prog.cellsOf 3 = 1 := by kernel_rfl
  have c9 : Tryz.prog.cellsOf 9 = 1 := by kernel_rfl
  rw [c6] at hl
  obtain ⟨a, b, c, d, e, f, rfl⟩ := list6B hl
  have get : ∀ i, i < 3 → xs[i]? = some (xs.getD i (.nil, [])) := fun i hi => by
    have : i < xs.length := by rw [hx]; exact hi
    simp [List.getD, List.getElem?_eq_getElem this]
  have f0 : DataW.trod enc Tryz.prog w base spare held n 9 (([a, b, c, d, e, f].drop 0).take (Tryz.prog.cellsOf 9)) = some (xs.getD 0 (.nil, [])) := (hf 0 _ rfl).trans (get 0 (by omega))
  have f1 : DataW.trod enc Tryz.prog w base spare held n 3 (([a, b, c, d, e, f].drop 1).take (Tryz.prog.cellsOf 3)) = some (xs.getD 1 (.nil, [])) := (hf 1 _ rfl).trans (get 1 (by omega))
  have f2 : DataW.trod enc Tryz.prog w base spare held n 27 (([a, b, c, d, e, f].drop 2).take (Tryz.prog.cellsOf 27)) = some (xs.getD 2 (.nil, [])) := (hf 2 _ rfl).trans (get 2 (by omega))
  rw [c9] at f0
  rw [c3] at f1
  rw [c4] at f2
  obtain ⟨u, e0⟩ := trod_textB f0
  obtain ⟨z, e1, w1⟩ := trod_intB f1
  obtain ⟨v, e2, w2⟩ := trod_valB f2
  simp at e0 e1 e2
  obtain ⟨rfl, rfl, rfl, rfl⟩ := e2
  subst e0 e1
  exact ⟨⟨u, z, v⟩, rfl, ⟨w1, w2.sh, w2.pr, w2.si⟩⟩

end

end Go.Proofs.YthfkfonfiejbmaaGreat

end

section

/-
  LAYER 14: states and events in memory.
-/
namespace Go.Proofs.YthfkfonfiejbmaaGreat
open Go.ChangeShapes Go.WideShapes Go.ChangeAt Go.RowKit Go.Deep

/-- A state's slices that may be read. -/
def StAt (w : World) (x y : Value) (t : Sta) : Prop := Ents w x t.e ∧ Sess w y t.s

theorem StAt.later {w w' : World} {x y : Value} {t : Sta} (h : StAt w x y t) (hb : Below w.heap.size w w') : StAt w' x y t := ⟨h.1.later hb, h.2.later hb⟩

section
variable {H : Type} {enc : TypeId × Value → H} {w : World} {base : Nat} {spare : Nat → Bool} {held : Bool}

/-- A slice of structs that came in as one cell of a struct. -/
theorem rdS_trod {α : Type} {P : Program} {vals : α → List Value} {sz : Nat} {zero : α} {T S : TypeId} {Z : Value} {bytes : Nat} (D : RowOK P vals sz zero T S Z bytes) (hcells : P.cellsOf T = sz)
    {ok : α → Prop} (helem : ∀ fuel cs x, DataW.trod enc P w base spare held fuel T cs = some x → ∃ r, cs = vals r ∧ ok r)
    {fuel : Nat} {cs : List Value} {z : DataW H × List MemPlace} (hf : DataW.trod enc P w base spare held fuel S cs = some z) :
    ∃ v, cs = [v] ∧ ∃ t : List α, RdS vals sz zero w v t ∧ ∀ r ∈ t, ok r := by
  rcases open_slice D.under hf with ⟨hcs, _⟩ | ⟨x, len, cap, m, n, D', Pl, hcs, _, hl, hm, hmm, _, hi⟩
  · exact ⟨_, hcs, [], rdS_nil w, by simp⟩
  · refine ⟨_, hcs, ?_⟩
    have hlm : len ≤ m := by rw [hmm]; split <;> omega
    rw [hcells] at hi
    obtain ⟨t, htl, ht⟩ := choose_S zero (n := len) (Q := fun i r => (∀ j u, (vals r)[j]? = some u → w.cell? ((x.add (i * sz)).add j) = some u) ∧ ok r) (fun i hil => by
      obtain ⟨cs', hc, htr⟩ := hi i (by omega)
      obtain ⟨_, hcl, hat⟩ := World.cells?_some hc
      obtain ⟨r, rfl, w1⟩ := helem _ _ _ htr
      refine ⟨r, fun j u hu => ?_, w1⟩
      have hj : j < sz := by have := (List.getElem?_eq_some_iff.1 hu).1; rwa [D.len] at this
      rw [hat j hj, hu])
    refine ⟨t, ⟨some x, cap, by rw [htl], by omega, by omega, (fun e => by cases e), ?_⟩, fun r hr => ?_⟩
    · by_cases h0 : len = 0
      · exact .inl (List.length_eq_zero_iff.1 (by omega))
      · obtain ⟨b, off, spot⟩ := x
        have hne : 0 < (vals (t.getD 0 zero)).length := by rw [D.len]; exact D.pos
        have hc := (ht 0 (by omega)).1 0 _ (List.getElem?_eq_getElem hne)
        have hspot : spot = none := by simpa [Addr.add] using World.cell?_spot hc
        subst hspot
        refine .inr ⟨b, off, rfl, ?_, fun i hil => fun j u hu => ?_⟩
        · have := World.block_lt_of_cell? w _ hc
          simpa [Addr.add] using this
        · have := (ht i (by omega)).1 j u hu
          rwa [Addr.add_lit, Addr.add_lit] at this
    · obtain ⟨i, hil, rfl⟩ := List.getElem_of_mem hr
      have := (ht i (by omega)).2
      rwa [List.getD_eq_getElem?_getD, List.getElem?_eq_getElem hil] at this

theorem list2T {α : Type} {l : List α} (h : l.length = 2) : ∃ a b, l = [a, b] := by
  match l, h with
  | [a, b], _ => exact ⟨a, b, rfl⟩

set_option maxRecDepth 100000 in
/-- A state that came in. -/
theorem open_sta {r : Reach} {b0 : Nat} {v : Value} {d : DataW H} {p : List MemPlace} (hv : Value.okWide Tryz.prog w r b0 25 v) (h : DataW.Trod enc Tryz.prog w base spare held 25 v d p) :
    ∃ x y t, v = .agg #[x, y] ∧ StAt w x y t ∧ ∀ s ∈ t.s, SesFit s := by
  obtain ⟨cs, rfl, _⟩ := okWide_struct Tryz.underlying25 hv
  obtain ⟨fuel, hf0⟩ := h
  obtain ⟨xs, n, _, _, hl, hx, hf⟩ := DataW.trod_struct Tryz.underlying25 hf0
  have c2 : Tryz.prog.cellsOf 25 = 2 := by kernel_rfl
  have c1 : Tryz.prog.cellsOf 22 = 1 := by kernel_rfl
  have c9 : Tryz.prog.cellsOf 23 = 1 := by kernel_rfl
  rw [c2] at hl
  obtain ⟨a, b, hab⟩ := list2T hl
  rw [hab] at hf
  have get : ∀ i, i < 2 → xs[i]? = some (xs.getD i (.nil, [])) := fun i hi => by
    have : i < xs.length := by rw [hx]; exact hi
    simp [List.getD, List.getElem?_eq_getElem this]
  have f0 : DataW.trod enc Tryz.prog w base spare held n 22 (([a, b].drop 0).take (Tryz.prog.cellsOf 22)) = some (xs.getD 0 (.nil, [])) := (hf 0 _ rfl).trans (get 0 (by omega))
  have f1 : DataW.trod enc Tryz.prog w base spare held n 23 (([a, b].drop 1).take (Tryz.prog.cellsOf 23)) = some (xs.getD 1 (.nil, [])) := (hf 1 _ rfl).trans (get 1 (by omega))
  rw [c1] at f0
  rw [c9] at f1
  simp only [List.drop_succ_cons, List.drop_zero, List.take_succ_cons, List.take_zero] at f0 f1
  obtain ⟨x, hx0, le, hle, _⟩ := rdS_trod (ok := fun _ => True) entOK (by kernel_rfl) trod_entR f0
  obtain ⟨y, hy0, ls, hls, hfit⟩ := rdS_trod (ok := SesFit) sesOK (by kernel_rfl) trod_sesB f1
  simp only [List.cons.injEq, and_true] at hx0 hy0
  subst hx0 hy0
  refine ⟨a, b, ⟨le, ls⟩, ?_, ⟨hle.ents, hls⟩, hfit⟩
  obtain ⟨l⟩ := cs
  simp only [Value.cells] at hab
  rw [hab]

end

end Go.Proofs.YthfkfonfiejbmaaGreat

end

section

/-
  PLAIN MATHEMATICS OF LAYER 2 (crc): a sum of 32 bits, how it goes by XOR, and that four bytes changed are told. No program in sight.
-/
namespace Go.Proofs.YthfkfonfiejbmaaGreat

/-- One bit. -/
def c1 (x : Nat) : Nat := if x % 2 = 1 then x / 2 ^^^ 3988292384 else x / 2

/-- k bits. -/
def cN : Nat → Nat → Nat
  | 0, x => x
  | k + 1, x => cN k (c1 x)

def cstep (c b : Nat) : Nat := cN 8 (c ^^^ b)

def cfold (c : Nat) (l : List UInt8) : Nat := l.foldl (fun c b => cstep c b.toNat) c

def csum (l : List UInt8) : Nat := cfold 4294967295 l ^^^ 4294967295

def low4 (n : Nat) : List UInt8 := [u8of (n % 256), u8of (n / 256 % 256), u8of (n / 65536 % 256), u8of (n / 16777216 % 256)]

def cseal (l : List UInt8) : List UInt8 := l ++ low4 (csum l)

def copen (t : List UInt8) : List UInt8 × Nat :=
  if t.length < 4 then ([], 2) else if t.drop (t.length - 4) = low4 (csum (t.take (t.length - 4))) then (t.take (t.length - 4), 0) else ([], 4)

theorem c1_lt {x : Nat} (h : x < 4294967296) : c1 x < 4294967296 := by
  unfold c1
  split
  · exact Nat.xor_lt_two_pow (n := 32) (by omega) (by omega)
  · omega

theorem cN_lt : ∀ (k : Nat) {x : Nat}, x < 4294967296 → cN k x < 4294967296
  | 0, _, h => h
  | k + 1, _, h => cN_lt k (c1_lt h)

theorem cstep_lt {c b : Nat} (hc : c < 4294967296) (hb : b < 4294967296) : cstep c b < 4294967296 := cN_lt 8 (Nat.xor_lt_two_pow (n := 32) hc hb)

theorem cfold_lt : ∀ (l : List UInt8) {c : Nat}, c < 4294967296 → cfold c l < 4294967296
  | [], _, h => h
  | b :: l, _, h => cfold_lt l (cstep_lt h (by have := b.toNat_lt; omega))

theorem cfold_append (c : Nat) (a b : List UInt8) : cfold c (a ++ b) = cfold (cfold c a) b := by unfold cfold; exact List.foldl_append

theorem csum_lt (l : List UInt8) : csum l < 4294967296 := Nat.xor_lt_two_pow (n := 32) (cfold_lt l (by decide)) (by decide)

/-- What a sealed text's register comes to. -/
def cK : Nat := cN 32 4294967295

theorem copen_seal (s : List UInt8) : copen (cseal s) = (s, 0) := by
  have hl : (cseal s).length = s.length + 4 := by simp [cseal, low4]
  unfold copen
  rw [if_neg (by omega), hl, Nat.add_sub_cancel]
  have e1 : (cseal s).take s.length = s := by simp [cseal]
  have e2 : (cseal s).drop s.length = low4 (csum s) := by simp [cseal]
  rw [e1, e2, if_pos rfl]

theorem copen_ok {t s : List UInt8} (h : copen t = (s, 0)) : cseal s = t := by
  unfold copen at h
  split at h
  · simp at h
  · split at h
    · rename_i h4 hd
      simp only [Prod.mk.injEq, and_true] at h
      subst h
      unfold cseal
      rw [← hd, List.take_append_drop]
    · simp at h

end Go.Proofs.YthfkfonfiejbmaaGreat

end

section

/-
  PLAIN MATHEMATICS OF LAYER 23 (script): events as bytes, one by one, and many at once. No program in sight.
-/
namespace Go.Proofs.YthfkfonfiejbmaaGreat

/-- What events of a kind have, as bits. -/
def scHas (k : Int) : Int := if 1 ≤ k ∧ k ≤ 6 then 1 else if k = 7 then 6 else if k = 8 then 2 else 0

def oOk (k : Int) (o : List UInt8) : Bool := if 1 ≤ k ∧ k ≤ 6 then idIs o else decide (o = [])
def iOk (k id : Int) : Bool := if k = 7 ∨ k = 8 then decide (0 ≤ id ∧ id < 4) else decide (id = 0)
def vOk (k : Int) (v : Val) : Bool := if k = 7 then vaMay v else vaEq v Val.zero

/-- May it be? -/
def scMay (e : Ev) : Bool := decide (1 ≤ e.k ∧ e.k ≤ 8) && (idIs e.u && (oOk e.k e.o && (iOk e.k e.id && vOk e.k e.v)))

def scTail (e : Ev) : List UInt8 := if e.k ≤ 6 then vput e.o.length ++ e.o else u8of e.id.toNat :: (if e.k = 7 then vaBytes e.v else [])

/-- Its bytes, without a seal. -/
def scBytes (e : Ev) : List UInt8 := u8of e.k.toNat :: (vput e.u.length ++ e.u ++ scTail e)

def scEnc (e : Ev) : List UInt8 × Nat := if scMay e = true then (cseal (scBytes e), 0) else ([], 1)

/-- What stands behind the User. -/
def scPart (l : List UInt8) (k : Nat) (u : List UInt8) (p : Nat) : Ev × Bool :=
  if 1 ≤ k ∧ k ≤ 6 then (if (idTake l p).2.2 ≠ 0 then (Ev.zero, false) else (⟨k, u, (idTake l p).1, 0, Val.zero⟩, decide ((idTake l p).2.1 = l.length)))
  else if k = 7 then
    (if p < l.length then (if (vaTake l ((p + 1 : Nat) : Int)).2.2 ≠ 0 then (Ev.zero, false) else (⟨k, u, [], (l.getD p 0).toNat, (vaTake l ((p + 1 : Nat) : Int)).1⟩, decide ((vaTake l ((p + 1 : Nat) : Int)).2.1 = l.length)))
     else (Ev.zero, false))
  else if k = 8 then (if p < l.length then (⟨k, u, [], (l.getD p 0).toNat, Val.zero⟩, decide (p + 1 = l.length)) else (Ev.zero, false))
  else (⟨k, u, [], 0, Val.zero⟩, decide (p = l.length))

/-- The event of bytes without a seal, and whether it is all of them. -/
def scTake (l : List UInt8) : Ev × Bool :=
  if l = [] then (Ev.zero, false)
  else if (idTake l 1).2.2 ≠ 0 then (Ev.zero, false)
  else scPart l (l.getD 0 0).toNat (idTake l 1).1 (idTake l 1).2.1

/-- The document's reading. -/
def scRead (l : List UInt8) : Ev :=
  if l = [] then Ev.zero
  else if (idTake l 1).2.2 ≠ 0 then Ev.zero
  else if (l.getD 0 0).toNat ≤ 6 then ⟨(l.getD 0 0).toNat, (idTake l 1).1, (idTake l (idTake l 1).2.1).1, 0, Val.zero⟩
  else if l.length ≤ (idTake l 1).2.1 then Ev.zero
  else ⟨(l.getD 0 0).toNat, (idTake l 1).1, [], (l.getD (idTake l 1).2.1 0).toNat, if (l.getD 0 0).toNat = 7 then (vaTake l (((idTake l 1).2.1 + 1 : Nat) : Int)).1 else Val.zero⟩

def scDec (s : List UInt8) : Ev × Nat :=
  if (copen s).2 ≠ 0 then (Ev.zero, (copen s).2)
  else if ((scTake (copen s).1).2 && scMay (scTake (copen s).1).1) = true then ((scTake (copen s).1).1, 0) else (Ev.zero, 3)

theorem vaEq_zero {v : Val} : vaEq v Val.zero = true ↔ v = Val.zero := vaEq_iff

theorem idTake_at {t : List UInt8} (h : idIs t = true) (a r : List UInt8) : idTake (a ++ (vput t.length ++ t ++ r)) (a.length : Int) = (t, a.length + (vput t.length).length + t.length, 0) := by
  have hl := (idIs_parts h).2.1
  unfold idTake
  rw [vtake_text a t r 16 (by omega) (by omega)]
  simp [h]

theorem idTake_ok {l : List UInt8} {p : Int} {t : List UInt8} {f : Nat} (h : idTake l p = (t, f, 0)) : idIs t = true ∧ vtake l p 16 = (t, f, 0) := by
  unfold idTake at h
  by_cases h1 : (vtake l p 16).2.2 = 0
  · rw [if_neg (by simpa using h1)] at h
    by_cases h2 : idIs (vtake l p 16).1 = true
    · rw [if_pos h2] at h
      rw [h] at h2
      exact ⟨h2, h⟩
    · rw [if_neg h2] at h; simp at h
  · rw [if_pos h1] at h
    simp only [Prod.mk.injEq] at h
    exact absurd h.2.2 h1

theorem idTake_bytes {l : List UInt8} {p : Nat} {t : List UInt8} {f : Nat} (h : idTake l p = (t, f, 0)) : idIs t = true ∧ p ≤ f ∧ f ≤ l.length ∧ vput t.length ++ t = (l.drop p).take (f - p) := by
  obtain ⟨h1, h2⟩ := idTake_ok h
  obtain ⟨h3, h4, h5, _⟩ := vtake_bytes h2
  exact ⟨h1, h3, h4, h5⟩

theorem scMay_parts {e : Ev} (h : scMay e = true) : (1 ≤ e.k ∧ e.k ≤ 8) ∧ idIs e.u = true ∧ oOk e.k e.o = true ∧ iOk e.k e.id = true ∧ vOk e.k e.v = true := by
  unfold scMay at h
  simp only [Bool.and_eq_true, decide_eq_true_eq] at h
  exact h

/-- The three kinds of events that may be. -/
theorem scMay_kinds {e : Ev} (h : scMay e = true) :
    (1 ≤ e.k ∧ e.k ≤ 6 ∧ idIs e.u = true ∧ idIs e.o = true ∧ e.id = 0 ∧ e.v = Val.zero) ∨
    (e.k = 7 ∧ idIs e.u = true ∧ e.o = [] ∧ 0 ≤ e.id ∧ e.id < 4 ∧ vaMay e.v = true) ∨
    (e.k = 8 ∧ idIs e.u = true ∧ e.o = [] ∧ 0 ≤ e.id ∧ e.id < 4 ∧ e.v = Val.zero) := by
  obtain ⟨⟨h1, h8⟩, hu, ho, hi, hv⟩ := scMay_parts h
  unfold oOk at ho
  unfold iOk at hi
  unfold vOk at hv
  by_cases h6 : e.k ≤ 6
  · rw [if_pos ⟨h1, h6⟩] at ho
    rw [if_neg (by omega)] at hi
    rw [if_neg (by omega)] at hv
    exact .inl ⟨h1, h6, hu, ho, by simpa using hi, vaEq_zero.1 hv⟩
  · rw [if_neg (by omega)] at ho
    rw [if_pos (by omega)] at hi
    by_cases h7 : e.k = 7
    · rw [if_pos h7] at hv
      have := of_decide_eq_true hi
      exact .inr (.inl ⟨h7, hu, of_decide_eq_true ho, this.1, this.2, hv⟩)
    · rw [if_neg h7] at hv
      have := of_decide_eq_true hi
      exact .inr (.inr ⟨by omega, hu, of_decide_eq_true ho, this.1, this.2, vaEq_zero.1 hv⟩)

theorem u8of_nat {b : UInt8} : u8of b.toNat = b := u8of_of_toNat b

theorem take_drop_join {l : List UInt8} {p q : Nat} (h : p ≤ q) : (l.drop p).take (q - p) ++ l.drop q = l.drop p := by
  have e : l.drop q = (l.drop p).drop (q - p) := by rw [List.drop_drop]; congr 1; omega
  rw [e, List.take_append_drop]

/-- What is taken whole is what was put. -/
theorem scTake_ok {l : List UInt8} (h1 : (scTake l).2 = true) (h2 : scMay (scTake l).1 = true) : scBytes (scTake l).1 = l := by
  unfold scTake at h1 h2 ⊢
  by_cases h0 : l = []
  · rw [if_pos h0] at h1; simp at h1
  rw [if_neg h0] at h1 h2 ⊢
  obtain ⟨b, r, rfl⟩ : ∃ b r, l = b :: r := by cases l with
    | nil => exact absurd rfl h0
    | cons b r => exact ⟨b, r, rfl⟩
  obtain ⟨u, p, er, hu⟩ : ∃ u p er, idTake (b :: r) 1 = (u, p, er) := ⟨_, _, _, rfl⟩
  rw [hu] at h1 h2 ⊢
  by_cases he : er = 0
  case neg => rw [if_pos (by simpa using he)] at h1; simp at h1
  subst he
  rw [if_neg (by simp)] at h1 h2 ⊢
  obtain ⟨u1, u2, u3, u4⟩ := idTake_bytes (p := 1) hu
  have e0 : (b :: r).getD 0 0 = b := rfl
  rw [e0] at h1 h2 ⊢
  generalize hb : b.toNat = k at h1 h2 ⊢
  have hkb : u8of k = b := by rw [← hb]; exact u8of_of_toNat b
  simp only at h1 h2 ⊢
  have hr1 : (b :: r).drop 1 = r := rfl
  unfold scPart at h1 h2 ⊢
  by_cases c6 : 1 ≤ k ∧ k ≤ 6
  · rw [if_pos c6] at h1 h2 ⊢
    obtain ⟨o, q, er, ho⟩ : ∃ o q er, idTake (b :: r) p = (o, q, er) := ⟨_, _, _, rfl⟩
    rw [ho] at h1 h2 ⊢
    by_cases he : er = 0
    case neg => rw [if_pos (by simpa using he)] at h1; simp at h1
    subst he
    rw [if_neg (by simp)] at h1 h2 ⊢
    obtain ⟨o1, o2, o3, o4⟩ := idTake_bytes ho
    simp only [decide_eq_true_eq] at h1
    subst h1
    unfold scBytes scTail
    simp only
    rw [if_pos (by omega), u4, o4, Int.toNat_natCast, hkb]
    have : List.take ((b :: r).length - p) (List.drop p (b :: r)) = List.drop p (b :: r) := List.take_of_length_le (by simp)
    rw [this, take_drop_join u2, hr1]
  rw [if_neg c6] at h1 h2 ⊢
  by_cases c7 : k = 7
  · rw [if_pos c7] at h1 h2 ⊢
    by_cases hp : p < (b :: r).length
    case neg => rw [if_neg hp] at h1; simp at h1
    rw [if_pos hp] at h1 h2 ⊢
    obtain ⟨v, q, er, hv⟩ : ∃ v q er, vaTake (b :: r) ((p + 1 : Nat) : Int) = (v, q, er) := ⟨_, _, _, rfl⟩
    rw [hv] at h1 h2 ⊢
    by_cases he : er = 0
    case neg => rw [if_pos (by simpa using he)] at h1; simp at h1
    subst he
    rw [if_neg (by simp)] at h1 h2 ⊢
    obtain ⟨v1, v2, v3, v4⟩ := vaPut_take hv
    simp only [decide_eq_true_eq] at h1
    subst h1
    unfold scBytes scTail
    simp only
    rw [if_neg (by omega), if_pos (by omega), u4, v4, Int.toNat_natCast, hkb, Int.toNat_natCast, u8of_nat]
    have e2 : List.take ((b :: r).length - (p + 1)) (List.drop (p + 1) (b :: r)) = List.drop (p + 1) (b :: r) := List.take_of_length_le (by simp)
    have e3 : (b :: r).getD p 0 :: List.drop (p + 1) (b :: r) = List.drop p (b :: r) := by
      rw [List.drop_eq_getElem_cons hp, List.getD_eq_getElem?_getD, List.getElem?_eq_getElem hp]
      rfl
    rw [e2, e3, take_drop_join u2, hr1]
  rw [if_neg c7] at h1 h2 ⊢
  by_cases c8 : k = 8
  · rw [if_pos c8] at h1 h2 ⊢
    by_cases hp : p < (b :: r).length
    case neg => rw [if_neg hp] at h1; simp at h1
    rw [if_pos hp] at h1 h2 ⊢
    simp only [decide_eq_true_eq] at h1
    unfold scBytes scTail
    simp only
    rw [if_neg (by omega), if_neg (by omega), u4, Int.toNat_natCast, hkb, Int.toNat_natCast, u8of_nat]
    have e3 : [(b :: r).getD p 0] = List.drop p (b :: r) := by
      rw [List.drop_eq_getElem_cons hp, List.getD_eq_getElem?_getD, List.getElem?_eq_getElem hp, List.drop_of_length_le (by omega)]
      rfl
    rw [e3, take_drop_join u2, hr1]
  · rw [if_neg c8] at h2
    obtain ⟨h, _⟩ := scMay_parts h2
    simp only at h
    omega

theorem scBytes_take {e : Ev} (h : scMay e = true) : idTake (scBytes e) 1 = (e.u, 1 + (vput e.u.length).length + e.u.length, 0) ∧ (scBytes e).getD 0 0 = u8of e.k.toNat ∧ scBytes e ≠ [] := by
  have hu := (scMay_parts h).2.1
  have := idTake_at hu [u8of e.k.toNat] (scTail e)
  exact ⟨this, rfl, by simp [scBytes]⟩

theorem scBytes_len (e : Ev) : (scBytes e).length = 1 + (vput e.u.length).length + e.u.length + (scTail e).length := by
  simp [scBytes]
  omega

theorem scBytes_drop (e : Ev) : scBytes e = (u8of e.k.toNat :: (vput e.u.length ++ e.u)) ++ scTail e := by simp [scBytes]

/-- What is put is taken whole. -/
theorem scTake_put {e : Ev} (h : scMay e = true) : scTake (scBytes e) = (e, true) := by
  obtain ⟨t1, t2, t3⟩ := scBytes_take h
  have hk := (scMay_parts h).1
  have hl := scBytes_len e
  have hpl : (u8of e.k.toNat :: (vput e.u.length ++ e.u)).length = 1 + (vput e.u.length).length + e.u.length := by simp; omega
  unfold scTake
  rw [if_neg t3, t1, if_neg (by simp), t2, u8of_toNat (by omega)]
  simp only
  unfold scPart
  rcases scMay_kinds h with ⟨k1, k6, hu, ho, hi, hv⟩ | ⟨k7, hu, ho, i0, i4, hv⟩ | ⟨k8, hu, ho, i0, i4, hv⟩
  · rw [if_pos (by omega)]
    have ht : scTail e = vput e.o.length ++ e.o ++ [] := by unfold scTail; rw [if_pos k6, List.append_nil]
    have e1 := idTake_at ho (u8of e.k.toNat :: (vput e.u.length ++ e.u)) []
    rw [← ht, ← scBytes_drop, hpl] at e1
    rw [e1, if_neg (by simp)]
    obtain ⟨k, u, o, id, v⟩ := e
    simp only at hi hv k1
    subst hi hv
    simp only [Prod.mk.injEq, decide_eq_true_eq]
    refine ⟨by rw [show ((k.toNat : Nat) : Int) = k by omega], ?_⟩
    rw [hl, ht]
    simp
    omega
  · rw [if_neg (by omega), if_pos (by omega)]
    have ht : scTail e = u8of e.id.toNat :: vaBytes e.v := by unfold scTail; rw [if_neg (by omega), if_pos k7]
    have hp : 1 + (vput e.u.length).length + e.u.length < (scBytes e).length := by rw [hl, ht]; simp
    rw [if_pos hp]
    have e1 := vaTake_put hv (u8of e.k.toNat :: (vput e.u.length ++ e.u) ++ [u8of e.id.toNat]) []
    have e2 : (u8of e.k.toNat :: (vput e.u.length ++ e.u) ++ [u8of e.id.toNat]) ++ (vaBytes e.v ++ []) = scBytes e := by rw [scBytes_drop, ht]; simp
    have e3 : (u8of e.k.toNat :: (vput e.u.length ++ e.u) ++ [u8of e.id.toNat]).length = 1 + (vput e.u.length).length + e.u.length + 1 := by rw [List.length_append, hpl]; rfl
    rw [e2, e3] at e1
    rw [e1, if_neg (by simp)]
    have e4 : (scBytes e).getD (1 + (vput e.u.length).length + e.u.length) 0 = u8of e.id.toNat := by
      rw [scBytes_drop, List.getD_eq_getElem?_getD, List.getElem?_append_right (by rw [hpl]; exact Nat.le_refl _), hpl, ht, Nat.sub_self]
      rfl
    rw [e4, u8of_toNat (by omega)]
    obtain ⟨k, u, o, id, v⟩ := e
    simp only at ho k7 i0
    subst ho
    simp only [Prod.mk.injEq, decide_eq_true_eq]
    refine ⟨by rw [show ((k.toNat : Nat) : Int) = k by omega, show ((id.toNat : Nat) : Int) = id by omega], ?_⟩
    rw [hl, ht]
    simp
    omega
  · rw [if_neg (by omega), if_neg (by omega), if_pos (by omega)]
    have ht : scTail e = [u8of e.id.toNat] := by unfold scTail; rw [if_neg (by omega), if_neg (by omega)]
    have hp : 1 + (vput e.u.length).length + e.u.length < (scBytes e).length := by rw [hl, ht]; simp
    rw [if_pos hp]
    have e4 : (scBytes e).getD (1 + (vput e.u.length).length + e.u.length) 0 = u8of e.id.toNat := by
      rw [scBytes_drop, List.getD_eq_getElem?_getD, List.getElem?_append_right (by rw [hpl]; exact Nat.le_refl _), hpl, ht, Nat.sub_self]
      rfl
    rw [e4, u8of_toNat (by omega)]
    obtain ⟨k, u, o, id, v⟩ := e
    simp only at ho k8 i0 hv
    subst ho hv
    simp only [Prod.mk.injEq, decide_eq_true_eq]
    refine ⟨by rw [show ((k.toNat : Nat) : Int) = k by omega, show ((id.toNat : Nat) : Int) = id by omega], ?_⟩
    rw [hl, ht]
    simp

/-- What is encoded is decoded. -/
theorem scDec_enc {e : Ev} (h : scMay e = true) : scDec (cseal (scBytes e)) = (e, 0) := by
  unfold scDec
  rw [copen_seal, scTake_put h]
  simp [h]

theorem scDec_ok {s : List UInt8} {e : Ev} (h : scDec s = (e, 0)) : scMay e = true ∧ cseal (scBytes e) = s := by
  unfold scDec at h
  by_cases h1 : (copen s).2 = 0
  · rw [if_neg (by simpa using h1)] at h
    by_cases h2 : ((scTake (copen s).1).2 && scMay (scTake (copen s).1).1) = true
    · rw [if_pos h2] at h
      simp only [Prod.mk.injEq, and_true] at h
      simp only [Bool.and_eq_true] at h2
      have e1 := scTake_ok h2.1 h2.2
      rw [h] at h2 e1
      exact ⟨h2.2, by rw [e1]; exact copen_ok (by rw [← h1])⟩
    · rw [if_neg h2] at h; simp at h
  · rw [if_pos h1] at h
    simp only [Prod.mk.injEq] at h
    exact absurd h.2 h1

theorem scBytes_short {e : Ev} (h : scMay e = true) : (cseal (scBytes e)).length ≤ 120 := by
  have hl := scBytes_len e
  have h1 := vput_len_le e.u.length
  have h2 := (idIs_parts (scMay_parts h).2.1).2.1
  have hs : (cseal (scBytes e)).length = (scBytes e).length + 4 := by simp [cseal, low4]
  have ht : (scTail e).length ≤ 60 := by
    unfold scTail
    rcases scMay_kinds h with ⟨k1, k6, hu, ho, hi, hv⟩ | ⟨k7, hu, ho, i0, i4, hv⟩ | ⟨k8, hu, ho, i0, i4, hv⟩
    · rw [if_pos k6]
      have := vput_len_le e.o.length
      have := (idIs_parts ho).2.1
      simp
      omega
    · rw [if_neg (by omega), if_pos k7]
      have := vaBytes_len hv
      have := vput_len_le e.v.si.toNat
      have := (vaMay_parts hv).2.2.2.2.2.2
      simp
      omega
    · rw [if_neg (by omega), if_neg (by omega)]
      simp
  omega

/-- Events, one behind the other, each sealed, behind its length. -/
def scCat (l : List Ev) : List UInt8 := tflat (l.map fun e => cseal (scBytes e))

def scBatch (l : List Ev) : List UInt8 × Nat := if (decide (l.length ≤ 100) && l.all scMay) = true then (scCat l, 0) else ([], 1)

theorem scCat_nil : scCat [] = [] := rfl
theorem scCat_cons (e : Ev) (l : List Ev) : scCat (e :: l) = vput (cseal (scBytes e)).length ++ cseal (scBytes e) ++ scCat l := by simp [scCat, tflat]
theorem scCat_append (l m : List Ev) : scCat (l ++ m) = scCat l ++ scCat m := by simp [scCat, tflat]
theorem scCat_one (e : Ev) : scCat [e] = vput (cseal (scBytes e)).length ++ cseal (scBytes e) := by rw [scCat_cons, scCat_nil, List.append_nil]

theorem scCat_len : ∀ (l : List Ev), l.all scMay = true → (scCat l).length ≤ 130 * l.length
  | [], _ => by simp [scCat_nil]
  | e :: l, h => by
    simp only [List.all_cons, Bool.and_eq_true] at h
    have h1 := scBytes_short h.1
    have h2 := vput_len_le (cseal (scBytes e)).length
    have h3 := scCat_len l h.2
    rw [scCat_cons]
    simp only [List.length_append, List.length_cons]
    omega

/-- The events of which a text is made. -/
def UnIs (s : List UInt8) (m : List Ev) (er : Nat) : Prop :=
  (er = 0 ∧ m.length ≤ 100 ∧ m.all scMay = true ∧ s = scCat m) ∨ (er = 3 ∧ m = [] ∧ ∀ x : List Ev, x.length ≤ 100 → x.all scMay = true → s ≠ scCat x)

theorem scCat_inj : ∀ {l m : List Ev}, l.all scMay = true → m.all scMay = true → ∀ {r : List UInt8}, scCat l ++ r = scCat m → ∃ x, m = l ++ x ∧ r = scCat x
  | [], m, _, _, r, h => ⟨m, rfl, by simpa [scCat_nil] using h⟩
  | e :: l, [], h1, _, r, h => by
    have h3 : (scCat (e :: l) ++ r).length = 0 := congrArg List.length h
    have h2 := vput_len_pos (cseal (scBytes e)).length
    rw [scCat_cons, List.length_append, List.length_append, List.length_append] at h3
    omega
  | e :: l, f :: m, h1, h2, r, h => by
    simp only [List.all_cons, Bool.and_eq_true] at h1 h2
    have le := scBytes_short h1.1
    have lf := scBytes_short h2.1
    have t1 := vtake_text [] (cseal (scBytes e)) (scCat l ++ r) 300 (by omega) (by omega)
    have t2 := vtake_text [] (cseal (scBytes f)) (scCat m) 300 (by omega) (by omega)
    simp only [List.nil_append, List.length_nil] at t1 t2
    rw [scCat_cons, scCat_cons, List.append_assoc] at h
    rw [h, t2] at t1
    have he : cseal (scBytes f) = cseal (scBytes e) := (Prod.mk.injEq .. ▸ t1).1
    have d1 := scDec_enc h1.1
    have d2 := scDec_enc h2.1
    rw [he, d1] at d2
    have hef : e = f := (Prod.mk.injEq .. ▸ d2).1
    subst hef
    obtain ⟨x, hx, hr⟩ := scCat_inj h1.2 h2.2 (List.append_cancel_left h)
    exact ⟨x, by rw [hx]; rfl, hr⟩

theorem unIs_one {s : List UInt8} {m m' : List Ev} {er er' : Nat} (h : UnIs s m er) (h' : UnIs s m' er') : m = m' ∧ er = er' := by
  rcases h with ⟨rfl, hl, ha, hs⟩ | ⟨rfl, rfl, hn⟩ <;> rcases h' with ⟨rfl, hl', ha', hs'⟩ | ⟨rfl, rfl, hn'⟩
  · obtain ⟨x, hx, hr⟩ := scCat_inj (r := []) ha ha' (by rw [List.append_nil, ← hs, hs'])
    have : x = [] := by
      cases x with
      | nil => rfl
      | cons e x =>
        have h2 := vput_len_pos (cseal (scBytes e)).length
        have h3 : 0 = (scCat (e :: x)).length := congrArg List.length hr
        rw [scCat_cons, List.length_append, List.length_append] at h3
        omega
    subst this
    exact ⟨by rw [hx, List.append_nil], rfl⟩
  · exact absurd hs (hn' _ hl ha)
  · exact absurd hs' (hn _ hl' ha')
  · exact ⟨rfl, rfl⟩

/-- What was read of a text so far. -/
def UnAt (s : List UInt8) (l : List Ev) (p : Nat) : Prop := p ≤ s.length ∧ l.all scMay = true ∧ s.take p = scCat l

theorem unAt_start (s : List UInt8) : UnAt s [] 0 := ⟨Nat.zero_le _, rfl, by simp [scCat_nil]⟩

/-- One more. -/
theorem unAt_next {s : List UInt8} {l : List Ev} {p : Nat} (h : UnAt s l p) {m : Int} {t : List UInt8} {q : Nat} (ht : vtake s (p : Int) m = (t, q, 0)) {e : Ev} (he : scDec t = (e, 0)) : UnAt s (l ++ [e]) q ∧ p < q := by
  obtain ⟨h1, h2, h3, _⟩ := vtake_bytes ht
  obtain ⟨d1, d2⟩ := scDec_ok he
  subst d2
  have hlt : p < q := by
    have := congrArg List.length h3
    have h5 := vput_len_pos (cseal (scBytes e)).length
    simp at this
    omega
  refine ⟨⟨h2, by simp [h.2.1, d1], ?_⟩, hlt⟩
  rw [scCat_append, ← h.2.2, scCat_one, h3, ← List.drop_take]
  have e1 : s.take p = (s.take q).take p := by rw [List.take_take, Nat.min_eq_left h1]
  rw [e1]
  exact (List.take_append_drop _ _).symm

/-- Nothing is made of a text at which there is no more event. -/
theorem unAt_stuck {s : List UInt8} {l : List Ev} {p : Nat} (h : UnAt s l p) (hp : p < s.length) {m : Int} (hm : 300 ≤ m ∨ (s.length : Int) ≤ m) {t : List UInt8} {q er : Nat} (ht : vtake s (p : Int) m = (t, q, er)) {e : Ev} {n : Nat} (he : scDec t = (e, n)) (hbad : er ≠ 0 ∨ n ≠ 0) :
    ∀ x : List Ev, x.all scMay = true → s ≠ scCat x := by
  intro x hx hs
  have e1 : scCat l ++ s.drop p = scCat x := by rw [← h.2.2, List.take_append_drop, hs]
  obtain ⟨y, hy, hr⟩ := scCat_inj h.2.1 hx e1
  cases y with
  | nil =>
    have := congrArg List.length hr
    rw [scCat_nil] at this
    simp at this
    omega
  | cons f y =>
    rw [hy, List.all_append, List.all_cons] at hx
    simp only [Bool.and_eq_true] at hx
    have lf := scBytes_short hx.2.1
    have hm2 : ((cseal (scBytes f)).length : Int) ≤ m := by
      rcases hm with h1 | h1
      · omega
      · have h2 := congrArg List.length hr
        rw [scCat_cons, List.length_append, List.length_append, List.length_drop] at h2
        omega
    have t1 := vtake_text (s.take p) (cseal (scBytes f)) (scCat y) m (by omega) hm2
    rw [← scCat_cons, ← hr, List.take_append_drop, List.length_take, Nat.min_eq_left h.1, ht] at t1
    simp only [Prod.mk.injEq] at t1
    obtain ⟨rfl, _, rfl⟩ := t1
    rw [scDec_enc hx.2.1] at he
    simp only [Prod.mk.injEq] at he
    rcases hbad with hb | hb
    · exact hb rfl
    · exact hb he.2.symm

/-- More than a hundred. -/
theorem unAt_many {s : List UInt8} {l : List Ev} {p : Nat} (h : UnAt s l p) (hl : 100 ≤ l.length) (hp : p < s.length ∨ 100 < l.length) : ∀ x : List Ev, x.length ≤ 100 → x.all scMay = true → s ≠ scCat x := by
  intro x hxl hx hs
  have e1 : scCat l ++ s.drop p = scCat x := by rw [← h.2.2, List.take_append_drop, hs]
  obtain ⟨y, hy, hr⟩ := scCat_inj h.2.1 hx e1
  have hxy := congrArg List.length hy
  rw [List.length_append] at hxy
  have : y = [] := List.length_eq_zero_iff.1 (by omega)
  subst this
  have := congrArg List.length hr
  rw [scCat_nil] at this
  simp at this
  omega

theorem unAt_end {s : List UInt8} {l : List Ev} {p : Nat} (h : UnAt s l p) (hl : l.length ≤ 100) (hp : s.length ≤ p) : UnIs s l 0 :=
  .inl ⟨rfl, hl, h.2.1, by rw [← h.2.2, List.take_of_length_le hp]⟩

theorem unIs_none {s : List UInt8} (h : ∀ x : List Ev, x.length ≤ 100 → x.all scMay = true → s ≠ scCat x) : UnIs s [] 3 := .inr ⟨rfl, rfl, h⟩

end Go.Proofs.YthfkfonfiejbmaaGreat

end

section

/-
  '==' OF TWO VALUES.
-/
namespace Go.Proofs.YthfkfonfiejbmaaGreat
open Go.RowKit

theorem val_eql (a b c a' b' c' : Int) (s s' : List UInt8) (w : World) :
    (binOp .eql 27 (.agg #[.int .i64 a, .int .i64 b, .int .i64 c, .string ⟨s.toArray⟩]) (.agg #[.int .i64 a', .int .i64 b', .int .i64 c', .string ⟨s'.toArray⟩])).run Tryz.prog w = .ok (.bool (vaEq ⟨a, b, c, s⟩ ⟨a', b', c', s'⟩)) w := by
  have hS : Tryz.prog.underlying 27 = some (.struct (Tryz.prog.fieldsOf 27)) := by kernel_rfl
  have hp : Tryz.prog.stoodInHeld 27 = false := by kernel_rfl
  have u3 := Tryz.underlying3
  have u9 := Tryz.underlying9
  have a3 := Tryz.isAgg3
  have z3 := Tryz.sizeOf3
  have a9 := Tryz.isAgg9
  have z9 := Tryz.sizeOf9
  rw [run_eql_struct, show (10000 : Nat) = 9999 + 1 from rfl, run_equalIn_agg w 9999 27 _ _ hS hp]
  simp only [Program.fieldsOf, Tryz.underlying27]
  go_simp
  unfold vaEq
  by_cases h1 : a = a' <;> by_cases h2 : b = b' <;> by_cases h3 : c = c' <;> by_cases h4 : s = s' <;> simp [h1, h2, h3, h4]

end Go.Proofs.YthfkfonfiejbmaaGreat

end

section

/-
  THE CONTRACTS OF value.May (with mayBeStatus) AND OF THE DOCUMENT'S ANSWER TO IT.
-/
namespace Go.Proofs.YthfkfonfiejbmaaGreat
open Go.RowKit

theorem chOk_lo {b : UInt8} (h : b.toNat < 32) : chOk b = false := by unfold chOk; simp; omega
theorem chOk_hi {b : UInt8} (h : 126 < b.toNat) : chOk b = false := by unfold chOk; simp; omega
theorem chOk_yes {b : UInt8} (h : ¬ b.toNat < 32) (h' : ¬ 126 < b.toNat) : chOk b = true := by unfold chOk; simp; omega

theorem all_take_succ {l : List UInt8} {k : Nat} {b : UInt8} (hb : l[k]? = some b) (p : UInt8 → Bool) : (l.take (k + 1)).all p = ((l.take k).all p && p b) := by
  obtain ⟨h1, h2⟩ := List.getElem?_eq_some_iff.1 hb
  rw [List.take_succ_eq_append_getElem h1, h2, List.all_append]
  simp

theorem all_no {l : List UInt8} {k : Nat} {b : UInt8} (hb : l[k]? = some b) {p : UInt8 → Bool} (h : p b = false) : l.all p = false := by
  obtain ⟨h1, h2⟩ := List.getElem?_eq_some_iff.1 hb
  rw [Bool.eq_false_iff]
  intro h'
  have := List.all_eq_true.1 h' l[k] (List.getElem_mem h1)
  rw [h2, h] at this
  cases this

set_option maxHeartbeats 400000 in
set_option maxRecDepth 100000 in
theorem stat_any (l : List UInt8) (hl : l.length ≤ 4294967296) (w : World) :
    Calls Tryz.prog 106 #[.string ⟨l.toArray⟩] w fun e w' => e = .returned (.bool (stOk l)) ∧ w = w' := by
  by_cases h : 32 < l.length
  · have HR : Hid (stOk l = false) := by show _ = _; unfold stOk; simp; omega
    go_enter Tryz.func106, Tryz.ntmps106
    go_wp2_with fail
    go_ret
    exact ⟨by rw [HR.out]; rfl, rfl⟩
  · have h32 : decide (l.length ≤ 32) = true := by simp; omega
    have H32 := Lib.hid h32
    clear h32
    go_enter Tryz.func106, Tryz.ntmps106
    go_wp2_with fail
    go_loop [9] (fun i => ∃ k : Nat, k ≤ l.length ∧ i = .int .i64 k ∧ Hid ((l.take k).all chOk = true)) (fun i => l.length - (intOf i).toNat)
    case atStart => exact ⟨0, by omega, rfl, by show _ = _; simp⟩
    case round =>
      obtain ⟨k, hk, rfl, HA⟩ := hrel
      by_cases hlt : k < l.length
      · have hlt' : k < (⟨l.toArray⟩ : ByteArray).size := by rw [size_bytes]; exact hlt
        obtain ⟨b, hb⟩ : ∃ b : UInt8, (⟨l.toArray⟩ : ByteArray)[k]'hlt' = b := ⟨_, rfl⟩
        have HB : Hid (l[k]? = some b) := by rw [← hb]; exact bytes_at l k hlt'
        have h256 := b.toNat_lt
        by_cases h1 : b.toNat < 32
        · have HN : Hid (stOk l = false) := by show _ = _; unfold stOk; rw [all_no HB.out (chOk_lo h1)]; simp
          go_wp2_with fail
          go_ret
          exact ⟨by rw [HN.out]; rfl, rfl⟩
        · by_cases h2 : 126 < b.toNat
          · have HN : Hid (stOk l = false) := by show _ = _; unfold stOk; rw [all_no HB.out (chOk_hi h2)]; simp
            go_wp2_with fail
            go_ret
            exact ⟨by rw [HN.out]; rfl, rfl⟩
          · have HN : Hid ((l.take (k + 1)).all chOk = true) := by show _ = _; rw [all_take_succ HB.out, HA.out, chOk_yes h1 h2]; rfl
            go_wp2_with fail
            go_round
            case rel => exact ⟨k + 1, by omega, by go_num, HN⟩
            case measure => simp [intOf]; omega
      · obtain rfl : k = l.length := by omega
        have HR : Hid (stOk l = true) := by
          show _ = _
          have := HA.out
          rw [List.take_length] at this
          unfold stOk
          rw [this, H32.out]
          rfl
        go_wp2_with fail
        go_ret
        exact ⟨by rw [HR.out]; rfl, rfl⟩

/-- A value as the model lays it. -/
def numsV (a b c : Int) (l : List UInt8) : Value := .agg #[.int .i64 a, .int .i64 b, .int .i64 c, .string ⟨l.toArray⟩]

theorem numsOk_cases (a b c : Int) : (numsOk a b c = true ∧ 1 ≤ a ∧ a ≤ 4 ∧ -128 ≤ b ∧ b ≤ 127 ∧ 0 ≤ c ∧ c ≤ 1099511627776) ∨
    (numsOk a b c = false ∧ (a < 1 ∨ (1 ≤ a ∧ 4 < a) ∨ (1 ≤ a ∧ a ≤ 4 ∧ b < -128) ∨ (1 ≤ a ∧ a ≤ 4 ∧ -128 ≤ b ∧ 127 < b) ∨ (1 ≤ a ∧ a ≤ 4 ∧ -128 ≤ b ∧ b ≤ 127 ∧ c < 0) ∨ (1 ≤ a ∧ a ≤ 4 ∧ -128 ≤ b ∧ b ≤ 127 ∧ 0 ≤ c ∧ 1099511627776 < c))) := by
  unfold numsOk
  by_cases h : 1 ≤ a ∧ a ≤ 4 ∧ -128 ≤ b ∧ b ≤ 127 ∧ 0 ≤ c ∧ c ≤ 1099511627776
  · exact .inl ⟨by simpa using h, h⟩
  · exact .inr ⟨by simpa using h, by omega⟩

set_option maxHeartbeats 800000 in
set_option maxRecDepth 100000 in
theorem may_any (a b c : Int) (l : List UInt8) (hl : l.length ≤ 4294967296) (w : World) :
    Calls Tryz.prog 84 #[.agg #[.int .i64 a, .int .i64 b, .int .i64 c, .string ⟨l.toArray⟩]] w fun e w' => e = .returned (.bool (vaMay ⟨a, b, c, l⟩)) ∧ Below w.heap.size w w' := by
  rcases numsOk_cases a b c with ⟨h, h1, h2, h3, h4, h5, h6⟩ | ⟨h, hor⟩
  · have HR : Hid (vaMay ⟨a, b, c, l⟩ = stOk l) := by show _ = _; unfold vaMay; simp only; rw [h]; rfl
    clear h
    go_enter Tryz.func84, Tryz.ntmps84
    go_wp2_with fail
    refine (stat_any l hl _).mono ?_
    rintro e w' ⟨rfl, rfl⟩
    go_wp2_with fail
    go_ret
    exact ⟨by rw [HR.out]; rfl, (Below.refl _ _).alloc (Nat.le_refl _) _⟩
  · have HR : Hid (vaMay ⟨a, b, c, l⟩ = false) := by show _ = _; unfold vaMay; simp only; rw [h]; rfl
    clear h
    rcases hor with h1 | ⟨h1, h2⟩ | ⟨h1, h2, h3⟩ | ⟨h1, h2, h3, h4⟩ | ⟨h1, h2, h3, h4, h5⟩ | ⟨h1, h2, h3, h4, h5, h6⟩
    all_goals
      go_enter Tryz.func84, Tryz.ntmps84
      go_wp2_with fail
      go_ret
      exact ⟨by rw [HR.out]; rfl, (Below.refl _ _).alloc (Nat.le_refl _) _⟩

set_option maxHeartbeats 1600000 in
set_option maxRecDepth 100000 in
theorem rmay_any (a b c : Int) (l : List UInt8) (hl : l.length ≤ 4294967296) (w : World) :
    Calls Tryz.prog 77 #[.agg #[.int .i64 a, .int .i64 b, .int .i64 c, .string ⟨l.toArray⟩]] w fun e w' => e = .returned (.bool (vaMay ⟨a, b, c, l⟩)) ∧ Below w.heap.size w w' := by
  rcases numsOk_cases a b c with ⟨h, h1, h2, h3, h4, h5, h6⟩ | ⟨h, hor⟩
  · have HM : Hid (vaMay ⟨a, b, c, l⟩ = stOk l) := by show _ = _; unfold vaMay; simp only; rw [h]; rfl
    clear h
    by_cases h : 32 < l.length
    · have HR : Hid (vaMay ⟨a, b, c, l⟩ = false) := by show _ = _; rw [HM.out]; unfold stOk; simp; omega
      clear HM
      go_enter Tryz.func77, Tryz.ntmps77
      go_wp2_with fail
      go_ret
      exact ⟨by rw [HR.out]; rfl, (Below.refl _ _).alloc (Nat.le_refl _) _⟩
    · have h32 : decide (l.length ≤ 32) = true := by simp; omega
      have H32 := Lib.hid h32
      clear h32
      go_enter Tryz.func77, Tryz.ntmps77
      go_wp2_with fail
      go_loop [3] (fun i => ∃ k : Nat, k ≤ l.length ∧ i = .int .i64 k ∧ Hid ((l.take k).all chOk = true)) (fun i => l.length - (intOf i).toNat)
      case atStart => exact ⟨0, by omega, rfl, by show _ = _; simp⟩
      case round =>
        obtain ⟨k, hk, rfl, HA⟩ := hrel
        by_cases hlt : k < l.length
        · have hlt' : k < (⟨l.toArray⟩ : ByteArray).size := by rw [size_bytes]; exact hlt
          obtain ⟨b, hb⟩ : ∃ b : UInt8, (⟨l.toArray⟩ : ByteArray)[k]'hlt' = b := ⟨_, rfl⟩
          have HB : Hid (l[k]? = some b) := by rw [← hb]; exact bytes_at l k hlt'
          have h256 := b.toNat_lt
          by_cases h1 : b.toNat < 32
          · have HN : Hid (stOk l = false) := by show _ = _; unfold stOk; rw [all_no HB.out (chOk_lo h1)]; simp
            go_wp2_with fail
            go_ret
            exact ⟨by rw [HM.out, HN.out]; rfl, (Below.refl _ _).alloc (Nat.le_refl _) _⟩
          · by_cases h2 : 126 < b.toNat
            · have HN : Hid (stOk l = false) := by show _ = _; unfold stOk; rw [all_no HB.out (chOk_hi h2)]; simp
              go_wp2_with fail
              go_ret
              exact ⟨by rw [HM.out, HN.out]; rfl, (Below.refl _ _).alloc (Nat.le_refl _) _⟩
            · have HN : Hid ((l.take (k + 1)).all chOk = true) := by show _ = _; rw [all_take_succ HB.out, HA.out, chOk_yes h1 h2]; rfl
              go_wp2_with fail
              go_round
              case rel => exact ⟨k + 1, by omega, by go_num, HN⟩
              case measure => simp [intOf]; omega
        · obtain rfl : k = l.length := by omega
          have HR : Hid (stOk l = true) := by
            show _ = _
            have := HA.out
            rw [List.take_length] at this
            unfold stOk
            rw [this, H32.out]
            rfl
          go_wp2_with fail
          go_ret
          exact ⟨by rw [HM.out, HR.out]; rfl, (Below.refl _ _).alloc (Nat.le_refl _) _⟩
  · have HR : Hid (vaMay ⟨a, b, c, l⟩ = false) := by show _ = _; unfold vaMay; simp only; rw [h]; rfl
    clear h
    rcases hor with h1 | ⟨h1, h2⟩ | ⟨h1, h2, h3⟩ | ⟨h1, h2, h3, h4⟩ | ⟨h1, h2, h3, h4, h5⟩ | ⟨h1, h2, h3, h4, h5, h6⟩
    all_goals
      go_enter Tryz.func77, Tryz.ntmps77
      go_wp2_with fail
      go_ret
      exact ⟨by rw [HR.out]; rfl, (Below.refl _ _).alloc (Nat.le_refl _) _⟩

end Go.Proofs.YthfkfonfiejbmaaGreat

end
