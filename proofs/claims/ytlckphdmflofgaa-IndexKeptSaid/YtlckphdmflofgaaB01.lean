/-
  TEXTS OF THE PROOF, one behind the other: VarPure, Kit, Seq, Aid, IdPure, IxPure, IxKey, IxMap, AllQ, IxMem, IxRef, OpenS, IxKFrame, IxRaw, IxPut, HeaPure, HeaMem, IxLay, IxShort.
-/
import Derived.WalkKit
import Derived.BigQuiet
import Derived.Lib.QuietBelow
import Derived.Laws.IdiomCopy
import Derived.Laws.AppendOwnNone
import Derived.Lib.AppendZerosOnto
import Derived.Lib.Overlaps
import Derived.Deep.RegionLaw
import Derived.Laws.Externs
import Derived.Lib.SliceRun
import Derived.Lib.Bytealg
import Derived.Sort.Statements
import Derived.Shelf.SlSortCmp.Insertion
import Derived.Lib.SlicesCompact
import Derived.Test.YtlckphdmflofgaaProg
import Derived.DeepKeys4
import Derived.Maps.OwnSet
import Derived.Test.YtlckphdmflofgaaRows
import Derived.Laws.AppendOwn
import Derived.Deep.AppendLies
import Derived.Lib.Hide
import Derived.ProofKit
import Derived.OpenShut
import Derived.Lib.SmallJoins
import Derived.Deep.Slices
import Derived.Deep.Fields
import Derived.ChangeSame
import Derived.BigRegion
import Derived.Deep.RegionHeld
import Derived.Deep.QuietTactic
import Derived.StillTailTactics
import Derived.WalkMore
import Derived.Deep.Cut
import Derived.OwnWalk
import Derived.Deep.DeepMust

section
/-
  PLAIN MATHEMATICS OF LAYER 1 (varint): numbers in sevens of bits, and how they are read. No program in sight.
-/
namespace Go.Proofs.Ytlckphdmflofgaa

/-- A number's byte: a name that no rule of the walk takes apart. -/
def u8of (n : Nat) : UInt8 := UInt8.ofNat n

/-- The bytes of n, with fuel k. -/
def vputF : Nat → Nat → List UInt8
  | 0, n => [u8of n]
  | k + 1, n => if n < 128 then [u8of n] else u8of (n % 128 + 128) :: vputF k (n / 128)

/-- The bytes of n (below 2^64). -/
def vput (n : Nat) : List UInt8 := vputF 9 n

/-- What stands at a list's head, as the byte of index i of a number: the number, how many bytes it takes, and the error (0, 2, 3). -/
def vgetF (i : Nat) : List UInt8 → Nat × Nat × Nat
  | [] => (0, 0, 2)
  | b :: r =>
    if i = 9 ∧ 1 < b.toNat then (0, 0, 3)
    else if b.toNat < 128 then (if b.toNat = 0 ∧ 0 < i then (0, 0, 3) else (b.toNat, 1, 0))
    else
      if (vgetF (i + 1) r).2.2 = 0 then (b.toNat % 128 + 128 * (vgetF (i + 1) r).1, (vgetF (i + 1) r).2.1 + 1, 0)
      else (0, 0, (vgetF (i + 1) r).2.2)

/-- The number at a place of bytes: number, place behind it, error. -/
def vget (s : List UInt8) (at' : Int) : Nat × Nat × Nat :=
  if at' < 0 ∨ (s.length : Int) < at' then (0, 0, 1)
  else
    if (vgetF 0 (s.drop at'.toNat)).2.2 = 0 then ((vgetF 0 (s.drop at'.toNat)).1, at'.toNat + (vgetF 0 (s.drop at'.toNat)).2.1, 0)
    else (0, 0, (vgetF 0 (s.drop at'.toNat)).2.2)

/-- What is read so far, and what is still to be read, put together. -/
def comb (i acc : Nat) (r : Nat × Nat × Nat) : Nat × Nat × Nat := if r.2.2 = 0 then (acc + 128 ^ i * r.1, i + r.2.1, 0) else (0, 0, r.2.2)

/-- Where a reading of the number at q stands: byte i, at p; so far: acc. -/
def GetAt (l : List UInt8) (q i acc p sh : Nat) : Prop := acc < 128 ^ i ∧ p = q + i ∧ sh = 7 * i ∧ comb i acc (vgetF i (l.drop p)) = vgetF 0 (l.drop q)

/-- The text behind its length, at a place of bytes: text, place behind it, error. -/
def vtake (l : List UInt8) (p most : Int) : List UInt8 × Nat × Nat :=
  if (vget l p).2.2 ≠ 0 then ([], 0, (vget l p).2.2)
  else if most < 0 ∨ most < ((vget l p).1 : Int) then ([], 0, 3)
  else if l.length - (vget l p).2.1 < (vget l p).1 then ([], 0, 2)
  else ((l.drop (vget l p).2.1).take (vget l p).1, (vget l p).2.1 + (vget l p).1, 0)

/-- Numbers, one behind the other. -/
def vflat (l : List Nat) : List UInt8 := (l.map vput).flatten

/-- Texts behind their lengths, one behind the other. -/
def tflat (l : List (List UInt8)) : List UInt8 := (l.map fun t => vput t.length ++ t).flatten

end Go.Proofs.Ytlckphdmflofgaa
end

section
/-
  SMALL LAWS OVER ANY PROGRAM, for the walks of this seat: bytes as cells' values, and a text made of a row of bytes that the call owns.
-/
namespace Go.Proofs.Ytlckphdmflofgaa
open Go.RowKit

/-- Bytes as the values of cells. -/
def bvals (l : List UInt8) : List Value := l.map fun b => .int .u8 b.toNat

theorem cells_one (w : World) (u : Value) (e : TypeId) : ∀ j x, [u][j]? = some x → (w.alloc (.cells #[u] e)).cell? ((⟨w.heap.size, 0, none⟩ : Addr).add j) = some x := by
  intro j x hj
  match j, hj with
  | 0, hj =>
    simp at hj
    subst hj
    simp [Addr.add]

theorem bytes_at (l : List UInt8) (p : Nat) (h : p < (⟨l.toArray⟩ : ByteArray).size) : l[p]? = some ((⟨l.toArray⟩ : ByteArray)[p]'h) := by
  have h' : p < l.length := by
    have : (⟨l.toArray⟩ : ByteArray).size = l.length := by show l.toArray.size = _; simp
    omega
  rw [List.getElem?_eq_getElem h']
  rfl

theorem size_bytes (l : List UInt8) : (⟨l.toArray⟩ : ByteArray).size = l.length := by show l.toArray.size = _; simp

theorem below2' {w a b : World} (h1 : Below w.heap.size w a) (h2 : Below a.heap.size a b) : Below w.heap.size w b := h1.trans (h2.mono h1.size)

/-- A contract that ends in 'Below', met inside a region that draws its order. -/
theorem rgB {P : Program} {f : FuncId} {args : Array Value} {v : Value} (h : ∀ w, Calls P f args w fun e w' => e = .returned v ∧ Below w.heap.size w w') (w : World) (d : Nat) (os : Array Obj) :
    Calls P f args (Sort.grow (redrawn w d) os) fun e w'' => e = .returned v ∧ ∃ p : Regrown, w'' = Sort.grow (redrawn w p.d) p.os := Calls.regrown_of (h _)

/-- A slice of integers that came in: nil, or a row of 'cap' cells, the numbers 'zs' (the first 'len' are its elements). -/
def IsRow (k : IntKind) (w : World) (a : Option Addr) (len cap : Nat) (zs : List Int) : Prop :=
  (a = none ∧ len = 0 ∧ cap = 0 ∧ zs = []) ∨
  ∃ x, a = some x ∧ len ≤ cap ∧ cap ≤ maxLen ∧ zs.length = cap ∧ (∀ i, i < zs.length → w.cell? (x.add i) = some (.int k (zs.getD i 0))) ∧ ∀ n ∈ zs, (Lit.int k n).wf = true

theorem IsRow.form {k : IntKind} {w : World} {a : Option Addr} {len cap : Nat} {zs : List Int} (h : IsRow k w a len cap zs) :
    len ≤ zs.length ∧ zs.length ≤ maxLen ∧ (len = 0 ∨ ∃ b off, a = some ⟨b, off, none⟩ ∧ b < w.heap.size ∧ ∀ i, i < len → w.cell? ⟨b, off + i, none⟩ = some (.int k (zs.getD i 0))) ∧ ∀ n ∈ zs, (Lit.int k n).wf = true := by
  rcases h with ⟨rfl, rfl, rfl, rfl⟩ | ⟨x, rfl, hl, hm, hz, hcell, hwz⟩
  · exact ⟨by simp, by simp, .inl rfl, by simp⟩
  · refine ⟨by omega, by omega, ?_, hwz⟩
    by_cases h0 : len = 0
    · exact .inl h0
    · obtain ⟨b, off, spot⟩ := x
      have hc := hcell 0 (by omega)
      have hspot : spot = none := by simpa [Addr.add] using World.cell?_spot hc
      subst hspot
      refine .inr ⟨b, off, rfl, ?_, fun i hi => ?_⟩
      · have := World.block_lt_of_cell? w _ hc
        simpa [Addr.add] using this
      · have := hcell i (by omega)
        rwa [Addr.add_lit] at this

/-- A slice of texts that came in. -/
def IsStrs (w : World) (a : Option Addr) (len cap : Nat) (ss : List ByteArray) : Prop :=
  (a = none ∧ len = 0 ∧ cap = 0 ∧ ss = []) ∨
  ∃ x, a = some x ∧ len ≤ cap ∧ cap ≤ maxLen ∧ ss.length = cap ∧ (∀ i, i < ss.length → w.cell? (x.add i) = some (.string (ss.getD i ByteArray.empty))) ∧ ∀ s ∈ ss, s.size ≤ maxLen

/-- .. each text as the list of its bytes. -/
theorem IsStrs.form {w : World} {a : Option Addr} {len cap : Nat} {ss : List ByteArray} (h : IsStrs w a len cap ss) :
    ∃ ls : List (List UInt8), ls.length = len ∧ len ≤ maxLen ∧ (len = 0 ∨ ∃ b off, a = some ⟨b, off, none⟩ ∧ b < w.heap.size ∧ ∀ i, i < len → w.cell? ⟨b, off + i, none⟩ = some (.string ⟨(ls.getD i []).toArray⟩)) ∧ ∀ l ∈ ls, l.length ≤ maxLen := by
  rcases h with ⟨rfl, rfl, rfl, rfl⟩ | ⟨x, rfl, hl, hm, hz, hcell, hws⟩
  · exact ⟨[], rfl, by simp, .inl rfl, by simp⟩
  · refine ⟨(ss.take len).map fun s => s.data.toList, by simp; omega, by omega, ?_, ?_⟩
    · by_cases h0 : len = 0
      · exact .inl h0
      · obtain ⟨b, off, spot⟩ := x
        have hc := hcell 0 (by omega)
        have hspot : spot = none := by simpa [Addr.add] using World.cell?_spot hc
        subst hspot
        refine .inr ⟨b, off, rfl, ?_, fun i hi => ?_⟩
        · have := World.block_lt_of_cell? w _ hc
          simpa [Addr.add] using this
        · have := hcell i (by omega)
          rw [Addr.add_lit] at this
          rw [this]
          have h1 : i < ss.length := by omega
          simp [List.getD, hi, List.getElem?_eq_getElem h1]
    · intro l hl'
      obtain ⟨s, hs, rfl⟩ := List.mem_map.1 hl'
      have h2 := hws s (List.mem_of_mem_take hs)
      exact Nat.le_trans (Nat.le_of_eq (Array.length_toList (xs := s.data))) h2

end Go.Proofs.Ytlckphdmflofgaa
end

section
/-
  ROWS OF STRUCTS, OVER ANY PROGRAM AND ANY ELEMENT OF A FEW CELLS: slices that are read, or owned, appended to, copied, cleared, grown by zero rows.
-/
namespace Go.Proofs.Ytlckphdmflofgaa
open Go.RowKit

/-- The cells of elements, one behind the other. -/
def cellsS {α : Type} (vals : α → List Value) (t : List α) : List Value := (t.map vals).flatten

/-- What is to be known of an element's type T, and of its slice's S. -/
structure RowOK {α : Type} (P : Program) (vals : α → List Value) (sz : Nat) (zero : α) (T S : TypeId) (Z : Value) (bytes : Nat) : Prop where
  len : ∀ a, (vals a).length = sz
  one : ∀ a, ∀ u ∈ vals a, u.oneCell' = true
  pos : 0 < sz
  small : sz ≤ 100
  under : P.underlying S = some (.slice T)
  info : (P.info? T).map (fun i => (i.zero, i.size, i.bytes)) = some (some Z, sz, bytes)
  zvals : Z.cells.toList = vals zero
  fits : bytes ≤ 4096

section pure
variable {α : Type} {vals : α → List Value} {sz : Nat}

theorem cellsS_nil : cellsS vals [] = [] := rfl
theorem cellsS_cons (r : α) (t : List α) : cellsS vals (r :: t) = vals r ++ cellsS vals t := rfl
theorem cellsS_append (a b : List α) : cellsS vals (a ++ b) = cellsS vals a ++ cellsS vals b := by simp [cellsS]
theorem cellsS_one (r : α) : cellsS vals [r] = vals r := by simp [cellsS]

theorem cellsS_len (hl : ∀ a, (vals a).length = sz) : ∀ t : List α, (cellsS vals t).length = t.length * sz
  | [] => by simp [cellsS]
  | r :: t => by rw [cellsS_cons, List.length_append, hl, cellsS_len hl t, List.length_cons, Nat.add_mul, Nat.one_mul, Nat.add_comm]

theorem cellsS_at (hl : ∀ a, (vals a).length = sz) (zero : α) : ∀ (t : List α) (i j : Nat), i < t.length → j < sz → (cellsS vals t)[i * sz + j]? = (vals (t.getD i zero))[j]?
  | [], i, j, h, _ => by simp at h
  | r :: t, 0, j, _, hj => by
    rw [cellsS_cons, Nat.zero_mul, Nat.zero_add, List.getElem?_append_left (by rw [hl]; exact hj)]
    rfl
  | r :: t, i + 1, j, h, hj => by
    rw [cellsS_cons, List.getElem?_append_right (by rw [hl, Nat.add_mul]; omega), hl, show (i + 1) * sz + j - sz = i * sz + j by rw [Nat.add_mul]; omega, cellsS_at hl zero t i j (by simpa using h) hj]
    rfl

theorem cellsS_single (ho : ∀ a, ∀ u ∈ vals a, u.oneCell' = true) (t : List α) : ∀ u ∈ cellsS vals t, u.oneCell' = true := by
  intro u hu
  obtain ⟨l, hl, hu⟩ := List.mem_flatten.1 hu
  obtain ⟨r, _, rfl⟩ := List.mem_map.1 hl
  exact ho r u hu

theorem cellsS_take (hl : ∀ a, (vals a).length = sz) (u : List α) (o : Nat) : (cellsS vals u).take (o * sz) = cellsS vals (u.take o) := by
  have h := cellsS_append (vals := vals) (u.take o) (u.drop o)
  rw [List.take_append_drop] at h
  rw [h]
  by_cases ho : o ≤ u.length
  · rw [List.take_left' (by rw [cellsS_len hl, List.length_take, Nat.min_eq_left ho])]
  · have e1 : u.drop o = [] := List.drop_of_length_le (by omega)
    have e2 : u.take o = u := List.take_of_length_le (by omega)
    rw [e1, e2, cellsS_nil, List.append_nil, List.take_of_length_le (by rw [cellsS_len hl]; exact Nat.mul_le_mul_right _ (by omega))]

theorem cellsS_drop (hl : ∀ a, (vals a).length = sz) (u : List α) (o : Nat) : (cellsS vals u).drop (o * sz) = cellsS vals (u.drop o) := by
  have h := cellsS_append (vals := vals) (u.take o) (u.drop o)
  rw [List.take_append_drop] at h
  by_cases ho : o ≤ u.length
  · rw [h, List.drop_left' (by rw [cellsS_len hl, List.length_take, Nat.min_eq_left ho])]
  · have e1 : u.drop o = [] := List.drop_of_length_le (by omega)
    rw [e1, cellsS_nil, List.drop_of_length_le (by rw [cellsS_len hl]; exact Nat.mul_le_mul_right _ (by omega))]

/-- 'ms' laid over 'u' from place 'o' on. -/
def layS {β : Type} (u : List β) (o : Nat) (ms : List β) : List β := u.take o ++ (ms ++ u.drop (o + ms.length))

theorem layS_len {β : Type} {u : List β} {o : Nat} {ms : List β} (h : o + ms.length ≤ u.length) : (layS u o ms).length = u.length := by
  unfold layS
  simp
  omega

theorem layS_nil {β : Type} (u : List β) (o : Nat) : layS u o [] = u := by simp [layS]

theorem layS_cons {β : Type} (u : List β) (o : Nat) (x : β) (r : List β) (h : o < u.length) : layS (u.set o x) (o + 1) r = layS u o (x :: r) := by
  unfold layS
  have h1 : (u.set o x).take (o + 1) = u.take o ++ [x] := by
    rw [List.take_set, List.set_eq_take_append_cons_drop]
    rw [if_pos (by rw [List.length_take]; omega)]
    rw [List.take_take, List.drop_of_length_le (by rw [List.length_take]; omega), show min o (o + 1) = o by omega]
  have h2 : (u.set o x).drop (o + 1 + r.length) = u.drop (o + (x :: r).length) := by
    rw [List.drop_set, if_pos (by omega)]
    congr 1
    simp only [List.length_cons]
    omega
  rw [h1, h2]
  simp

theorem layS_one {β : Type} {u : List β} {i : Nat} (hi : i < u.length) (r : β) : layS u i [r] = u.set i r := by
  unfold layS
  rw [List.set_eq_take_append_cons_drop, if_pos hi]
  rfl

theorem cellsS_lay (hl : ∀ a, (vals a).length = sz) (u : List α) (o : Nat) (ms : List α) : layS (cellsS vals u) (o * sz) (cellsS vals ms) = cellsS vals (layS u o ms) := by
  unfold layS
  rw [cellsS_append, cellsS_append, cellsS_take hl, cellsS_len hl, ← Nat.add_mul, cellsS_drop hl]

/-- One put in at i. -/
def putS {β : Type} (t : List β) (i : Nat) (r : β) : List β := t.take i ++ ([r] ++ t.drop i)

theorem putS_len {β : Type} (t : List β) (i : Nat) (r : β) : (putS t i r).length = t.length + 1 := by
  unfold putS
  rw [List.length_append, List.length_append, List.length_singleton, List.length_take, List.length_drop]
  omega

theorem layS_grow {β : Type} (z : β) {t : List β} {i : Nat} (hi : i < t.length) (r : β) :
    layS (layS (t.take i ++ List.replicate (t.length + 1 - i) z) i [r]) (i + 1) (t.drop i) = putS t i r := by
  have h1 : (t.take i).length = i := by rw [List.length_take]; omega
  have e2 : (t.take i ++ List.replicate (t.length + 1 - i) z).drop (i + 1) = List.replicate (t.length - i) z := by
    rw [List.drop_append, List.drop_of_length_le (by omega), h1, show i + 1 - i = 1 by omega, List.drop_replicate, List.nil_append]
    congr 1
    omega
  have e3 : layS (t.take i ++ List.replicate (t.length + 1 - i) z) i [r] = (t.take i ++ [r]) ++ List.replicate (t.length - i) z := by
    unfold layS
    rw [List.take_left' h1, List.length_singleton, e2]
    simp
  have h4 : (t.take i ++ [r]).length = i + 1 := by rw [List.length_append, h1]; rfl
  have h5 : ((t.take i ++ [r]) ++ List.replicate (t.length - i) z).length ≤ i + 1 + (t.drop i).length := by
    rw [List.length_append, h4, List.length_replicate, List.length_drop]
    omega
  rw [e3]
  unfold layS putS
  rw [List.take_left' h4, List.drop_of_length_le h5]
  simp

theorem layS_room (hl : ∀ a, (vals a).length = sz) {t : List α} {i : Nat} (hi : i < t.length) (r : α) (z : List Value) (hz : z.length = sz) :
    layS (layS (cellsS vals t ++ z) ((i + 1) * sz) (cellsS vals (t.drop i))) (i * sz) (cellsS vals [r]) = cellsS vals (putS t i r) := by
  have hi' : i * sz + (t.length - i) * sz = t.length * sz := by rw [← Nat.add_mul]; congr 1; omega
  have e1 : (cellsS vals t ++ z).drop ((i + 1) * sz + (cellsS vals (t.drop i)).length) = [] := by
    apply List.drop_of_length_le
    rw [List.length_append, cellsS_len hl, cellsS_len hl, List.length_drop, hz, Nat.add_mul]
    omega
  have e2 : layS (cellsS vals t ++ z) ((i + 1) * sz) (cellsS vals (t.drop i)) = (cellsS vals t ++ z).take ((i + 1) * sz) ++ cellsS vals (t.drop i) := by
    unfold layS
    rw [e1, List.append_nil]
  have hle : (i + 1) * sz ≤ t.length * sz + sz := by rw [Nat.add_mul, Nat.one_mul]; have := Nat.mul_le_mul_right sz (show i ≤ t.length by omega); omega
  have hlt : ((cellsS vals t ++ z).take ((i + 1) * sz)).length = (i + 1) * sz := by
    rw [List.length_take, List.length_append, cellsS_len hl, hz]
    omega
  have e3 : ((cellsS vals t ++ z).take ((i + 1) * sz)).take (i * sz) = cellsS vals (t.take i) := by
    rw [List.take_take, show min (i * sz) ((i + 1) * sz) = i * sz by rw [Nat.add_mul]; omega, List.take_append_of_le_length (by rw [cellsS_len hl]; exact Nat.mul_le_mul_right _ (by omega)), cellsS_take hl]
  rw [e2]
  unfold layS putS
  rw [List.take_append_of_le_length (by rw [hlt]; exact Nat.mul_le_mul_right _ (by omega)), e3, List.drop_left' (by rw [hlt, cellsS_len hl, List.length_singleton, Nat.add_mul, Nat.one_mul])]
  rw [cellsS_append, cellsS_append]

end pure

theorem own_setCellsS {e size base g n cap : Nat} : ∀ (vs : List Value) (o : Nat) (w : World) (xs : List Value), w.ownsRow base e size (.slice (some ⟨g, 0, none⟩) n cap) n xs → o + vs.length ≤ xs.length →
    (w.setCells g o vs).ownsRow base e size (.slice (some ⟨g, 0, none⟩) n cap) n (layS xs o vs)
  | [], o, w, xs, h, _ => by rw [layS_nil]; exact h
  | v :: r, o, w, xs, h, hl => by
    rw [World.setCells, ← layS_cons xs o v r (by simp at hl; omega)]
    exact own_setCellsS r (o + 1) _ _ (h.stored o v).1 (by simp at hl ⊢; omega)

theorem below_setCellsS {B g : Nat} {w0 : World} (hB : B ≤ g) : ∀ (vs : List Value) (o : Nat) (w : World), Below B w0 w → Below B w0 (w.setCells g o vs)
  | [], _, _, h => h
  | v :: r, o, w, h => by
    rw [World.setCells]
    exact below_setCellsS hB r (o + 1) _ (h.setCell hB v)

section rows
variable {α : Type} {P : Program} {vals : α → List Value} {sz : Nat} {zero : α} {T S : TypeId} {Z : Value} {bytes : Nat}

/-- A slice of the call's own. -/
def OwnS (vals : α → List Value) (sz : Nat) (T : TypeId) (w : World) (base : Nat) (v : Value) (t : List α) : Prop := w.ownsRow base T sz v t.length (cellsS vals t)

/-- Its cells, whatever they hold. -/
def OwnCS (sz : Nat) (T : TypeId) (w : World) (base g n cap : Nat) (xs : List Value) : Prop := w.ownsRow base T sz (.slice (some ⟨g, 0, none⟩) n cap) n xs

/-- The cells that a slice reads. -/
def SrcS (vals : α → List Value) (w : World) (ad : Addr) (ms : List α) : Prop := ∀ j u, (cellsS vals ms)[j]? = some u → w.cell? (ad.add j) = some u

/-- The cells of one element. -/
def CellsAt (w : World) (b o : Nat) (vs : List Value) : Prop := ∀ j u, vs[j]? = some u → w.cell? ⟨b, o + j, none⟩ = some u

theorem CellsAt.later {w w' : World} {b o : Nat} {vs : List Value} (h : CellsAt w b o vs) (hb : Below w.heap.size w w') : CellsAt w' b o vs := by
  intro j u hu
  have := h j u hu
  rw [hb.cell (World.block_lt_of_cell? w _ this)]
  exact this

/-- A slice that may be read. -/
def RdS (vals : α → List Value) (sz : Nat) (zero : α) (w : World) (v : Value) (l : List α) : Prop :=
  ∃ a cap, v = .slice a l.length cap ∧ l.length ≤ cap ∧ cap ≤ maxLen ∧ (a = none → cap = 0) ∧
    (l = [] ∨ ∃ b off, a = some ⟨b, off, none⟩ ∧ b < w.heap.size ∧ ∀ i, i < l.length → CellsAt w b (off + i * sz) (vals (l.getD i zero)))

theorem RdS.later {w w' : World} {v : Value} {l : List α} (h : RdS vals sz zero w v l) (hb : Below w.heap.size w w') : RdS vals sz zero w' v l := by
  obtain ⟨a, cap, h1, h2, h3, h4, h5⟩ := h
  refine ⟨a, cap, h1, h2, h3, h4, ?_⟩
  rcases h5 with h5 | ⟨b, off, e, hlt, hc⟩
  · exact .inl h5
  · exact .inr ⟨b, off, e, Nat.lt_of_lt_of_le hlt hb.size, fun i hi => (hc i hi).later hb⟩

theorem rdS_nil (w : World) : RdS vals sz zero w (.slice none 0 0) [] := ⟨none, 0, rfl, by simp, by simp, fun _ => rfl, .inl rfl⟩

theorem RdS.row {w wr : World} {a : Option Addr} {n cap : Nat} {l : List α} (h : RdS vals sz zero w (.slice a n cap) l) (hb : Below w.heap.size w wr) (k : Nat) (hk : k < l.length) :
    ∃ b off, a = some ⟨b, off, none⟩ ∧ CellsAt wr b (off + k * sz) (vals (l.getD k zero)) := by
  obtain ⟨a', cap', e, _, _, _, h⟩ := h.later hb
  simp only [Value.slice.injEq] at e
  rcases h with h | ⟨b, off, e', _, hc⟩
  · rw [h] at hk; simp at hk
  · exact ⟨b, off, e.1.trans e', hc k hk⟩

theorem RdS.open' {w : World} {v : Value} {l : List α} (h : RdS vals sz zero w v l) : ∃ a cap, v = .slice a l.length cap ∧ l.length ≤ 9223372036854775807 := by
  obtain ⟨a, cap, e, h1, h2, _⟩ := h
  unfold maxLen at h2
  exact ⟨a, cap, e, by omega⟩

theorem OwnS.alloc {w : World} {base : Nat} {v : Value} {t : List α} (h : OwnS vals sz T w base v t) (o : Obj) : OwnS vals sz T (w.alloc o) base v t := World.ownsRow.alloc h o

theorem OwnS.drew {w : World} {base : Nat} {v : Value} {t : List α} (h : OwnS vals sz T w base v t) : OwnS vals sz T w.drew base v t := World.ownsRow.drew h

theorem ownS_nil (w : World) (base : Nat) : OwnS vals sz T w base (.slice none 0 0) [] := World.ownsRow_nil w base _ _

theorem ownS_made (w : World) : OwnS vals sz T (w.alloc (.cells #[] T)) w.heap.size (.slice (some ⟨w.heap.size, 0, none⟩) 0 0) [] :=
  World.ownsRow_made w #[] 0 (Nat.le_refl _) (by decide) (by simp)

theorem OwnS.later {w w' : World} {base : Nat} {v : Value} {t : List α} (h : OwnS vals sz T w base v t) (hb : Below w.heap.size w w') : OwnS vals sz T w' base v t := by
  refine ⟨h.1, ?_⟩
  rcases h.2 with h' | ⟨g, cap, cur, h1, h2, h3, h4⟩
  · exact .inl h'
  · exact .inr ⟨g, cap, cur, h1, h2, by rw [hb.block g (Array.getElem?_eq_some_iff.1 h3).1]; exact h3, h4⟩

theorem ownS_low {w : World} {base base' : Nat} {v : Value} {t : List α} (h : OwnS vals sz T w base v t) (hb : base' ≤ base) : OwnS vals sz T w base' v t := by
  refine ⟨h.1, ?_⟩
  rcases h.2 with h' | ⟨g, cap, cur, h1, h2, h3⟩
  · exact .inl h'
  · exact .inr ⟨g, cap, cur, h1, by omega, h3⟩

theorem ltS {i n j sz : Nat} (hi : i < n) (hj : j < sz) : i * sz + j < n * sz := by
  have := Nat.mul_le_mul_right sz (show i + 1 ≤ n by omega)
  rw [Nat.add_mul, Nat.one_mul] at this
  omega

theorem OwnS.rd (D : RowOK P vals sz zero T S Z bytes) {w : World} {base : Nat} {v : Value} {t : List α} (h : OwnS vals sz T w base v t) : RdS vals sz zero w v t := by
  rcases h with ⟨_, ⟨rfl, h0⟩ | ⟨g, cap, cur, rfl, hb, hg, hn, hc, hsz, htk⟩⟩
  · obtain rfl : t = [] := List.length_eq_zero_iff.1 h0
    exact rdS_nil w
  · refine ⟨some ⟨g, 0, none⟩, cap, rfl, hn, hc, (fun e => by cases e), .inr ⟨g, 0, rfl, (Array.getElem?_eq_some_iff.1 hg).1, fun i hi => ?_⟩⟩
    intro j u hu
    have hj : j < sz := by have := (List.getElem?_eq_some_iff.1 hu).1; rwa [D.len] at this
    rw [Nat.zero_add, cell_of_row w g (i * sz + j) cur _ (0, 0) hg]
    have h1 : cur.toList[i * sz + j]? = (cellsS vals t)[i * sz + j]? := by
      rw [← htk, List.getElem?_take, if_pos (ltS hi hj)]
    rw [← hu, ← cellsS_at D.len zero t i j hi hj, ← h1]
    simp

theorem OwnS.head {w : World} {base g n cap : Nat} {u : List α} (h : OwnS vals sz T w base (.slice (some ⟨g, 0, none⟩) n cap) u) : n = u.length ∧ base ≤ g ∧ g < w.heap.size ∧ n ≤ cap ∧ cap ≤ maxLen ∧ ∃ cur : Array Value, w.heap[g]? = some (.cells cur T (0, 0)) ∧ cur.size = cap * sz := by
  rcases h with ⟨_, ⟨h', _⟩ | ⟨g', cap', cur, h', hb, hg, hnc, hcm, hcs, _⟩⟩
  · simp at h'
  · simp only [Value.slice.injEq, Option.some.injEq, Addr.mk.injEq, and_true] at h'
    obtain ⟨rfl, h2, rfl⟩ := h'
    exact ⟨h2, hb, (Array.getElem?_eq_some_iff.1 hg).1, by omega, hcm, cur, hg, hcs⟩

theorem OwnS.cellAt (_D : RowOK P vals sz zero T S Z bytes) {w : World} {base g n cap : Nat} {u : List α} (h : OwnS vals sz T w base (.slice (some ⟨g, 0, none⟩) n cap) u) (j : Nat) (hj : j < u.length * sz) : w.cell? ⟨g, j, none⟩ = (cellsS vals u)[j]? := by
  have hn := h.head.1
  subst hn
  exact World.ownsRow.cellAt h j hj

theorem OwnS.frozenAt {w : World} {base g n cap : Nat} {u : List α} (h : OwnS vals sz T w base (.slice (some ⟨g, 0, none⟩) n cap) u) (j : Nat) : w.frozen? ⟨g, j, none⟩ = false := by
  have hn := h.head.1
  subst hn
  exact World.ownsRow.frozenAt h j

theorem OwnS.someAt (D : RowOK P vals sz zero T S Z bytes) {w : World} {base g n cap : Nat} {u : List α} (h : OwnS vals sz T w base (.slice (some ⟨g, 0, none⟩) n cap) u) (j : Nat) (hj : j < u.length * sz) : (w.cell? ⟨g, j, none⟩).isSome = true := by
  rw [h.cellAt D j hj, List.getElem?_eq_getElem (by rw [cellsS_len D.len]; exact hj)]
  rfl

/-- What an element of the call's own slice holds, at its cells. -/
theorem OwnS.row (D : RowOK P vals sz zero T S Z bytes) {w : World} {base g n cap : Nat} {u : List α} (h : OwnS vals sz T w base (.slice (some ⟨g, 0, none⟩) n cap) u) {k : Nat} (hk : k < u.length) : CellsAt w g (k * sz) (vals (u.getD k zero)) := by
  intro j x hx
  have hj : j < sz := by have := (List.getElem?_eq_some_iff.1 hx).1; rwa [D.len] at this
  rw [h.cellAt D _ (ltS hk hj), cellsS_at D.len zero u k j hk hj, hx]

/-- Elements laid over a slice of the call's own. -/
theorem ownS_lay (D : RowOK P vals sz zero T S Z bytes) {w : World} {base g n cap : Nat} {u : List α} (h : OwnS vals sz T w base (.slice (some ⟨g, 0, none⟩) n cap) u) (o : Nat) (ms : List α) (ho : o + ms.length ≤ u.length) :
    OwnS vals sz T (w.setCells g (o * sz) (cellsS vals ms)) base (.slice (some ⟨g, 0, none⟩) n cap) (layS u o ms) := by
  have hn := h.head.1
  subst hn
  unfold OwnS at h ⊢
  rw [layS_len ho, ← cellsS_lay D.len]
  exact own_setCellsS _ _ _ _ h (by rw [cellsS_len D.len, cellsS_len D.len, ← Nat.add_mul]; exact Nat.mul_le_mul_right _ ho)

/-- One stored, whole. -/
theorem ownS_set (D : RowOK P vals sz zero T S Z bytes) {w : World} {base g n cap : Nat} {u : List α} (h : OwnS vals sz T w base (.slice (some ⟨g, 0, none⟩) n cap) u) {i : Nat} (hi : i < u.length) (r : α) :
    OwnS vals sz T (w.setCells g (i * sz) (vals r)) base (.slice (some ⟨g, 0, none⟩) n cap) (u.set i r) := by
  have := ownS_lay D h i [r] (by simp; omega)
  rwa [cellsS_one, layS_one hi] at this

theorem OwnS.src (D : RowOK P vals sz zero T S Z bytes) {w : World} {base g n cap : Nat} {u : List α} (h : OwnS vals sz T w base (.slice (some ⟨g, 0, none⟩) n cap) u) (o k : Nat) (hk : o + k ≤ u.length) : SrcS vals w ⟨g, o * sz, none⟩ ((u.drop o).take k) := by
  intro j x hx
  have hj := (List.getElem?_eq_some_iff.1 hx).1
  rw [cellsS_len D.len, List.length_take, List.length_drop] at hj
  have h1 : min k (u.length - o) * sz ≤ k * sz := Nat.mul_le_mul_right _ (Nat.min_le_left _ _)
  have h2 : o * sz + k * sz ≤ u.length * sz := by rw [← Nat.add_mul]; exact Nat.mul_le_mul_right _ hk
  rw [Addr.add_lit, h.cellAt D _ (by omega), ← hx]
  rw [← cellsS_take D.len, ← cellsS_drop D.len, List.getElem?_take, if_pos (by omega), List.getElem?_drop]

/-- The cells of a slice, at its address. -/
theorem RdS.src (D : RowOK P vals sz zero T S Z bytes) {w : World} {ad : Addr} {n cap : Nat} {t : List α} (h : RdS vals sz zero w (.slice (some ad) n cap) t) : SrcS vals w ad t := by
  obtain ⟨a', cap', e, _, _, _, h⟩ := h
  simp only [Value.slice.injEq] at e
  intro j u hu
  have hj := (List.getElem?_eq_some_iff.1 hu).1
  rw [cellsS_len D.len] at hj
  rcases h with h | ⟨b, off, e', _, hc⟩
  · rw [h] at hj; simp at hj
  · have e2 := e.1.trans e'
    injection e2 with e2
    subst e2
    have hm : j % sz < sz := Nat.mod_lt _ D.pos
    have hd : j = j / sz * sz + j % sz := by have := Nat.div_add_mod j sz; rw [Nat.mul_comm] at this; omega
    have hq : j / sz < t.length := (Nat.div_lt_iff_lt_mul D.pos).2 hj
    rw [hd, cellsS_at D.len zero t (j / sz) (j % sz) hq hm] at hu
    have := hc (j / sz) hq (j % sz) u hu
    rw [Addr.add_lit, hd, ← Nat.add_assoc]
    exact this

theorem ownS_cut (D : RowOK P vals sz zero T S Z bytes) {w : World} {base g n cap : Nat} {u : List α} (h : OwnS vals sz T w base (.slice (some ⟨g, 0, none⟩) n cap) u) {i : Nat} (hi : i ≤ u.length) : OwnS vals sz T w base (.slice (some ⟨g, 0, none⟩) i cap) (u.take i) := by
  rcases h with ⟨h1, ⟨h', _⟩ | ⟨g', cap', cur, h', hb, hg, hnc, hcm, hcs, htk⟩⟩
  · simp at h'
  · simp only [Value.slice.injEq, Option.some.injEq, Addr.mk.injEq, and_true] at h'
    obtain ⟨rfl, h2, rfl⟩ := h'
    have hl : (u.take i).length = i := by rw [List.length_take]; omega
    refine ⟨by rw [cellsS_len D.len], .inr ⟨g, cap, cur, by rw [hl], hb, hg, by omega, hcm, hcs, ?_⟩⟩
    rw [hl, ← cellsS_take D.len, ← htk, List.take_take, show min (i * sz) (u.length * sz) = i * sz from Nat.min_eq_left (Nat.mul_le_mul_right _ hi)]

/-- 'out = append(out, src...)', out nil or of the call's own, src whatever. -/
theorem wpList_append_S (D : RowOK P vals sz zero T S Z bytes) {w : World} {ops : Array Oper} {rest : List Oper} {o : Oper} {a : Act} {Q : Exit → Act → World → Prop}
    (hgd : o.guard = none) (s x : Operand) (ho : o.op = .call { callee := .builtin .append, args := #[s, x], argTypes := #[S, S] })
    (base : Nat) (v : Value) (t : List α) (hs : a.eval s = v) (hown : OwnS vals sz T w base v t)
    (ao : Option Addr) (m c : Nat) (ms : List α) (hx : a.eval x = .slice ao m c) (hm : m = ms.length) (hnone : ao = none → c = 0 ∧ ms = [])
    (hsome : ∀ ad, ao = some ad → SrcS vals w ad ms)
    (hlen : t.length + ms.length < 4294967296) (hbase : base ≤ w.heap.size)
    (h : ∀ v' w', OwnS vals sz T w' base v' (t ++ ms) → Below base w w' → wpList P ops Q rest (a.put o.dst v') w') :
    wpList P ops Q (o :: rest) a w := by
  obtain ⟨i, hi, hz, hsize, hby⟩ := info_parts D.info
  cases ao with
  | none =>
    obtain ⟨rfl, rfl⟩ := hnone rfl
    simp only [List.length_nil] at hm
    subst hm
    exact wpList_append_own_none hgd s x S ho base T i sz D.under hi v t.length (cellsS vals t) hs hown hx (h v w (by simpa using hown) (Below.refl _ _))
  | some ad =>
    subst hm
    have hzl : Z.cells.size = sz := by have := congrArg List.length D.zvals; rwa [Array.length_toList, D.len] at this
    refine wpList_append_own _ hgd s x S ho base T i _ sz bytes D.under hi hz hsize hby hzl D.pos v t.length (cellsS vals t) hs hown ad ms.length c (cellsS vals ms) hx (cellsS_len D.len ms) (hsome ad rfl) (cellsS_single D.one ms)
      (by unfold maxLen; omega) (Nat.le_trans (Nat.mul_le_mul (show t.length + ms.length ≤ 4294967296 by omega) D.fits) (by decide)) hbase ?_
    intro v' w' hown' hgrow _
    refine h v' w' ?_ ((Below.refl base w).grown hgrow hbase (fun k hk => (World.ownsRow.lt hown k hk).1))
    unfold OwnS
    rw [cellsS_append, List.length_append]
    exact hown'

/-- A new block of one element. -/
theorem srcS_new {w : World} {r : α} {cs : Array Value} (hcs : cs.toList = vals r) {e : TypeId} {B : Nat} (hB : B = w.heap.size) : ∀ ad, some (⟨B, 0, none⟩ : Addr) = some ad → SrcS vals (w.alloc (.cells cs e)) ad [r] := by
  intro ad had j u hu
  subst hB
  obtain rfl := Option.some.inj had
  rw [cellsS_one, ← hcs] at hu
  rw [Addr.add_lit, Nat.zero_add, World.cell?_alloc_at _ _ _ _ rfl, ← hu]
  simp

theorem run_copy_S (D : RowOK P vals sz zero T S Z bytes) {w : World} (base g n cap : Nat) (xs : List Value) (h : OwnCS sz T w base g n cap xs) (o dl dc : Nat) (ad : Addr) (sl sc : Nat) (ms : List α) (hn : ms.length = Nat.min sl dl) (hsrc : SrcS vals w ad ms) (ho : o + ms.length ≤ n) (ty : TypeId) :
    (Builtin.copy_ #[S, S] ty #[.slice (some ⟨g, o * sz, none⟩) dl dc, .slice (some ad) sl sc]).run P w = .ok (goInt ms.length) (w.setCells g (o * sz) (cellsS vals ms)) := by
  obtain ⟨i, hi, hz, hsize, hby⟩ := info_parts D.info
  have hl := run_loadCells_list (P := P) w ad (cellsS vals ms) hsrc
  rw [cellsS_len D.len] at hl
  have hxl : xs.length = n * sz := h.1
  have hle : o * sz + ms.length * sz ≤ n * sz := by rw [← Nat.add_mul]; exact Nat.mul_le_mul_right _ ho
  have hst := run_storeCells_cells (P := P) g (o * sz) (cellsS vals ms) 0 w (fun j hj => by
    rw [cellsS_len D.len] at hj
    rw [Nat.add_zero, World.ownsRow.cellAt h _ (by omega), List.getElem?_eq_getElem (by omega)]
    rfl) (fun j _ => World.ownsRow.frozenAt h _) (cellsS_single D.one ms)
  rw [Nat.add_zero] at hst
  simp [Builtin.copy_, run_underlying D.under, Builtin.lenOf, Builtin.firstCells, sizeOf, typeInfo, hi, hsize, ← hn, hl, hst]

/-- 'copy(dst, src)', dst within a slice of the call's own: the cells. -/
theorem wp_copy_C (D : RowOK P vals sz zero T S Z bytes) {w : World} {o : Oper} {a : Act} {K : Act → World → Prop} {Q : Exit → Act → World → Prop} (d s : Operand)
    (ho : o.op = .call { callee := .builtin .copy, args := #[d, s], argTypes := #[S, S] })
    (base g n cap : Nat) (xs : List Value) (h : OwnCS sz T w base g n cap xs) (p dl dc : Nat) (ad : Addr) (sl sc : Nat)
    (hd : a.eval d = .slice (some ⟨g, p * sz, none⟩) dl dc) (hs : a.eval s = .slice (some ad) sl sc) (ms : List α) (hn : ms.length = Nat.min sl dl) (hsrc : SrcS vals w ad ms) (hp : p + ms.length ≤ n)
    (hK : ∀ w', OwnCS sz T w' base g n cap (layS xs (p * sz) (cellsS vals ms)) → Below g w w' → (∀ x : Addr, x.block ≠ g → w'.cell? x = w.cell? x) → K (a.put o.dst (goInt ms.length)) w') : o.wp P a w K Q := by
  have hr := run_copy_S D base g n cap xs h p dl dc ad sl sc ms hn hsrc hp o.type
  have hxl : xs.length = n * sz := h.1
  unfold Oper.wp execOp
  simp only [ho, resolve, invoke, builtin, Sem.run_bind, Sem.run_pure, Result.andThen_ok, List.map_toArray, List.map_cons, List.map_nil, hd, hs, hr]
  refine hK _ (own_setCellsS _ _ _ _ h (by rw [cellsS_len D.len, hxl, ← Nat.add_mul]; exact Nat.mul_le_mul_right _ hp)) (below_setCellsS (Nat.le_refl _) _ _ _ (Below.refl _ _)) (fun x hx => ?_)
  exact World.cell?_setCells_out g _ _ _ _ (fun hb _ => absurd hb hx)

theorem wpList_copy_C (D : RowOK P vals sz zero T S Z bytes) {w : World} {ops : Array Oper} {rest : List Oper} {o : Oper} {a : Act} {Q : Exit → Act → World → Prop} (hgd : o.guard = none) (d s : Operand)
    (ho : o.op = .call { callee := .builtin .copy, args := #[d, s], argTypes := #[S, S] })
    (base g n cap : Nat) (xs : List Value) (h : OwnCS sz T w base g n cap xs) (p dl dc : Nat) (ad : Addr) (sl sc : Nat)
    (hd : a.eval d = .slice (some ⟨g, p * sz, none⟩) dl dc) (hs : a.eval s = .slice (some ad) sl sc) (ms : List α) (hn : ms.length = Nat.min sl dl) (hsrc : SrcS vals w ad ms) (hp : p + ms.length ≤ n)
    (hK : ∀ w', OwnCS sz T w' base g n cap (layS xs (p * sz) (cellsS vals ms)) → Below g w w' → (∀ x : Addr, x.block ≠ g → w'.cell? x = w.cell? x) → wpList P ops Q rest (a.put o.dst (goInt ms.length)) w') : wpList P ops Q (o :: rest) a w :=
  wpList_plain hgd fun _ hK' => wp_copy_C D d s ho base g n cap xs h p dl dc ad sl sc hd hs ms hn hsrc hp fun w' h1 h2 h3 => hK' _ _ (hK w' h1 h2 h3)

theorem step_copy_C (D : RowOK P vals sz zero T S Z bytes) {w : World} {ops : Array Oper} {o : Oper} {a : Act} {K : Act → World → Prop} {Q : Exit → Act → World → Prop} {E : Prop} (hgd : o.guard = none) (d s : Operand)
    (ho : o.op = .call { callee := .builtin .copy, args := #[d, s], argTypes := #[S, S] })
    (base g n cap : Nat) (xs : List Value) (h : OwnCS sz T w base g n cap xs) (p dl dc : Nat) (ad : Addr) (sl sc : Nat)
    (hd : a.eval d = .slice (some ⟨g, p * sz, none⟩) dl dc) (hs : a.eval s = .slice (some ad) sl sc) (ms : List α) (hn : ms.length = Nat.min sl dl) (hsrc : SrcS vals w ad ms) (hp : p + ms.length ≤ n)
    (hK : ∀ w', OwnCS sz T w' base g n cap (layS xs (p * sz) (cellsS vals ms)) → Below g w w' → (∀ x : Addr, x.block ≠ g → w'.cell? x = w.cell? x) → K (a.put o.dst (goInt ms.length)) w') :
    if Region.wanted o (yielded ops a.tmps) = true then Oper.wp P o a w K Q else E := by
  have hw : Region.wanted o (yielded ops a.tmps) = true := by simp [Region.wanted, hgd]
  rw [if_pos hw]
  exact wp_copy_C D d s ho base g n cap xs h p dl dc ad sl sc hd hs ms hn hsrc hp hK

theorem OwnCS.drew {w : World} {base g n cap : Nat} {xs : List Value} (h : OwnCS sz T w base g n cap xs) : OwnCS sz T w.drew base g n cap xs := World.ownsRow.drew h

theorem OwnS.raw {w : World} {base g n cap : Nat} {t : List α} (h : OwnS vals sz T w base (.slice (some ⟨g, 0, none⟩) n cap) t) : OwnCS sz T w base g n cap (cellsS vals t) := by
  have hn := h.head.1
  subst hn
  exact h

theorem OwnCS.rows {w : World} {base g cap n : Nat} {t : List α} (h : OwnCS sz T w base g n cap (cellsS vals t)) (hn : n = t.length) : OwnS vals sz T w base (.slice (some ⟨g, 0, none⟩) n cap) t := by
  subst hn
  exact h

/-- The row behind the last one, taken in. -/
theorem ownS_wider {w : World} {base g cap : Nat} {t : List α} (h : OwnS vals sz T w base (.slice (some ⟨g, 0, none⟩) t.length cap) t) (hc : t.length < cap) : ∃ z : List Value, z.length = sz ∧ OwnCS sz T w base g (t.length + 1) cap (cellsS vals t ++ z) := by
  rcases h with ⟨h0, ⟨h', _⟩ | ⟨g', cap', cur, h', hb, hg, hnc, hcm, hcs, htk⟩⟩
  · simp at h'
  · simp only [Value.slice.injEq, Option.some.injEq, Addr.mk.injEq, and_true, true_and] at h'
    obtain ⟨rfl, rfl⟩ := h'
    have hlen : cur.toList.length = cap * sz := by rw [Array.length_toList]; exact hcs
    have hm : t.length * sz + sz ≤ cap * sz := by have := Nat.mul_le_mul_right sz (show t.length + 1 ≤ cap by omega); rwa [Nat.add_mul, Nat.one_mul] at this
    have e : cur.toList.take ((t.length + 1) * sz) = cellsS vals t ++ (cur.toList.drop (t.length * sz)).take sz := by
      rw [← htk, show (t.length + 1) * sz = t.length * sz + sz by rw [Nat.add_mul, Nat.one_mul], List.take_add]
    refine ⟨(cur.toList.drop (t.length * sz)).take sz, by rw [List.length_take, List.length_drop, hlen]; omega, ?_, .inr ⟨g, cap, cur, rfl, hb, hg, by omega, hcm, hcs, e⟩⟩
    rw [← e, List.length_take, hlen, Nat.add_mul, Nat.one_mul]
    omega

theorem zeroS (D : RowOK P vals sz zero T S Z bytes) (n : Nat) : (Builtin.zeroCells Z.cells n).toList = cellsS vals (List.replicate n zero) := by
  have hzl : Z.cells.size = sz := by have := congrArg List.length D.zvals; rwa [Array.length_toList, D.len] at this
  apply List.ext_getElem?
  intro j
  by_cases hj : j < n * sz
  · have hm : j % sz < sz := Nat.mod_lt _ D.pos
    have hd : j = j / sz * sz + j % sz := by have := Nat.div_add_mod j sz; rw [Nat.mul_comm] at this; omega
    have hq : j / sz < n := (Nat.div_lt_iff_lt_mul D.pos).2 hj
    have h1 : (cellsS vals (List.replicate n zero))[j]? = (vals zero)[j % sz]? := by
      conv => lhs; rw [hd]
      rw [cellsS_at D.len zero _ _ _ (by rw [List.length_replicate]; exact hq) hm]
      simp [List.getD, hq]
    rw [h1, ← D.zvals]
    simp [Builtin.zeroCells, hzl, hj, hm]
  · rw [List.getElem?_eq_none (by simp [Builtin.zeroCells, hzl]; omega), List.getElem?_eq_none (by rw [cellsS_len D.len, List.length_replicate]; omega)]

/-- 'append(s[:i], make([]E, k)...)' where there is no room for k more. -/
theorem wpList_append_zero_S (D : RowOK P vals sz zero T S Z bytes) {TI : TypeId} (hI : P.underlying TI = some (.int .i64)) {w : World} {ops : Array Oper} {rest : List Oper} {o : Oper} {a : Act} {Q : Exit → Act → World → Prop} (hgd : o.guard = none) (s x : Operand)
    (ho : o.op = .call { callee := .builtin .append, args := #[s, x], argTypes := #[S, TI] })
    (base g n cap : Nat) (u : List α) (h : OwnS vals sz T w base (.slice (some ⟨g, 0, none⟩) n cap) u) (i k L : Nat) (K : Int) (hs : a.eval s = .slice (some ⟨g, 0, none⟩) i cap) (hx : a.eval x = .int .i64 K) (hKk : K = (k : Int)) (hL : L = i + k) (hi : i ≤ u.length) (h0 : 0 < k) (hno : cap < i + k) (hsm : i + k ≤ 4294967)
    (hK : ∀ w' G, OwnS vals sz T w' w.heap.size (.slice (some ⟨w.heap.size, 0, none⟩) L G) (u.take i ++ List.replicate k zero) → L ≤ G → G ≤ 9223372036854775807 → Below w.heap.size w w' → wpList P ops Q rest (a.put o.dst (.slice (some ⟨w.heap.size, 0, none⟩) L G)) w') :
    wpList P ops Q (o :: rest) a w := by
  obtain ⟨i0, hi0, hz0, hzs, hzb⟩ := info_parts D.info
  subst hKk
  subst hL
  have hzc : Z.cells.size = sz := by have := congrArg List.length D.zvals; rwa [Array.length_toList, D.len] at this
  have hold : (Builtin.firstCells i0.size i (.slice (some ⟨g, 0, none⟩) i cap)).run P w.drew = .ok (cellsS vals (u.take i)).toArray w.drew := by
    rw [hzs]
    refine run_firstCells_some w.drew sz i ⟨g, 0, none⟩ i cap (cellsS vals (u.take i)) (by rw [cellsS_len D.len, List.length_take, Nat.min_eq_left hi]) (fun j v hj => ?_)
    have := (h.src D 0 i (by omega)) j v (by simpa using hj)
    rw [Nat.zero_mul] at this
    exact this
  have hbig : (i + k) * bytes ≤ 4294967 * 4096 := Nat.mul_le_mul hsm D.fits
  have hbig2 : k * bytes ≤ 4294967 * 4096 := Nat.mul_le_mul (by omega) D.fits
  have hr := Lib.run_append_grow_zeros w S TI o.type T i0 _ .i64 .i64 D.under hI hi0 hz0 (some ⟨g, 0, none⟩) i cap (cellsS vals (u.take i)) hold k h0 (by rw [hzs]; exact D.pos) hno (by omega) (by rw [hzb]; omega) (by rw [hzb]; exact growslice_fits hno (by omega))
  have hG := grownCap_ge w (i + k) cap T
  have hGm := grownCap_le_maxLen w (i + k) cap T (by unfold maxLen; omega)
  refine Lib.wpList_append_run w hgd s x _ _ ho _ _ hs hx _ _ hr ?_
  obtain ⟨G, hG'⟩ : ∃ G, G = grownCap w (i + k) cap T := ⟨_, rfl⟩
  rw [← hG'] at hG hGm ⊢
  have hb : Below w.heap.size w (w.drew.alloc (.cells ((cellsS vals (u.take i)).toArray ++ Builtin.zeroCells Z.cells k ++ Builtin.zeroCells Z.cells (G - (i + k))) T)) := ((Below.refl _ _).drew).alloc (by simp) _
  refine hK _ G ?_ hG (by unfold maxLen at hGm; omega) hb
  have hl1 : (u.take i ++ List.replicate k zero).length = i + k := by rw [List.length_append, List.length_take, List.length_replicate]; omega
  have hzl : ∀ m, (Builtin.zeroCells Z.cells m).size = m * sz := fun m => by simp [Builtin.zeroCells, hzc]
  have hsum : i * sz + k * sz + (G - (i + k)) * sz = G * sz := by rw [← Nat.add_mul, ← Nat.add_mul]; congr 1; omega
  refine ⟨by rw [cellsS_len D.len], .inr ⟨w.heap.size, G, _, by rw [hl1], Nat.le_refl _, heap_alloc_new w.drew _, by rw [hl1]; exact hG, hGm, ?_, ?_⟩⟩
  · rw [Array.size_append, Array.size_append, hzl, hzl, List.size_toArray, cellsS_len D.len, List.length_take, Nat.min_eq_left hi]
    omega
  · have e0 : (cellsS vals (u.take i)).toArray.toList = cellsS vals (u.take i) := rfl
    rw [hl1, Array.toList_append, Array.toList_append, zeroS D, cellsS_append, e0]
    have e : (cellsS vals (u.take i)).length + (cellsS vals (List.replicate k zero)).length = (i + k) * sz := by rw [cellsS_len D.len, cellsS_len D.len, List.length_take, List.length_replicate, Nat.min_eq_left hi, Nat.add_mul]
    rw [List.take_append_of_le_length (by rw [List.length_append]; omega)]
    rw [List.take_of_length_le (by rw [List.length_append]; omega)]

/-- 'clear(s[p:])' of a slice of the call's own. -/
theorem wpList_clear_S (D : RowOK P vals sz zero T S Z bytes) {w : World} {ops : Array Oper} {rest : List Oper} {o : Oper} {a : Act} {Q : Exit → Act → World → Prop} (hgd : o.guard = none) (x : Operand)
    (ho : o.op = .call { callee := .builtin .clear, args := #[x], argTypes := #[S] })
    (base g n cap : Nat) (u : List α) (h : OwnS vals sz T w base (.slice (some ⟨g, 0, none⟩) n cap) u) (p : Nat) (ad : Option Addr) (m c : Nat) (hx : a.eval x = .slice ad m c) (hpos : 0 < m → ad = some ⟨g, p * sz, none⟩) (hm : p + m = u.length)
    (hK : ∀ w', OwnS vals sz T w' base (.slice (some ⟨g, 0, none⟩) n cap) (u.take p ++ List.replicate m zero) → Below g w w' → wpList P ops Q rest (a.put o.dst (.tuple #[])) w') : wpList P ops Q (o :: rest) a w := by
  refine wpList_plain hgd fun K hK' => ?_
  rcases Nat.eq_zero_or_pos m with rfl | hp
  · have hrun : (Builtin.clear_ #[S] o.type #[.slice ad 0 c]).run P w = .ok (.tuple #[]) w := by
      cases ad <;> simp [Builtin.clear_, run_underlying D.under]
    unfold Oper.wp
    simp [execOp, ho, resolve, invoke, builtin, hx, hrun, Result.andThen]
    refine hK' _ _ (hK w ?_ (Below.refl _ _))
    rw [List.take_of_length_le (by omega)]
    simpa using h
  · obtain rfl := hpos hp
    obtain ⟨i0, hi0, hz0, hzs, hzb⟩ := info_parts D.info
    have hle : p * sz + m * sz = u.length * sz := by rw [← Nat.add_mul, hm]
    have hst := run_storeCells_cells (P := P) g (p * sz) (cellsS vals (List.replicate m zero)) 0 w (fun j hj => by
      rw [cellsS_len D.len, List.length_replicate] at hj
      exact h.someAt D _ (by omega)) (fun j _ => h.frozenAt _) (cellsS_single D.one _)
    rw [Nat.add_zero, ← zeroS D] at hst
    have hrun : (Builtin.clear_ #[S] o.type #[.slice (some ⟨g, p * sz, none⟩) m c]).run P w = .ok (.tuple #[]) (w.setCells g (p * sz) (cellsS vals (List.replicate m zero))) := by
      obtain ⟨m', rfl⟩ : ∃ m', m = m' + 1 := ⟨m - 1, by omega⟩
      rw [← zeroS D]
      simp [Builtin.clear_, run_underlying D.under, zeroValue, typeInfo, hi0, hz0, hst]
    unfold Oper.wp
    simp [execOp, ho, resolve, invoke, builtin, hx, hrun, Result.andThen]
    refine hK' _ _ (hK _ ?_ (below_setCellsS (Nat.le_refl _) _ _ _ (Below.refl _ _)))
    have := ownS_lay D h p (List.replicate m zero) (by rw [List.length_replicate]; omega)
    have e : layS u p (List.replicate m zero) = u.take p ++ List.replicate m zero := by
      unfold layS
      rw [List.length_replicate, List.drop_of_length_le (by omega), List.append_nil]
    rwa [e] at this

/-- Block B holds one element, and nothing else. -/
def LoneS (vals : α → List Value) (T : TypeId) (w : World) (B : Nat) (r : α) : Prop := ∃ cs : Array Value, cs.toList = vals r ∧ w.heap[B]? = some (.cells cs T (0, 0))

theorem LoneS.later {w w' : World} {B : Nat} {r : α} (h : LoneS vals T w B r) (hb : Below w.heap.size w w') : LoneS vals T w' B r := by
  obtain ⟨cs, h1, h2⟩ := h
  exact ⟨cs, h1, (hb.block B (Array.getElem?_eq_some_iff.1 h2).1).trans h2⟩

theorem LoneS.lt {w : World} {B : Nat} {r : α} (h : LoneS vals T w B r) : B < w.heap.size := by
  obtain ⟨cs, h1, h2⟩ := h
  exact (Array.getElem?_eq_some_iff.1 h2).1

theorem LoneS.src {w : World} {B : Nat} {r : α} (h : LoneS vals T w B r) : SrcS vals w ⟨B, 0, none⟩ [r] := by
  obtain ⟨cs, h1, h2⟩ := h
  intro j u hu
  rw [cellsS_one, ← h1] at hu
  rw [Addr.add_lit, Nat.zero_add, cell_of_row w B j _ _ (0, 0) h2, ← hu]
  simp

theorem LoneS.free {w : World} {B : Nat} {r : α} (h : LoneS vals T w B r) (j : Nat) : w.frozen? ⟨B, j, none⟩ = false := by
  obtain ⟨cs, h1, h2⟩ := h
  exact frozen_of_row w B j _ _ h2

theorem LoneS.shape (hl : ∀ a, (vals a).length = sz) {w : World} {B : Nat} {r : α} (h : LoneS vals T w B r) : w.shape? B = some (T, sz) := by
  obtain ⟨cs, h1, h2⟩ := h
  have hs : cs.size = sz := by rw [← Array.length_toList, h1, hl]
  simp only [World.shape?, h2, hs]

theorem ownS_shape {w : World} {g : Nat} {cur : Array Value} (h : w.heap[g]? = some (.cells cur T (0, 0))) : w.shape? g = some (T, cur.size) := by
  simp only [World.shape?, h]

theorem loneS_new {w : World} {r : α} {cs : Array Value} (hcs : cs.toList = vals r) {B : Nat} (hB : B = w.heap.size) : LoneS vals T (w.alloc (.cells cs T)) B r := by
  subst hB
  exact ⟨cs, hcs, heap_alloc_new w _⟩

theorem sizeS (D : RowOK P vals sz zero T S Z bytes) (w : World) : (Go.sizeOf T).run P w = .ok sz w := by
  obtain ⟨i, hi, hz, hsize, hby⟩ := info_parts D.info
  simp [sizeOf, typeInfo, hi, hsize]

theorem eqlS_nil_some (D : RowOK P vals sz zero T S Z bytes) (w : World) (x : Addr) (n c : Nat) : (binOp .eql S (.slice (some x) n c) (.slice none 0 0)).run P w = .ok (.bool false) w := by
  rw [Lib.run_eql_slice_nil w _ _ _ _ _ _ _ D.under]
  rfl

theorem eqlS_nil_nil (D : RowOK P vals sz zero T S Z bytes) (w : World) (n c : Nat) : (binOp .eql S (.slice none n c) (.slice none 0 0)).run P w = .ok (.bool true) w := by
  rw [Lib.run_eql_slice_nil w _ _ _ _ _ _ _ D.under]
  rfl

end rows

end Go.Proofs.Ytlckphdmflofgaa
end

section
/-
  SMALL WORDS ON WORLDS, for contracts over slices of structs.
-/
namespace Go.Proofs.Ytlckphdmflofgaa
open Go.RowKit

theorem below2Z {w a b : World} (h1 : Below w.heap.size w a) (h2 : Below a.heap.size a b) : Below w.heap.size w b := h1.trans (h2.mono h1.size)

theorem bl_newZ (w : World) (o : Obj) : Below w.heap.size w (w.alloc o) := (Below.refl _ _).alloc (Nat.le_refl _) o

end Go.Proofs.Ytlckphdmflofgaa
end

section
/-
  PLAIN MATHEMATICS OF LAYER 3 (ident): what a name is, its folding, the order of names, lists merged. No program in sight.
-/
namespace Go.Proofs.Ytlckphdmflofgaa
open Go.Lib Go.Sort

/-! ### Names -/

def lcOk (b : UInt8) : Bool := decide (97 ≤ b.toNat) && decide (b.toNat ≤ 122)
def dgOk (b : UInt8) : Bool := (decide (48 ≤ b.toNat) && decide (b.toNat ≤ 57)) || decide (b.toNat = 45)
def inOk (b : UInt8) : Bool := lcOk b || dgOk b

def idIs (l : List UInt8) : Bool := decide (1 ≤ l.length) && (decide (l.length ≤ 16) && (lcOk (l.getD 0 0) && l.all inOk))

def low1 (b : UInt8) : UInt8 := if 65 ≤ b.toNat ∧ b.toNat ≤ 90 then u8of (b.toNat + 32) else b
def idLow (l : List UInt8) : List UInt8 := l.map low1

def idFold (l : List UInt8) : List UInt8 × Bool := if idIs (idLow l) = true then (idLow l, true) else ([], false)
def idPut (l : List UInt8) : List UInt8 × Bool := if idIs l = true then (vput l.length ++ l, true) else ([], false)
def idTake (l : List UInt8) (p : Int) : List UInt8 × Nat × Nat :=
  if (vtake l p 16).2.2 ≠ 0 then ([], 0, (vtake l p 16).2.2) else if idIs (vtake l p 16).1 = true then vtake l p 16 else ([], 0, 3)

theorem inOk_lt {b : UInt8} (h : inOk b = true) : b.toNat < 128 := by
  simp [inOk, lcOk, dgOk] at h
  omega

theorem idIs_parts {l : List UInt8} (h : idIs l = true) : 1 ≤ l.length ∧ l.length ≤ 16 ∧ lcOk (l.getD 0 0) = true ∧ l.all inOk = true := by
  unfold idIs at h
  simp only [Bool.and_eq_true, decide_eq_true_eq] at h
  exact ⟨h.1, h.2.1, h.2.2.1, h.2.2.2⟩

theorem idIs_mk {l : List UInt8} (h1 : 1 ≤ l.length) (h2 : l.length ≤ 16) (h3 : lcOk (l.getD 0 0) = true) (h4 : l.all inOk = true) : idIs l = true := by
  unfold idIs
  simp only [Bool.and_eq_true, decide_eq_true_eq]
  exact ⟨h1, h2, h3, h4⟩

theorem idIs_long {l : List UInt8} (h : 16 < l.length) : idIs l = false := by
  rw [Bool.eq_false_iff]
  intro h'
  have := (idIs_parts h').2.1
  omega

/-- A byte that no name has. -/
theorem idIs_high {l : List UInt8} {b : UInt8} (hb : b ∈ l) (h : 128 ≤ b.toNat) : idIs l = false := by
  rw [Bool.eq_false_iff]
  intro h'
  have := inOk_lt (List.all_eq_true.1 (idIs_parts h').2.2.2 b hb)
  omega

/-! ### The order of names -/

def idCmp (a b : List UInt8) : Int := if a.length < b.length then -1 else if b.length < a.length then 1 else compareBytes a b

def idLess (a b : List UInt8) : Bool := decide (idCmp a b < 0)

theorem cb_swap : ∀ a b : List UInt8, compareBytes b a = - compareBytes a b
  | [], [] => rfl
  | [], _ :: _ => rfl
  | _ :: _, [] => rfl
  | a :: xs, b :: ys => by
    unfold compareBytes
    by_cases h1 : a < b
    · have h2 : ¬ b < a := fun h => by rw [UInt8.lt_iff_toNat_lt] at *; omega
      rw [if_pos h1, if_neg h2, if_pos h1]; rfl
    · rw [if_neg h1]
      by_cases h2 : b < a
      · rw [if_pos h2, if_neg h1, if_pos h2]
      · rw [if_neg h2, if_neg h2, if_neg h1]
        exact cb_swap xs ys

theorem cb_zero : ∀ {a b : List UInt8}, compareBytes a b = 0 → a = b
  | [], [], _ => rfl
  | [], _ :: _, h => by simp [compareBytes] at h
  | _ :: _, [], h => by simp [compareBytes] at h
  | a :: xs, b :: ys, h => by
    unfold compareBytes at h
    by_cases h1 : a < b
    · rw [if_pos h1] at h; simp at h
    · rw [if_neg h1] at h
      by_cases h2 : b < a
      · rw [if_pos h2] at h; simp at h
      · rw [if_neg h2] at h
        have e : a = b := by
          rw [UInt8.lt_iff_toNat_lt] at h1 h2
          exact UInt8.toNat_inj.1 (by omega)
        rw [e, cb_zero h]

theorem cb_self : ∀ a : List UInt8, compareBytes a a = 0
  | [] => rfl
  | a :: xs => by
    unfold compareBytes
    have h : ¬ a < a := fun h => by rw [UInt8.lt_iff_toNat_lt] at h; omega
    rw [if_neg h, if_neg h]
    exact cb_self xs

theorem cb_trans : ∀ {a b c : List UInt8}, compareBytes a b ≤ 0 → compareBytes b c ≤ 0 → compareBytes a c ≤ 0 ∧ (compareBytes a b < 0 ∨ compareBytes b c < 0 → compareBytes a c < 0)
  | [], [], c, _, h2 => ⟨h2, fun h => by
      rcases h with h | h
      · simp [compareBytes] at h
      · exact h⟩
  | [], _ :: _, [], _, h2 => by simp [compareBytes] at h2
  | [], _ :: _, _ :: _, _, _ => by simp [compareBytes]
  | _ :: _, [], _, h1, _ => by simp [compareBytes] at h1
  | _ :: _, _ :: _, [], _, h2 => by simp [compareBytes] at h2
  | a :: xs, b :: ys, c :: zs, h1, h2 => by
    unfold compareBytes at h1 h2 ⊢
    simp only [UInt8.lt_iff_toNat_lt] at h1 h2 ⊢
    by_cases p1 : a.toNat < b.toNat
    · by_cases p2 : b.toNat < c.toNat
      · rw [if_pos (show a.toNat < c.toNat by omega)]; simp
      · rw [if_neg p2] at h2
        by_cases p3 : c.toNat < b.toNat
        · rw [if_pos p3] at h2; simp at h2
        · rw [if_pos (show a.toNat < c.toNat by omega)]; simp
    · rw [if_neg p1] at h1 ⊢
      by_cases p2 : b.toNat < a.toNat
      · rw [if_pos p2] at h1; simp at h1
      · rw [if_neg p2] at h1 ⊢
        by_cases p3 : b.toNat < c.toNat
        · rw [if_pos (show a.toNat < c.toNat by omega)]; simp
        · rw [if_neg p3] at h2 ⊢
          by_cases p4 : c.toNat < b.toNat
          · rw [if_pos p4] at h2; simp at h2
          · rw [if_neg p4] at h2 ⊢
            rw [if_neg (show ¬ a.toNat < c.toNat by omega), if_neg (show ¬ c.toNat < a.toNat by omega)]
            exact cb_trans h1 h2

theorem idCmp_swap (a b : List UInt8) : idCmp b a = - idCmp a b := by
  unfold idCmp
  by_cases h1 : a.length < b.length
  · rw [if_neg (by omega), if_pos h1, if_pos h1]; rfl
  · by_cases h2 : b.length < a.length
    · rw [if_pos h2, if_neg h1, if_pos h2]
    · rw [if_neg h2, if_neg h1, if_neg h1, if_neg h2]
      exact cb_swap a b

theorem idCmp_zero {a b : List UInt8} (h : idCmp a b = 0) : a = b := by
  unfold idCmp at h
  by_cases h1 : a.length < b.length
  · rw [if_pos h1] at h; simp at h
  · rw [if_neg h1] at h
    by_cases h2 : b.length < a.length
    · rw [if_pos h2] at h; simp at h
    · rw [if_neg h2] at h
      exact cb_zero h

theorem idCmp_self (a : List UInt8) : idCmp a a = 0 := by
  unfold idCmp
  rw [if_neg (by omega), if_neg (by omega)]
  exact cb_self a

theorem idCmp_trans {a b c : List UInt8} (h1 : idCmp a b ≤ 0) (h2 : idCmp b c ≤ 0) : idCmp a c ≤ 0 ∧ (idCmp a b < 0 ∨ idCmp b c < 0 → idCmp a c < 0) := by
  unfold idCmp at h1 h2 ⊢
  by_cases p1 : a.length < b.length
  · by_cases p3 : c.length < b.length
    · rw [if_neg (by omega), if_pos p3] at h2; simp at h2
    · rw [if_pos (show a.length < c.length by omega)]; simp
  · rw [if_neg p1] at h1 ⊢
    by_cases p2 : b.length < a.length
    · rw [if_pos p2] at h1; simp at h1
    · rw [if_neg p2] at h1 ⊢
      by_cases p3 : b.length < c.length
      · rw [if_pos (show a.length < c.length by omega)]; simp
      · rw [if_neg p3] at h2 ⊢
        by_cases p4 : c.length < b.length
        · rw [if_pos p4] at h2; simp at h2
        · rw [if_neg p4] at h2 ⊢
          rw [if_neg (show ¬ a.length < c.length by omega), if_neg (show ¬ c.length < a.length by omega)]
          exact cb_trans h1 h2

theorem idLess_trans {a b c : List UInt8} (h1 : idLess a b = true) (h2 : idLess b c = true) : idLess a c = true := by
  unfold idLess at *
  simp only [decide_eq_true_eq] at *
  exact (idCmp_trans (by omega) (by omega)).2 (.inl h1)

theorem idLess_irrefl (a : List UInt8) : idLess a a = false := by
  unfold idLess
  rw [idCmp_self]
  rfl

/-- Just one of the three. -/
theorem idLess_tri (a b : List UInt8) : (idLess a b = true ∧ idLess b a = false ∧ ¬ a = b) ∨ (idLess a b = false ∧ idLess b a = true ∧ ¬ a = b) ∨ (idLess a b = false ∧ idLess b a = false ∧ a = b) := by
  have hs := idCmp_swap a b
  by_cases h0 : idCmp a b = 0
  · have e := idCmp_zero h0
    subst e
    exact .inr (.inr ⟨idLess_irrefl _, idLess_irrefl _, rfl⟩)
  · have hne : ¬ a = b := fun e => h0 (by rw [e]; exact idCmp_self b)
    unfold idLess
    by_cases h : idCmp a b < 0
    · exact .inl ⟨by simpa using h, by simp; omega, hne⟩
    · exact .inr (.inl ⟨by simpa using h, by simp; omega, hne⟩)

theorem idSWO : SWO (ltOf idCmp) where
  irrefl x := idLess_irrefl x
  trans x y z h1 h2 := idLess_trans h1 h2
  ntrans x y z h1 h2 := by
    unfold ltOf at *
    have s1 := idCmp_swap x y
    have s2 := idCmp_swap y z
    have s3 := idCmp_swap x z
    simp only [decide_eq_false_iff_not] at *
    have := (idCmp_trans (a := z) (b := y) (c := x) (by omega) (by omega)).1
    omega

theorem idTot (x y : List UInt8) (h1 : ltOf idCmp x y = false) (h2 : ltOf idCmp y x = false) : x = y := by
  have s := idCmp_swap x y
  unfold ltOf at h1 h2
  simp only [decide_eq_false_iff_not] at h1 h2
  exact idCmp_zero (by omega)

/-! ### Lists merged -/

/-- By Less, each once. -/
def Rising (l : List (List UInt8)) : Prop := l.Pairwise fun x y => idLess x y = true

theorem rising_unique : ∀ {a b : List (List UInt8)}, Rising a → Rising b → (∀ x, x ∈ a ↔ x ∈ b) → a = b
  | [], [], _, _, _ => rfl
  | [], y :: b, _, _, h => by have := (h y).2 (by simp); simp at this
  | x :: a, [], _, _, h => by have := (h x).1 (by simp); simp at this
  | x :: a, y :: b, ha, hb, h => by
    obtain ⟨ha1, ha2⟩ := List.pairwise_cons.1 ha
    obtain ⟨hb1, hb2⟩ := List.pairwise_cons.1 hb
    have e : x = y := by
      have h1 := (h x).1 (by simp)
      have h2 := (h y).2 (by simp)
      rcases List.mem_cons.1 h1 with e | h1
      · exact e
      · rcases List.mem_cons.1 h2 with e | h2
        · exact e.symm
        · have p := hb1 x h1
          have q := ha1 y h2
          have := idLess_trans p q
          rw [idLess_irrefl] at this
          cases this
    subst e
    have hx : ∀ {l : List (List UInt8)}, (∀ z ∈ l, idLess x z = true) → x ∉ l := fun hl hm => by
      have := hl x hm
      rw [idLess_irrefl] at this
      cases this
    have : a = b := rising_unique ha2 hb2 (fun z => by
      have hz := h z
      simp only [List.mem_cons] at hz
      constructor
      · intro hm
        rcases hz.1 (.inr hm) with e | h'
        · subst e; exact absurd hm (hx ha1)
        · exact h'
      · intro hm
        rcases hz.2 (.inr hm) with e | h'
        · subst e; exact absurd hm (hx hb1)
        · exact h')
    rw [this]

/-- A text laid into a list by Less, once. -/
def ins (x : List UInt8) : List (List UInt8) → List (List UInt8)
  | [] => [x]
  | y :: l => if idLess y x = true then y :: ins x l else if y = x then y :: l else x :: y :: l

def mrg (a : List (List UInt8)) : List (List UInt8) := a.foldl (fun out x => ins x out) []

theorem ins_mem (x z : List UInt8) : ∀ l, z ∈ ins x l ↔ z = x ∨ z ∈ l
  | [] => by simp [ins]
  | y :: l => by
    unfold ins
    by_cases h : idLess y x = true
    · rw [if_pos h]
      simp only [List.mem_cons, ins_mem x z l]
      constructor
      · rintro (h | h | h) <;> simp [h]
      · rintro (h | h | h) <;> simp [h]
    · rw [if_neg h]
      by_cases e : y = x
      · rw [if_pos e]
        subst e
        simp only [List.mem_cons]
        constructor
        · intro h; exact .inr h
        · rintro (h | h)
          · exact .inl h
          · exact h
      · rw [if_neg e]
        simp only [List.mem_cons]

theorem ins_rising (x : List UInt8) : ∀ l, Rising l → Rising (ins x l)
  | [], _ => by simp [ins, Rising]
  | y :: l, h => by
    obtain ⟨h1, h2⟩ := List.pairwise_cons.1 h
    unfold ins
    by_cases hl : idLess y x = true
    · rw [if_pos hl]
      refine List.pairwise_cons.2 ⟨fun z hz => ?_, ins_rising x l h2⟩
      rcases (ins_mem x z l).1 hz with e | hz
      · subst e; exact hl
      · exact h1 z hz
    · rw [if_neg hl]
      by_cases e : y = x
      · rw [if_pos e]; exact h
      · rw [if_neg e]
        have hxy : idLess x y = true := by
          rcases idLess_tri y x with ⟨p, _, _⟩ | ⟨_, p, _⟩ | ⟨_, _, p⟩
          · exact absurd p hl
          · exact p
          · exact absurd p e
        refine List.pairwise_cons.2 ⟨fun z hz => ?_, h⟩
        rcases List.mem_cons.1 hz with e | hz
        · subst e; exact hxy
        · exact idLess_trans hxy (h1 z hz)

theorem foldl_ins (l : List (List UInt8)) : ∀ acc, Rising acc → Rising (l.foldl (fun out x => ins x out) acc) ∧ ∀ z, z ∈ l.foldl (fun out x => ins x out) acc ↔ z ∈ acc ∨ z ∈ l := by
  induction l with
  | nil => intro acc h; exact ⟨h, fun z => by simp⟩
  | cons x l ih =>
    intro acc h
    have := ih (ins x acc) (ins_rising x acc h)
    refine ⟨this.1, fun z => ?_⟩
    rw [List.foldl_cons, this.2 z, ins_mem]
    simp only [List.mem_cons]
    constructor
    · rintro ((h | h) | h) <;> simp [h]
    · rintro (h | h | h) <;> simp [h]

theorem mrg_rising (l : List (List UInt8)) : Rising (mrg l) := (foldl_ins l [] (by simp [Rising])).1
theorem mrg_mem (l : List (List UInt8)) (z : List UInt8) : z ∈ mrg l ↔ z ∈ l := by
  have := (foldl_ins l [] (by simp [Rising])).2 z
  unfold mrg
  simpa using this

theorem mrg_unique {a l : List (List UInt8)} (h : Rising a) (hm : ∀ x, x ∈ a ↔ x ∈ l) : a = mrg l := rising_unique h (mrg_rising l) (fun x => (hm x).trans (mrg_mem l x).symm)

/-- A list of texts, none ahead of the one that it stands behind: each once. -/
theorem compact_rising (d : Array (List UInt8)) (hs : d.toList.Pairwise fun x y => idLess y x = false) : Rising (compactUpTo d d.size) ∧ ∀ x, x ∈ compactUpTo d d.size ↔ x ∈ d.toList := by
  have key : ∀ m, m ≤ d.size → Rising (compactUpTo d m) ∧ (∀ x, x ∈ compactUpTo d m ↔ ∃ j, j < m ∧ d[j]! = x) := by
    intro m
    induction m with
    | zero => intro _; exact ⟨by simp [compactUpTo, Rising], fun x => by simp [compactUpTo]⟩
    | succ m ih =>
      intro hm
      obtain ⟨h1, h2⟩ := ih (by omega)
      have e : compactUpTo d (m + 1) = compactUpTo d m ++ if keeps d m = true then [d[m]!] else [] := by
        unfold compactUpTo
        rw [List.range_succ, List.filter_append, List.map_append]
        by_cases hk : keeps d m = true <;> simp [hk]
      have hle : ∀ i j, i ≤ j → j < d.size → idLess d[j]! d[i]! = false := by
        intro i j hij hj
        by_cases e : i = j
        · subst e; exact idLess_irrefl _
        · have := List.pairwise_iff_getElem.1 hs i j (by simpa using (by omega : i < d.size)) (by simpa using hj) (by omega)
          rw [getElem!_pos d i (by omega), getElem!_pos d j hj]
          simpa using this
      by_cases hk : keeps d m = true
      · rw [e, if_pos hk]
        have hlt : ∀ i, i < m → idLess d[i]! d[m]! = true := by
          intro i hi
          have hm0 : ¬ m = 0 := by omega
          have hne : d[m]! ≠ d[m - 1]! := by
            unfold keeps at hk
            simp only [decide_eq_true_eq] at hk
            rcases hk with h | h
            · exact absurd h hm0
            · exact h
          have a := hle i (m - 1) (by omega) (by omega)
          have b := hle (m - 1) m (by omega) (by omega)
          have c := hle i m (by omega) (by omega)
          rcases idLess_tri d[i]! d[m]! with ⟨p, _, _⟩ | ⟨_, p, _⟩ | ⟨_, _, p⟩
          · exact p
          · rw [c] at p; cases p
          · exfalso
            rcases idLess_tri d[m - 1]! d[m]! with ⟨q, _, _⟩ | ⟨_, q, _⟩ | ⟨_, _, q⟩
            · rw [← p, a] at q; cases q
            · rw [b] at q; cases q
            · exact hne q.symm
        refine ⟨List.pairwise_append.2 ⟨h1, by simp, fun x hx y hy => ?_⟩, fun x => ?_⟩
        · obtain ⟨j, hj, rfl⟩ := (h2 x).1 hx
          simp only [List.mem_singleton] at hy
          subst hy
          exact hlt j hj
        · rw [List.mem_append, h2 x]
          simp only [List.mem_singleton]
          constructor
          · rintro (⟨j, hj, h⟩ | h)
            · exact ⟨j, by omega, h⟩
            · exact ⟨m, by omega, h.symm⟩
          · rintro ⟨j, hj, h⟩
            by_cases hjm : j = m
            · subst hjm; exact .inr h.symm
            · exact .inl ⟨j, by omega, h⟩
      · rw [e, if_neg hk, List.append_nil]
        refine ⟨h1, fun x => ?_⟩
        rw [h2 x]
        have hm0 : ¬ m = 0 ∧ d[m]! = d[m - 1]! := by
          unfold keeps at hk
          simp only [decide_eq_true_eq, not_or, ne_eq, Decidable.not_not] at hk
          exact hk
        constructor
        · rintro ⟨j, hj, h⟩
          exact ⟨j, by omega, h⟩
        · rintro ⟨j, hj, h⟩
          by_cases hjm : j = m
          · subst hjm; exact ⟨j - 1, by omega, by rw [← hm0.2]; exact h⟩
          · exact ⟨j, by omega, h⟩
  obtain ⟨h1, h2⟩ := key d.size (Nat.le_refl _)
  refine ⟨h1, fun x => ?_⟩
  rw [h2 x]
  constructor
  · rintro ⟨j, hj, rfl⟩
    rw [getElem!_pos d j hj]
    simp
  · intro hx
    obtain ⟨j, hj, h⟩ := List.mem_iff_getElem.1 hx
    have hj' : j < d.size := by simpa using hj
    exact ⟨j, hj', by rw [getElem!_pos d j hj']; simpa using h⟩

/-- Sorted, and each once: the lists merged. -/
theorem sort_compact (l : List (List UInt8)) : compactUpTo (l.mergeSort fun x y => !(ltOf idCmp) y x).toArray (l.mergeSort fun x y => !(ltOf idCmp) y x).toArray.size = mrg l := by
  have hp : (l.mergeSort fun x y => !(ltOf idCmp) y x).Pairwise fun x y => (!(ltOf idCmp) y x) = true := by
    apply List.pairwise_mergeSort
    · intro a b c h1 h2
      simp only [Bool.not_eq_true'] at *
      exact idSWO.ntrans _ _ _ h2 h1
    · intro a b
      simp only [Bool.or_eq_true, Bool.not_eq_true']
      rcases idLess_tri a b with ⟨_, p, _⟩ | ⟨p, _, _⟩ | ⟨p, _, _⟩
      · exact .inl p
      · exact .inr p
      · exact .inr p
  have h := compact_rising (l.mergeSort fun x y => !(ltOf idCmp) y x).toArray (by
    refine List.Pairwise.imp (fun {x y} h => ?_) hp
    show ltOf idCmp y x = false
    simpa using h)
  exact mrg_unique h.1 (fun x => by rw [h.2 x]; simp)

end Go.Proofs.Ytlckphdmflofgaa
end

section
/-
  LAYER 13, PLAIN: pairs, the lists of both sides, and the places of each pair in them.
-/
namespace Go.Proofs.Ytlckphdmflofgaa
open Go.Lib Go.Sort

theorem nodup_at {α : Type} {l : List α} (h : l.Nodup) {i j : Nat} {q : α} (hi : l[i]? = some q) (hj : l[j]? = some q) : i = j := by
  obtain ⟨a, rfl⟩ := List.getElem?_eq_some_iff.1 hi
  obtain ⟨b, e⟩ := List.getElem?_eq_some_iff.1 hj
  exact ((List.getElem_inj h).1 e).symm

/-- The last one fills the gap. -/
def gap {α : Type} (l : List α) (k : Nat) (z : α) : List α := (l.set k z).dropLast

theorem gap_at {α : Type} (m : List α) (z : α) (k i : Nat) : (gap (m ++ [z]) k z)[i]? = if i < m.length then (if i = k then some z else m[i]?) else none := by
  unfold gap
  rw [List.dropLast_eq_take, List.length_set, List.length_append, List.length_singleton, Nat.add_sub_cancel, List.getElem?_take]
  split
  · rename_i h
    rw [List.getElem?_set]
    by_cases e : k = i
    · subst e
      rw [if_pos rfl, if_pos rfl, if_pos (by simp; omega)]
    · rw [if_neg e, if_neg (fun h => e h.symm), List.getElem?_append_left h]
  · rfl

theorem gap_all {α : Type} [DecidableEq α] {m : List α} {z p : α} {k : Nat} (h : (m ++ [z]).Nodup) (hk : (m ++ [z])[k]? = some p) :
    (∀ q i, (m ++ [z])[i]? = some q → q ≠ p → (gap (m ++ [z]) k z)[if q = z then k else i]? = some q) ∧ (∀ q, q ∈ gap (m ++ [z]) k z ↔ q ∈ m ++ [z] ∧ q ≠ p) ∧ (gap (m ++ [z]) k z).Nodup := by
  have hkl : k < m.length + 1 := by
    obtain ⟨a, -⟩ := List.getElem?_eq_some_iff.1 hk
    simpa using a
  have hz : (m ++ [z])[m.length]? = some z := by simp
  have A : ∀ i q, (m ++ [z])[i]? = some q → i < m.length ∧ m[i]? = some q ∧ q ≠ z ∨ i = m.length ∧ q = z := by
    intro i q hi
    by_cases e : i < m.length
    · refine .inl ⟨e, ?_, ?_⟩
      · rwa [List.getElem?_append_left e] at hi
      · intro e2
        subst e2
        have := nodup_at h hi hz
        omega
    · obtain ⟨a, -⟩ := List.getElem?_eq_some_iff.1 hi
      have e2 : i = m.length := by simp at a; omega
      subst e2
      rw [hz] at hi
      exact .inr ⟨rfl, (Option.some.inj hi).symm⟩
  have B : ∀ q i, (m ++ [z])[i]? = some q → q ≠ p → (gap (m ++ [z]) k z)[if q = z then k else i]? = some q := by
    intro q i hi hq
    have hik : i ≠ k := by
      intro e
      subst e
      rw [hi] at hk
      exact hq (Option.some.inj hk)
    rw [gap_at m z k _]
    rcases A i q hi with ⟨a, b, c⟩ | ⟨a, b⟩
    · rw [if_neg c, if_pos a, if_neg hik, b]
    · rw [if_pos b, if_pos (by omega), if_pos rfl, b]
  have C : ∀ q i, (gap (m ++ [z]) k z)[i]? = some q → i < m.length ∧ (i = k ∧ q = z ∨ i ≠ k ∧ m[i]? = some q) := by
    intro q i hi
    rw [gap_at m z k _] at hi
    split at hi
    · rename_i a
      refine ⟨a, ?_⟩
      split at hi
      · rename_i b
        exact .inl ⟨b, (Option.some.inj hi).symm⟩
      · rename_i b
        exact .inr ⟨b, hi⟩
    · cases hi
  refine ⟨B, fun q => ⟨fun hq => ?_, fun hq => ?_⟩, ?_⟩
  · obtain ⟨i, hi⟩ := List.mem_iff_getElem?.1 hq
    obtain ⟨a, b⟩ := C q i hi
    rcases b with ⟨rfl, rfl⟩ | ⟨b, c⟩
    · refine ⟨by simp, ?_⟩
      intro e
      subst e
      have := nodup_at h hk hz
      omega
    · have hi2 : (m ++ [z])[i]? = some q := by rw [List.getElem?_append_left a]; exact c
      refine ⟨List.mem_of_getElem? hi2, ?_⟩
      intro e
      subst e
      exact b (nodup_at h hi2 hk)
  · obtain ⟨i, hi⟩ := List.mem_iff_getElem?.1 hq.1
    exact List.mem_of_getElem? (B q i hi hq.2)
  · unfold List.Nodup
    rw [List.pairwise_iff_getElem]
    intro i j hi hj hij he0
    obtain ⟨q, hq⟩ : ∃ q, (gap (m ++ [z]) k z)[j]? = some q := ⟨_, List.getElem?_eq_getElem hj⟩
    have he : (gap (m ++ [z]) k z)[i]? = some q := by
      rw [← hq, List.getElem?_eq_getElem hi, List.getElem?_eq_getElem hj, he0]
    obtain ⟨a1, b1⟩ := C q i he
    obtain ⟨a2, b2⟩ := C q j hq
    have up : ∀ t, t < m.length → m[t]? = some q → (m ++ [z])[t]? = some q := fun t ht hm => by rw [List.getElem?_append_left ht]; exact hm
    rcases b1 with ⟨c1, d1⟩ | ⟨c1, d1⟩ <;> rcases b2 with ⟨c2, d2⟩ | ⟨c2, d2⟩
    · omega
    · have := nodup_at h (up j a2 d2) (by rw [d1]; exact hz)
      omega
    · have := nodup_at h (up i a1 d1) (by rw [d2]; exact hz)
      omega
    · have := nodup_at h (up i a1 d1) (up j a2 d2)
      omega

/-! ### Pairs, and the sides -/

abbrev Pr := List UInt8 × List UInt8

/-- Who stands on that side. -/
def pcOf (s : Bool) (p : Pr) : List UInt8 := if s then p.2 else p.1

/-- The place on that side. -/
def plOf (s : Bool) (t : Nat × Nat) : Nat := if s then t.2 else t.1

def plSet (s : Bool) (t : Nat × Nat) (k : Nat) : Nat × Nat := if s then (t.1, k) else (k, t.2)

theorem plOf_set (s : Bool) (t : Nat × Nat) (k : Nat) : plOf s (plSet s t k) = k := by cases s <;> rfl
theorem plOf_ne {s r : Bool} (h : r ≠ s) (t : Nat × Nat) (k : Nat) : plOf r (plSet s t k) = plOf r t := by cases s <;> cases r <;> first | rfl | exact absurd rfl h
theorem plSet_self (s : Bool) (t : Nat × Nat) : plSet s t (plOf s t) = t := by cases s <;> rfl

structure Ix where
  P : Pr → Option (Nat × Nat)
  S : Bool → List UInt8 → List Pr

def Ix.zero : Ix := ⟨fun _ => none, fun _ _ => []⟩

/-- A pair is laid at a place of its list on a side. -/
def Ix.lay (x : Ix) (s : Bool) (k : Nat) (q : Pr) : Ix :=
  ⟨fun r => if r = q then some (plSet s ((x.P q).getD (0, 0)) k) else x.P r, fun t u => if t = s ∧ u = pcOf s q then (x.S t u).set k q else x.S t u⟩

/-- A pair behind its list on a side, without its place. -/
def Ix.grow (x : Ix) (s : Bool) (p : Pr) : Ix := ⟨x.P, fun t u => if t = s ∧ u = pcOf s p then x.S t u ++ [p] else x.S t u⟩

/-- The last pair off a list. -/
def Ix.cut (x : Ix) (s : Bool) (u : List UInt8) : Ix := ⟨x.P, fun t v => if t = s ∧ v = u then (x.S t v).dropLast else x.S t v⟩

def Ix.addS (x : Ix) (s : Bool) (p : Pr) : Ix := (x.grow s p).lay s (x.S s (pcOf s p)).length p

def Ix.add (x : Ix) (p : Pr) : Ix := (x.addS false p).addS true p

def Ix.remS (x : Ix) (s : Bool) (k : Nat) (p : Pr) : Ix := (x.lay s k ((x.S s (pcOf s p)).getLastD p)).cut s (pcOf s p)

def Ix.del (x : Ix) (p : Pr) : Ix := ⟨fun r => if r = p then none else x.P r, x.S⟩

def Ix.remove (x : Ix) (p : Pr) : Ix := ((x.remS false (plOf false ((x.P p).getD (0, 0))) p).remS true (plOf true ((x.P p).getD (0, 0))) p).del p

/-- One side is as the pairs 'L' ask. -/
structure IxSide (x : Ix) (s : Bool) (L : List Pr) : Prop where
  mem : ∀ u p, p ∈ x.S s u ↔ p ∈ L ∧ pcOf s p = u
  nd : ∀ u, (x.S s u).Nodup
  at' : ∀ p, p ∈ L → ∃ t, x.P p = some t ∧ (x.S s (pcOf s p))[plOf s t]? = some p

/-- An Index that has the pairs 'L'. -/
structure IxHas (x : Ix) (L : List Pr) : Prop where
  nd : L.Nodup
  none : ∀ p, x.P p = none ↔ p ∉ L
  side : ∀ s, IxSide x s L

theorem ix_zero : IxHas Ix.zero [] := ⟨List.nodup_nil, fun p => by simp [Ix.zero], fun s => ⟨fun u p => by simp [Ix.zero], fun u => by simp [Ix.zero], fun p hp => by cases hp⟩⟩

theorem addS_P (x : Ix) (s : Bool) (p r : Pr) : (x.addS s p).P r = if r = p then some (plSet s ((x.P p).getD (0, 0)) (x.S s (pcOf s p)).length) else x.P r := rfl

theorem addS_S (x : Ix) (s : Bool) (p : Pr) (t : Bool) (u : List UInt8) : (x.addS s p).S t u = if t = s ∧ u = pcOf s p then x.S t u ++ [p] else x.S t u := by
  show (if t = s ∧ u = pcOf s p then (if t = s ∧ u = pcOf s p then x.S t u ++ [p] else x.S t u).set (x.S s (pcOf s p)).length p else (if t = s ∧ u = pcOf s p then x.S t u ++ [p] else x.S t u)) = _
  split
  · rename_i h
    obtain ⟨rfl, rfl⟩ := h
    rw [List.set_append_right _ _ (Nat.le_refl _), Nat.sub_self]
    rfl
  · rfl

theorem addS_this {x : Ix} {s : Bool} {L : List Pr} {p : Pr} (h : IxSide x s L) (hp : p ∉ L) : IxSide (x.addS s p) s (L ++ [p]) := by
  have hnp : ∀ u, p ∉ x.S s u := fun u hm => hp ((h.mem u p).1 hm).1
  refine ⟨fun u q => ?_, fun u => ?_, fun q hq => ?_⟩
  · rw [addS_S]
    by_cases e : u = pcOf s p
    · rw [if_pos ⟨rfl, e⟩, List.mem_append, List.mem_append, h.mem u q, List.mem_singleton]
      subst e
      constructor
      · rintro (⟨a, b⟩ | rfl)
        · exact ⟨.inl a, b⟩
        · exact ⟨.inr rfl, rfl⟩
      · rintro ⟨a | rfl, b⟩
        · exact .inl ⟨a, b⟩
        · exact .inr rfl
    · rw [if_neg (fun a => e a.2), List.mem_append, h.mem u q, List.mem_singleton]
      constructor
      · rintro ⟨a, b⟩
        exact ⟨.inl a, b⟩
      · rintro ⟨a | rfl, b⟩
        · exact ⟨a, b⟩
        · exact absurd b.symm e
  · rw [addS_S]
    split
    · rw [List.nodup_append]
      refine ⟨h.nd u, by simp, ?_⟩
      intro a ha b hb e
      rw [List.mem_singleton] at hb
      subst hb e
      exact hnp u ha
    · exact h.nd u
  · rw [addS_P, addS_S]
    by_cases e : q = p
    · subst e
      refine ⟨_, if_pos rfl, ?_⟩
      rw [plOf_set, if_pos ⟨rfl, rfl⟩]
      simp
    · rw [if_neg e]
      have hq2 : q ∈ L := by
        rw [List.mem_append, List.mem_singleton] at hq
        exact hq.resolve_right e
      obtain ⟨t, a, b⟩ := h.at' q hq2
      refine ⟨t, a, ?_⟩
      split
      · obtain ⟨c, -⟩ := List.getElem?_eq_some_iff.1 b
        rw [List.getElem?_append_left c]
        exact b
      · exact b

theorem addS_other {x : Ix} {s r : Bool} {L : List Pr} {p : Pr} (h : IxSide x r L) (hr : r ≠ s) : IxSide (x.addS s p) r L := by
  have e : ∀ u, (x.addS s p).S r u = x.S r u := fun u => by rw [addS_S, if_neg (fun a => hr a.1)]
  refine ⟨fun u q => by rw [e]; exact h.mem u q, fun u => by rw [e]; exact h.nd u, fun q hq => ?_⟩
  obtain ⟨t, a, b⟩ := h.at' q hq
  rw [e, addS_P]
  by_cases g : q = p
  · subst g
    refine ⟨_, if_pos rfl, ?_⟩
    rw [plOf_ne hr, a]
    exact b
  · exact ⟨t, by rw [if_neg g]; exact a, b⟩

theorem ix_add {x : Ix} {L : List Pr} {p : Pr} (h : IxHas x L) (hp : p ∉ L) : IxHas (x.add p) (L ++ [p]) := by
  refine ⟨?_, fun q => ?_, fun s => ?_⟩
  · rw [List.nodup_append]
    refine ⟨h.nd, by simp, ?_⟩
    intro a ha b hb e
    rw [List.mem_singleton] at hb
    subst hb e
    exact hp ha
  · unfold Ix.add
    rw [addS_P]
    by_cases e : q = p
    · simp [e]
    · rw [if_neg e, addS_P, if_neg e, h.none q]
      simp [e]
  · unfold Ix.add
    cases s with
    | false => exact addS_other (addS_this (h.side false) hp) (by decide)
    | true => exact addS_this (addS_other (h.side true) (by decide)) hp

theorem remS_S (x : Ix) (s : Bool) (k : Nat) (p : Pr) (hu : pcOf s ((x.S s (pcOf s p)).getLastD p) = pcOf s p) (t : Bool) (u : List UInt8) :
    (x.remS s k p).S t u = if t = s ∧ u = pcOf s p then gap (x.S t u) k ((x.S s (pcOf s p)).getLastD p) else x.S t u := by
  show (if t = s ∧ u = pcOf s p then (if t = s ∧ u = pcOf s ((x.S s (pcOf s p)).getLastD p) then (x.S t u).set k ((x.S s (pcOf s p)).getLastD p) else x.S t u).dropLast else (if t = s ∧ u = pcOf s ((x.S s (pcOf s p)).getLastD p) then (x.S t u).set k ((x.S s (pcOf s p)).getLastD p) else x.S t u)) = _
  rw [hu]
  split <;> rfl

theorem remS_P (x : Ix) (s : Bool) (k : Nat) (p r : Pr) : (x.remS s k p).P r = if r = (x.S s (pcOf s p)).getLastD p then some (plSet s ((x.P ((x.S s (pcOf s p)).getLastD p)).getD (0, 0)) k) else x.P r := rfl

theorem last_of {x : Ix} {s : Bool} {L : List Pr} {p : Pr} (h : IxSide x s L) (hp : p ∈ L) : ∃ m z, x.S s (pcOf s p) = m ++ [z] ∧ (x.S s (pcOf s p)).getLastD p = z ∧ z ∈ L ∧ pcOf s z = pcOf s p := by
  have hm : p ∈ x.S s (pcOf s p) := (h.mem _ _).2 ⟨hp, rfl⟩
  have hne : x.S s (pcOf s p) ≠ [] := fun e => by rw [e] at hm; cases hm
  have e := List.dropLast_concat_getLast hne
  have hz := (h.mem _ _).1 (List.getLast_mem hne)
  refine ⟨_, _, e.symm, ?_, hz.1, hz.2⟩
  rw [List.getLastD_eq_getLast?, List.getLast?_eq_some_getLast hne]
  rfl

theorem remS_this {x : Ix} {s : Bool} {L : List Pr} {p : Pr} {t : Nat × Nat} (h : IxSide x s L) (hp : p ∈ L) (ht : x.P p = some t) :
    IxSide (x.remS s (plOf s t) p) s (L.filter (· ≠ p)) ∧ (∀ r, r ∈ L → r ≠ p → ∀ v, x.P r = some v → ∃ v', (x.remS s (plOf s t) p).P r = some v' ∧ plOf (!s) v' = plOf (!s) v) ∧ (x.remS s (plOf s t) p).P p = some t ∧ ∀ q, (x.remS s (plOf s t) p).P q = none ↔ x.P q = none := by
  obtain ⟨m, z, e1, e2, hz, hzu⟩ := last_of h hp
  have hu : pcOf s ((x.S s (pcOf s p)).getLastD p) = pcOf s p := by rw [e2]; exact hzu
  have hk : (m ++ [z])[plOf s t]? = some p := by
    obtain ⟨t2, a, b⟩ := h.at' p hp
    rw [ht] at a
    cases a
    rw [← e1]
    exact b
  have hnd := h.nd (pcOf s p)
  rw [e1] at hnd
  obtain ⟨A, B, C⟩ := gap_all hnd hk
  obtain ⟨tz, hz1, hz2⟩ := h.at' z hz
  have hP := fun r => remS_P x s (plOf s t) p r
  rw [e2] at hP
  have hS := fun u => remS_S x s (plOf s t) p hu s u
  rw [e2] at hS
  refine ⟨⟨fun u q => ?_, fun u => ?_, fun q hq => ?_⟩, fun r hr hrp v hv => ?_, ?_, fun q => ?_⟩
  · rw [hS, List.mem_filter, decide_eq_true_eq]
    by_cases g : u = pcOf s p
    · subst g
      rw [if_pos ⟨rfl, rfl⟩, e1, B q, ← e1, h.mem]
      exact ⟨fun a => ⟨⟨a.1.1, a.2⟩, a.1.2⟩, fun a => ⟨⟨a.1.1, a.2⟩, a.1.2⟩⟩
    · rw [if_neg (fun a => g a.2), h.mem]
      exact ⟨fun a => ⟨⟨a.1, fun e => g (by rw [← a.2, e])⟩, a.2⟩, fun a => ⟨a.1.1, a.2⟩⟩
  · rw [hS]
    split
    · rename_i g
      rw [g.2, e1]
      exact C
    · exact h.nd u
  · rw [List.mem_filter, decide_eq_true_eq] at hq
    obtain ⟨v, a, b⟩ := h.at' q hq.1
    by_cases g : pcOf s q = pcOf s p
    · have hSq : (x.remS s (plOf s t) p).S s (pcOf s q) = gap (m ++ [z]) (plOf s t) z := by rw [hS, g, if_pos ⟨rfl, rfl⟩, e1]
      rw [hSq]
      rw [g, e1] at b
      have w := A q _ b hq.2
      by_cases f : q = z
      · rw [if_pos f] at w
        exact ⟨_, (hP q).trans (if_pos f), by rw [plOf_set]; exact w⟩
      · rw [if_neg f] at w
        exact ⟨v, ((hP q).trans (if_neg f)).trans a, w⟩
    · have hSq : (x.remS s (plOf s t) p).S s (pcOf s q) = x.S s (pcOf s q) := by rw [hS, if_neg (fun a => g a.2)]
      rw [hSq]
      have f : q ≠ z := fun e => g (by rw [e]; exact hzu)
      exact ⟨v, ((hP q).trans (if_neg f)).trans a, b⟩
  · rw [hP]
    by_cases f : r = z
    · subst f
      rw [hv]
      exact ⟨_, if_pos rfl, plOf_ne (by cases s <;> decide) _ _⟩
    · exact ⟨v, by rw [if_neg f]; exact hv, rfl⟩
  · rw [hP]
    by_cases f : p = z
    · subst f
      rw [if_pos rfl, ht]
      exact congrArg some (plSet_self s t)
    · rw [if_neg f]
      exact ht
  · rw [hP]
    by_cases f : q = z
    · subst f
      rw [if_pos rfl, hz1]
      simp
    · rw [if_neg f]

theorem remS_other {x : Ix} {s r : Bool} {L : List Pr} {p : Pr} {k : Nat} (h : IxSide x r L) (hr : r ≠ s) (hu : pcOf s ((x.S s (pcOf s p)).getLastD p) = pcOf s p) : IxSide (x.remS s k p) r L := by
  have e : ∀ u, (x.remS s k p).S r u = x.S r u := fun u => by rw [remS_S x s k p hu, if_neg (fun a => hr a.1)]
  refine ⟨fun u q => by rw [e]; exact h.mem u q, fun u => by rw [e]; exact h.nd u, fun q hq => ?_⟩
  obtain ⟨t, a, b⟩ := h.at' q hq
  rw [e, remS_P]
  by_cases g : q = (x.S s (pcOf s p)).getLastD p
  · refine ⟨_, if_pos g, ?_⟩
    rw [plOf_ne hr, ← g, a]
    exact b
  · exact ⟨t, (if_neg g).trans a, b⟩

theorem ix_remove {x : Ix} {L : List Pr} {p : Pr} (h : IxHas x L) (hp : p ∈ L) : IxHas (x.remove p) (L.filter (· ≠ p)) := by
  obtain ⟨t, ht, -⟩ := (h.side false).at' p hp
  have e : x.remove p = ((x.remS false (plOf false t) p).remS true (plOf true t) p).del p := by unfold Ix.remove; rw [ht]; rfl
  rw [e]
  obtain ⟨m0, z0, -, e0, -, u0⟩ := last_of (h.side false) hp
  obtain ⟨A, -, B, C⟩ := remS_this (h.side false) hp ht
  have D := remS_other (k := plOf false t) (h.side true) (by decide : true ≠ false) (by rw [e0]; exact u0)
  generalize x.remS false (plOf false t) p = y at A B C D
  obtain ⟨m1, z1, -, e1, -, u1⟩ := last_of D hp
  obtain ⟨A2, -, B2, C2⟩ := remS_this D hp B
  have D2 := remS_other (k := plOf true t) A (by decide : false ≠ true) (by rw [e1]; exact u1)
  generalize y.remS true (plOf true t) p = z at A2 B2 C2 D2
  have side : ∀ s, IxSide z s (L.filter (· ≠ p)) := fun s => by cases s; exact D2; exact A2
  refine ⟨h.nd.filter _, fun q => ?_, fun s => ⟨(side s).mem, (side s).nd, fun q hq => ?_⟩⟩
  · show (if q = p then none else z.P q) = none ↔ _
    rw [List.mem_filter, decide_eq_true_eq]
    by_cases g : q = p
    · simp [g]
    · rw [if_neg g, C2, C, h.none]
      exact ⟨fun a b => a b.1, fun a b => a ⟨b, g⟩⟩
  · obtain ⟨v, a, b⟩ := (side s).at' q hq
    rw [List.mem_filter, decide_eq_true_eq] at hq
    exact ⟨v, (if_neg hq.2).trans a, b⟩

/-! ### The document's Index: a list of pairs -/

def ixHas (L : List Pr) (p : Pr) : Bool := decide (p ∈ L)

def ixSet (L : List Pr) (p : Pr) (on : Bool) : List Pr × Bool := if ixHas L p = on then (L, false) else (if on then L ++ [p] else L.filter (· ≠ p), true)

def ixSide (L : List Pr) (s : Bool) (u : List UInt8) : List (List UInt8) := mrg ((L.filter (fun p => pcOf s p = u)).map (pcOf (!s)))

def ixFree (u : List UInt8) (p : Pr) : Bool := decide (p.1 ≠ u ∧ p.2 ≠ u)

def ixForget (L : List Pr) (u : List UInt8) : List Pr := L.filter (ixFree u)

theorem has_of {x : Ix} {L : List Pr} (h : IxHas x L) (p : Pr) : (x.P p).isSome = ixHas L p := by
  unfold ixHas
  cases e : x.P p with
  | none => rw [decide_eq_false ((h.none p).1 e)]; rfl
  | some t =>
    rw [decide_eq_true]
    · rfl
    · refine Classical.byContradiction fun c => ?_
      rw [(h.none p).2 c] at e
      cases e

/-- What the Index tells of a side is the document's. -/
theorem side_of {x : Ix} {L : List Pr} (h : IxHas x L) (s : Bool) (u : List UInt8) : mrg ((x.S s u).map (pcOf (!s))) = ixSide L s u := by
  unfold ixSide
  refine mrg_unique (mrg_rising _) fun n => ?_
  rw [mrg_mem, List.mem_map, List.mem_map]
  constructor
  · rintro ⟨p, a, b⟩
    have := ((h.side s).mem u p).1 a
    exact ⟨p, by rw [List.mem_filter, decide_eq_true_eq]; exact this, b⟩
  · rintro ⟨p, a, b⟩
    rw [List.mem_filter, decide_eq_true_eq] at a
    exact ⟨p, ((h.side s).mem u p).2 a, b⟩

/-- Set: what is told, and what comes of it. -/
def Ix.set (x : Ix) (p : Pr) (on : Bool) : Ix := if (x.P p).isSome = on then x else if on then x.add p else x.remove p

/-! ### Forget: one pair after the other -/

theorem forget_step {L0 L : List Pr} {u : List UInt8} {p : Pr} {s : Bool} (hn : L.Nodup) (hp : p ∈ L) (hs : pcOf s p = u) (h : L.filter (ixFree u) = ixForget L0 u) :
    (L.filter (· ≠ p)).filter (ixFree u) = ixForget L0 u ∧ (L.filter (· ≠ p)).length + 1 = L.length := by
  constructor
  · rw [← h, List.filter_filter]
    refine List.filter_congr fun q _ => ?_
    by_cases e : q = p
    · subst e
      have : ixFree u q = false := by
        unfold ixFree
        rw [decide_eq_false_iff_not]
        cases s with
        | false => exact fun a => a.1 hs
        | true => exact fun a => a.2 hs
      rw [this]; rfl
    · simp [e]
  · have e : L.filter (· ≠ p) = L.erase p := by
      rw [hn.erase_eq_filter]
      refine List.filter_congr fun q _ => ?_
      by_cases e : q = p <;> simp [e]
    rw [e, List.length_erase_of_mem hp]
    have := List.length_pos_of_mem hp
    omega

/-- Where both lists of a user are empty, no pair has it. -/
theorem forget_end {x : Ix} {L L0 : List Pr} {u : List UInt8} (h : IxHas x L) (h0 : x.S false u = []) (h1 : x.S true u = []) (hf : L.filter (ixFree u) = ixForget L0 u) : L = ixForget L0 u := by
  rw [← hf]
  refine (List.filter_eq_self.2 fun p hp => ?_).symm
  unfold ixFree
  rw [decide_eq_true_eq]
  constructor
  · intro e
    have := ((h.side false).mem u p).2 ⟨hp, e⟩
    rw [h0] at this
    cases this
  · intro e
    have := ((h.side true).mem u p).2 ⟨hp, e⟩
    rw [h1] at this
    cases this

theorem nodup_le {α : Type} [DecidableEq α] : ∀ {l m : List α}, l.Nodup → (∀ x, x ∈ l → x ∈ m) → l.length ≤ m.length
  | [], _, _, _ => Nat.zero_le _
  | a :: t, m, hn, hs => by
    have ha := hs a List.mem_cons_self
    rw [List.nodup_cons] at hn
    have := nodup_le (m := m.erase a) hn.2 fun x hx => (List.mem_erase_of_ne (by intro e; subst e; exact hn.1 hx)).2 (hs x (List.mem_cons_of_mem a hx))
    rw [List.length_erase_of_mem ha] at this
    have := List.length_pos_of_mem ha
    rw [List.length_cons]
    omega

/-- A user's list is no longer than all pairs. -/
theorem side_len {x : Ix} {L : List Pr} (h : IxHas x L) (s : Bool) (u : List UInt8) : (x.S s u).length ≤ L.length :=
  nodup_le ((h.side s).nd u) fun p hp => (((h.side s).mem u p).1 hp).1

end Go.Proofs.Ytlckphdmflofgaa
end

section
/-
  KEYS THAT ARE PAIRS (layer 13's own type of two texts): what a map's key stands for; unlike pairs have unlike keys.
-/
namespace Go.Proofs.Ytlckphdmflofgaa
open Go.RowKit Go.ChangeMaps Go.MapKept

theorem ikLaid : laidOutB Try.prog = true := by kernel_rfl
theorem ikRow : (57 : TypeId) < Try.prog.types.size := of_decide_eq_true (by kernel_rfl)
theorem ikWide : (match Try.prog.underlying 57 with | some (.array _ _) | some (.struct _) => true | _ => false) = true := by kernel_rfl
set_option maxRecDepth 100000 in
theorem ikLaw : WideMaps.KeyLaw Try.prog 57 := deep_law_laid ikLaid (m := 3) (by omega) ikRow (by kernel_rfl) ikWide
theorem ikKeyed : Maps.Keyed Try.prog 57 := Maps.Keyed.of_law ikLaw

def ikV (p : Pr) : Value := .agg #[.string ⟨p.1.toArray⟩, .string ⟨p.2.toArray⟩]

/-- The literal of a pair. -/
def ikL (p : Pr) : Lit := .string (keyBytes [.string p.1, .string p.2])

theorem ik_text {d : Nat} {a : List UInt8} (h : a.length ≤ 4294967296) : Try.prog.keyLits (d + 1) 9 [.string ⟨a.toArray⟩] = some [.string a] := by
  unfold Program.keyLits
  rw [Try.underlying9]
  have : (⟨a.toArray⟩ : ByteArray).size ≤ maxLen := by show a.toArray.size ≤ _; simp; unfold maxLen; omega
  simp only [this, if_true]

theorem ik_lits {d : Nat} {a b : List UInt8} (ha : a.length ≤ 4294967296) (hb : b.length ≤ 4294967296) : Try.prog.keyLits (d + 2) 57 [.string ⟨a.toArray⟩, .string ⟨b.toArray⟩] = some [.string a, .string b] := by
  have c2 : Try.prog.cellsOf 57 = 2 := by kernel_rfl
  have c1 : Try.prog.cellsOf 9 = 1 := by kernel_rfl
  rw [show d + 2 = (d + 1) + 1 from rfl]
  unfold Program.keyLits
  rw [Try.underlying57]
  simp only [c1, c2, List.length_cons, List.length_nil, Nat.zero_add, Nat.reduceAdd, if_true]
  have e : List.range 2 = [0, 1] := rfl
  rw [e]
  simp only [List.mapM_cons, List.mapM_nil, Nat.zero_mul, Nat.one_mul, List.drop_zero, List.drop_succ_cons, List.take_succ_cons, List.take_zero, ik_text ha, ik_text hb, Option.map_some, bind, Option.bind, pure]
  rfl

/-- Two texts, each of at most 2^32 bytes. -/
def Short2 (p : Pr) : Prop := p.1.length ≤ 4294967296 ∧ p.2.length ≤ 4294967296

set_option maxRecDepth 100000 in
theorem ik_key (p : Pr) (h : Short2 p) : keyOf Try.prog 57 (ikV p) = some (ikL p) := by
  obtain ⟨a, b⟩ := p
  obtain ⟨ha, hb⟩ := h
  unfold keyOf ikV
  rw [Try.underlying57]
  have c2 : Try.prog.cellsOf 57 = 2 := by kernel_rfl
  have hk : Try.prog.keyType 57 = true := by kernel_rfl
  have hf : (Value.agg #[.string ⟨a.toArray⟩, .string ⟨b.toArray⟩]).formed Try.prog 57 = true := by
    simp [Value.formed, Try.underlying57, c2]
  obtain ⟨s, hn⟩ : ∃ s, Try.prog.types.size = s + 1 := ⟨_, (Nat.succ_pred_eq_of_pos (Nat.lt_of_le_of_lt (Nat.zero_le _) ikRow)).symm⟩
  have hc : (Value.agg #[.string ⟨a.toArray⟩, .string ⟨b.toArray⟩]).cells.toList = [.string ⟨a.toArray⟩, .string ⟨b.toArray⟩] := rfl
  simp only [hk, hf, Bool.and_self, if_true, hc]
  rw [hn, show s + 1 + 1 = s + 2 from rfl, ik_lits ha hb]
  rfl

theorem ik_inj {p q : Pr} (hp : Short2 p) (hq : Short2 q) (h : ikL p = ikL q) : p = q := by
  have e := ikLaw.inj (ik_key p hp) (by rw [h]; exact ik_key q hq)
  unfold ikV at e
  simp only [Value.agg.injEq, Array.mk.injEq, List.cons.injEq, Value.string.injEq, ByteArray.mk.injEq, and_true] at e
  obtain ⟨a, b⟩ := p
  obtain ⟨c, d⟩ := q
  obtain ⟨e1, e2⟩ := e
  simp only at e1 e2
  rw [e1, e2]

theorem ik_isKey (p : Pr) : WideAt.IsKeyLit (ikL p) := True.intro

end Go.Proofs.Ytlckphdmflofgaa
end

section
/-
  THE TWO KINDS OF MAPS OF LAYER 13: from each pair to its places, from each user to its list.
-/
namespace Go.Proofs.Ytlckphdmflofgaa
open Go.RowKit Go.ChangeMaps Go.MapKept

/-! ### The places of each pair -/

def plV (t : Nat × Nat) : Value := .agg #[.int .i64 t.1, .int .i64 t.2]

def plData (t : Nat × Nat) : DataW Unit := .agg [.lit (.int .i64 t.1), .lit (.int .i64 t.2)]

def plElem : Value → Option (DataW Unit × List MemPlace)
  | .agg cs => match cs.toList with
    | [.int .i64 a, .int .i64 b] => some (.agg [.lit (.int .i64 a), .lit (.int .i64 b)], [])
    | _ => none
  | _ => none

theorem plElem_mk (t : Nat × Nat) : plElem (plV t) = some (plData t, []) := rfl

theorem plElem_inv {v : Value} {z : DataW Unit × List MemPlace} (h : plElem v = some z) (t : Nat × Nat) (hz : z.1 = plData t) : v = plV t := by
  unfold plElem at h
  split at h
  · rename_i cs
    split at h
    · rename_i a b he
      obtain ⟨l⟩ := cs
      simp only at he
      subst he
      rw [← Option.some.inj h] at hz
      simp only [plData, DataW.agg.injEq, List.cons.injEq, DataW.lit.injEq, Lit.int.injEq, true_and, and_true] at hz
      obtain ⟨rfl, rfl⟩ := hz
      rfl
    · cases h
  · cases h

/-- Block B is a map from 'n' pairs to their places; at most N were ever stored. -/
def PlMap (w : World) (B N n : Nat) (P : Pr → Option (Nat × Nat)) : Prop :=
  ∃ k, ∃ D : DataW Unit, k ≤ N ∧ w.ownsMap Try.prog 57 plElem B k D ∧ Maps.size D = n ∧
    ∀ p : Pr, Short2 p → Maps.has D (ikL p) = (P p).isSome ∧ D.atKey (ikL p) (plData (0, 0)) = plData ((P p).getD (0, 0))

theorem plMap_made (w : World) (N : Nat) : PlMap (w.alloc (.map #[] 0)) w.heap.size N 0 (fun _ => none) :=
  ⟨0, .map [], Nat.zero_le _, World.ownsMap_made w _ _ _, rfl, fun _ _ => ⟨rfl, rfl⟩⟩

theorem PlMap.lt {w : World} {B N n : Nat} {P : Pr → Option (Nat × Nat)} (h : PlMap w B N n P) : B < w.heap.size := by
  obtain ⟨_, _, _, h, _⟩ := h
  exact h.lt

theorem PlMap.kept {w w' : World} {B N n : Nat} {P : Pr → Option (Nat × Nat)} (h : PlMap w B N n P) (hb : w'.heap[B]? = w.heap[B]?) : PlMap w' B N n P := by
  obtain ⟨k, D, h1, ⟨es, clock, h2, h3, h4, h5⟩, h6⟩ := h
  exact ⟨k, D, h1, ⟨es, clock, hb.trans h2, h3, h4, h5⟩, h6⟩

theorem PlMap.more {w : World} {B N M n : Nat} {P : Pr → Option (Nat × Nat)} (h : PlMap w B N n P) (hm : N ≤ M) : PlMap w B M n P := by
  obtain ⟨k, D, h1, h2⟩ := h
  exact ⟨k, D, Nat.le_trans h1 hm, h2⟩

theorem PlMap.later {w w' : World} {B N n : Nat} {P : Pr → Option (Nat × Nat)} (h : PlMap w B N n P) (hb : Below w.heap.size w w') : PlMap w' B N n P := h.kept (hb.block B h.lt)

theorem PlMap.len {w : World} {B N n : Nat} {P : Pr → Option (Nat × Nat)} (h : PlMap w B N n P) (ty : TypeId) :
    (Builtin.len_ #[51] ty #[.map (some B)]).run Try.prog w = .ok (.int .i64 n) w := by
  obtain ⟨k, D, h1, h2, h3, _⟩ := h
  rw [← h3]
  exact h2.len Try.underlying51 ty

theorem zeroPl (w : World) : (zeroValue 59).run Try.prog w = .ok (plV (0, 0)) w := by kernel_rfl

theorem PlMap.lookOk {w : World} {B N n : Nat} {P : Pr → Option (Nat × Nat)} (h : PlMap w B N n P) (p : Pr) (hp : Short2 p) :
    (Instr.lookup 51 (.map (some B)) (ikV p) true).run Try.prog w = .ok (.tuple #[plV ((P p).getD (0, 0)), .bool (P p).isSome]) w := by
  obtain ⟨k, D, h1, h2, _, h3⟩ := h
  obtain ⟨v, ps, hrun, hv⟩ := h2.look_ok ikKeyed Try.underlying51 (zeroPl w) (plElem_mk (0, 0)) (ik_key p hp)
  rw [(h3 p hp).2] at hv
  rw [plElem_inv hv _ rfl, (h3 p hp).1] at hrun
  exact hrun

theorem PlMap.look {w : World} {B N n : Nat} {P : Pr → Option (Nat × Nat)} (h : PlMap w B N n P) (p : Pr) (hp : Short2 p) :
    (Instr.lookup 51 (.map (some B)) (ikV p) false).run Try.prog w = .ok (plV ((P p).getD (0, 0))) w := by
  obtain ⟨k, D, h1, h2, _, h3⟩ := h
  obtain ⟨v, ps, hrun, hv⟩ := h2.lookup ikKeyed Try.underlying51 (zeroPl w) (plElem_mk (0, 0)) (ik_key p hp)
  rw [(h3 p hp).2] at hv
  rw [plElem_inv hv _ rfl] at hrun
  exact hrun

/-! ### The list of each user: its block, its length, its room -/

structure IxSl where
  g : Nat
  n : Nat
  c : Nat
deriving DecidableEq

def ixslV : Option IxSl → Value
  | none => .slice none 0 0
  | some x => .slice (some ⟨x.g, 0, none⟩) x.n x.c

def ixslData : Option IxSl → DataW Unit
  | none => .lit (.bool false)
  | some x => .agg [.lit (.int .i64 x.g), .lit (.int .i64 x.n), .lit (.int .i64 x.c)]

def ixslElem : Value → Option (DataW Unit × List MemPlace)
  | .slice none 0 0 => some (.lit (.bool false), [])
  | .slice (some ⟨g, 0, none⟩) n c => some (.agg [.lit (.int .i64 g), .lit (.int .i64 n), .lit (.int .i64 c)], [])
  | _ => none

theorem ixslElem_mk (o : Option IxSl) : ixslElem (ixslV o) = some (ixslData o, []) := by cases o <;> rfl

theorem ixslElem_inv {v : Value} {z : DataW Unit × List MemPlace} (h : ixslElem v = some z) (o : Option IxSl) (hz : z.1 = ixslData o) : v = ixslV o := by
  unfold ixslElem at h
  split at h
  · rw [← Option.some.inj h] at hz
    cases o with
    | none => rfl
    | some x => simp [ixslData] at hz
  · rw [← Option.some.inj h] at hz
    cases o with
    | none => simp [ixslData] at hz
    | some x =>
      obtain ⟨g, n, c⟩ := x
      simp only [ixslData, DataW.agg.injEq, List.cons.injEq, DataW.lit.injEq, Lit.int.injEq, true_and, and_true] at hz
      obtain ⟨e1, e2, e3⟩ := hz
      have e1 := Int.ofNat.inj e1
      have e2 := Int.ofNat.inj e2
      have e3 := Int.ofNat.inj e3
      subst e1 e2 e3
      rfl
  · cases h

/-- Block B is a map from users to their lists; at most N were ever stored. -/
def SdMap (w : World) (B N : Nat) (f : List UInt8 → Option IxSl) : Prop :=
  ∃ k, ∃ D : DataW Unit, k ≤ N ∧ w.ownsMap Try.prog 9 ixslElem B k D ∧
    ∀ x : List UInt8, D.atKey (.string x) (ixslData none) = ixslData (f x)

theorem sdMap_made (w : World) (N : Nat) : SdMap (w.alloc (.map #[] 0)) w.heap.size N (fun _ => none) :=
  ⟨0, .map [], Nat.zero_le _, World.ownsMap_made w _ _ _, fun _ => rfl⟩

theorem SdMap.lt {w : World} {B N : Nat} {f : List UInt8 → Option IxSl} (h : SdMap w B N f) : B < w.heap.size := by
  obtain ⟨_, _, _, h, _⟩ := h
  exact h.lt

theorem SdMap.kept {w w' : World} {B N : Nat} {f : List UInt8 → Option IxSl} (h : SdMap w B N f) (hb : w'.heap[B]? = w.heap[B]?) : SdMap w' B N f := by
  obtain ⟨k, D, h1, ⟨es, clock, h2, h3, h4, h5⟩, h6⟩ := h
  exact ⟨k, D, h1, ⟨es, clock, hb.trans h2, h3, h4, h5⟩, h6⟩

theorem SdMap.more {w : World} {B N M : Nat} {f : List UInt8 → Option IxSl} (h : SdMap w B N f) (hm : N ≤ M) : SdMap w B M f := by
  obtain ⟨k, D, h1, h2⟩ := h
  exact ⟨k, D, Nat.le_trans h1 hm, h2⟩

theorem SdMap.later {w w' : World} {B N : Nat} {f : List UInt8 → Option IxSl} (h : SdMap w B N f) (hb : Below w.heap.size w w') : SdMap w' B N f := h.kept (hb.block B h.lt)

theorem zeroIxSl (w : World) : (zeroValue 61).run Try.prog w = .ok (ixslV none) w := by kernel_rfl

theorem ix_text (x : List UInt8) (h : x.length ≤ 4294967296) : keyOf Try.prog 9 (.string ⟨x.toArray⟩) = some (.string x) :=
  WideMaps.keyOf_string_mk Try.underlying9 (by show x.toArray.size ≤ _; simp; unfold maxLen; omega)

theorem SdMap.look {w : World} {B N : Nat} {f : List UInt8 → Option IxSl} (h : SdMap w B N f) (x : List UInt8) (hx : x.length ≤ 4294967296) :
    (Instr.lookup 52 (.map (some B)) (.string ⟨x.toArray⟩) false).run Try.prog w = .ok (ixslV (f x)) w := by
  obtain ⟨k, D, h1, h2, h3⟩ := h
  obtain ⟨v, ps, hrun, hv⟩ := h2.lookup (Maps.string_keyed Try.underlying9) Try.underlying52 (zeroIxSl w) (ixslElem_mk none) (ix_text x hx)
  rw [h3 x] at hv
  rw [ixslElem_inv hv _ rfl] at hrun
  exact hrun

end Go.Proofs.Ytlckphdmflofgaa
end

section
/-
  AN APPEND TO AN OWNED ROW, all of whose cells (the spare ones too) are of one kind: so stays the row.
-/
namespace Go.Proofs.Ytlckphdmflofgaa
open Go.RowKit

/-- All cells of the row's block are of one kind. -/
def AllQ (q : Value → Prop) (w : World) (e : TypeId) (v : Value) : Prop := ∀ g, v.ownBlock = some g → ∃ cur, w.heap[g]? = some (.cells cur e (0, 0)) ∧ ∀ u ∈ cur.toList, q u

theorem allQ_nil (q : Value → Prop) (w : World) (e : TypeId) : AllQ q w e (.slice none 0 0) := fun g h => by cases h

theorem AllQ.kept {q : Value → Prop} {w w' : World} {e : TypeId} {v : Value} (h : AllQ q w e v) (hb : ∀ g, v.ownBlock = some g → w'.heap[g]? = w.heap[g]?) : AllQ q w' e v := fun g hg => by
  obtain ⟨cur, h1, h2⟩ := h g hg
  exact ⟨cur, (hb g hg).trans h1, h2⟩

theorem AllQ.later {q : Value → Prop} {w w' : World} {e : TypeId} {v : Value} (h : AllQ q w e v) (hb : Below w.heap.size w w') : AllQ q w' e v := h.kept fun g hg => by
  obtain ⟨cur, h1, _⟩ := h g hg
  exact hb.block g (Array.getElem?_eq_some_iff.1 h1).1

section
variable {P : Program} (w : World)

theorem run_append_q (q : Value → Prop) (base : Nat) (t ty e : TypeId) (i : TypeInfo) (z : Value) (size bytes : Nat) (ht : P.underlying t = some (.slice e)) (hi : P.info? e = some i) (hz : i.zero = some z)
    (hsize : i.size = size) (hby : i.bytes = bytes) (hzs : z.cells.size = size) (hsz : 0 < size)
    (v : Value) (n : Nat) (xs : List Value) (hown : w.ownsRow base e size v n xs) (hq : AllQ q w e v)
    (a : Addr) (m c : Nat) (news : List Value) (hl : news.length = m * size) (hnews : ∀ j u, news[j]? = some u → w.cell? (a.add j) = some u) (h1 : ∀ u ∈ news, u.oneCell' = true) (hm : 0 < m)
    (hqn : ∀ u ∈ news, q u) (hqz : ∀ k, ∀ u ∈ (Builtin.zeroCells z.cells k).toList, q u)
    (h63 : n + m ≤ maxLen) (hbytes : (n + m) * bytes ≤ 140737488355328) (hbase : base ≤ w.heap.size) :
    ∃ v' w', (Builtin.append_ #[t, t] ty #[v, .slice (some a) m c]).run P w = .ok v' w' ∧ w'.ownsRow base e size v' (n + m) (xs ++ news) ∧ w.grownBy w' v.ownBlock ∧ AllQ q w' e v' := by
  obtain ⟨v', w', hr, h2, h3, -⟩ := run_append_own (P := P) w base t ty e i z size bytes ht hi hz hsize hby hzs hsz v n xs hown a m c news hl hnews h1 h63 hbytes hbase
  refine ⟨v', w', hr, h2, h3, ?_⟩
  subst hsize hby
  have made : ∀ (cs : Array Value) (k cap : Nat), (∀ u ∈ cs.toList, q u) → AllQ q (w.drew.alloc (.cells cs e)) e (.slice (some ⟨w.heap.size, 0, none⟩) k cap) := by
    intro cs k cap hc g hg
    obtain rfl : w.heap.size = g := Option.some.inj hg
    exact ⟨cs, heap_alloc_new w.drew _, hc⟩
  have both : ∀ (ys bs : List Value) (k : Nat), (∀ u ∈ ys, q u) → (∀ u ∈ bs, q u) → ∀ u ∈ (ys.toArray ++ bs.toArray ++ Builtin.zeroCells z.cells k).toList, q u := by
    intro ys bs k ha hb u hu
    simp only [Array.toList_append, List.mem_append] at hu
    rcases hu with (hu | hu) | hu
    · exact ha u hu
    · exact hb u hu
    · exact hqz k u hu
  obtain ⟨hx, hv⟩ := hown
  cases hv with
  | inl hv =>
    obtain ⟨rfl, rfl⟩ := hv
    have hk := run_append_nil (P := P) w t ty e i z ht hi hz a m c news hl hnews hm (by unfold maxLen at h63; omega) (Nat.le_trans (by simpa using hbytes) (by decide : 140737488355328 ≤ 281474976710656))
    rw [hr] at hk
    obtain ⟨rfl, rfl⟩ := Result.ok.inj hk
    refine made _ _ _ fun u hu => ?_
    simp only [Array.toList_append, List.mem_append] at hu
    exact hu.elim (hqn u) (hqz _ u)
  | inr hv =>
    obtain ⟨g, cap, cur, rfl, hbase2, hg, hnc, hcm, hcs, htake⟩ := hv
    obtain ⟨cur', k1, k2⟩ := hq g rfl
    obtain rfl : cur = cur' := by rw [hg] at k1; injection k1 with k1; injection k1
    have hqx : ∀ u ∈ xs, q u := fun u hu => k2 u (List.mem_of_mem_take (htake ▸ hu))
    by_cases hroom : n + m ≤ cap
    · have hfit : n * i.size + news.length ≤ cur.size := by
        rw [hl, hcs, ← Nat.add_mul]
        exact Nat.mul_le_mul_right _ hroom
      have hk := run_append_room (P := P) w t ty e i ht hi g n cap cur hg a m c news hl hnews h1 hroom hfit
      rw [hr] at hk
      obtain ⟨rfl, rfl⟩ := Result.ok.inj hk
      intro g' hg'
      obtain rfl : g = g' := Option.some.inj hg'
      refine ⟨_, setRow_heap w g cur _ e _ hg, fun u hu => ?_⟩
      simp only [List.mem_append] at hu
      rcases hu with (hu | hu) | hu
      · exact k2 u (List.mem_of_mem_take hu)
      · exact hqn u hu
      · exact k2 u (List.mem_of_mem_drop hu)
    · have hrd : ∀ j u, xs[j]? = some u → w.cell? ((⟨g, 0, none⟩ : Addr).add j) = some u := World.ownsRow.cells (base := base) (e := e) (size := i.size) (n := n) ⟨hx, .inr ⟨g, cap, cur, rfl, hbase2, hg, hnc, hcm, hcs, htake⟩⟩ rfl
      have hk := run_append_grow (P := P) w t ty e i z ht hi hz ⟨g, 0, none⟩ n cap xs hx hrd a m c news hl hnews (by omega) (by unfold maxLen at h63; omega) (growslice_fits (by omega) hbytes)
      rw [hr] at hk
      obtain ⟨rfl, rfl⟩ := Result.ok.inj hk
      exact made _ _ _ (both xs news _ hqx hqn)

end

/-- No text. -/
def noStr (v : Value) : Prop := ∀ s : ByteArray, v ≠ .string s

/-- A text. -/
def isStrV (v : Value) : Prop := ∃ s : ByteArray, v = .string s

theorem allQ_set {q : Value → Prop} {w : World} {e : TypeId} {g n c : Nat} (h : AllQ q w e (.slice (some ⟨g, 0, none⟩) n c)) (o : Nat) {x : Value} (hx : q x) (n' c' : Nat) : AllQ q (w.setCell ⟨g, o, none⟩ x) e (.slice (some ⟨g, 0, none⟩) n' c') := by
  intro g' hg
  obtain rfl : g = g' := Option.some.inj hg
  obtain ⟨cur, h1, h2⟩ := h g rfl
  refine ⟨_, heap_setCell_same w g o _ _ x h1, fun u hu => ?_⟩
  rw [Array.toList_setIfInBounds] at hu
  rcases List.mem_or_eq_of_mem_set hu with a | a
  · exact h2 u a
  · rw [a]; exact hx

theorem allQ_drew {q : Value → Prop} {w : World} {e : TypeId} {v : Value} (h : AllQ q w e v) : AllQ q w.drew e v := h

/-- The append at a step of a drawn region: where the new slice lies, that no other block is turned, and of what kind its cells are. -/
theorem step_append_lq {P : Program} (w : World) (q : Value → Prop) {ops : Array Oper} {o : Oper} {a : Act} {K : Act → World → Prop} {Q : Exit → Act → World → Prop} {E : Prop} (hgd : o.guard = none) (s x : Operand) (t : TypeId)
    (ho : o.op = .call { callee := .builtin .append, args := #[s, x], argTypes := #[t, t] })
    (base : Nat) (e : TypeId) (i : TypeInfo) (z : Value) (size bytes : Nat) (ht : P.underlying t = some (.slice e)) (hi : P.info? e = some i) (hz : i.zero = some z)
    (hsize : i.size = size) (hby : i.bytes = bytes) (hzs : z.cells.size = size) (hsz : 0 < size)
    (v : Value) (n : Nat) (xs : List Value) (hs : a.eval s = v) (hown : w.ownsRow base e size v n xs) (hq : AllQ q w e v)
    (ad : Addr) (m c : Nat) (news : List Value) (hx : a.eval x = .slice (some ad) m c) (hl : news.length = m * size) (hnews : ∀ j u, news[j]? = some u → w.cell? (ad.add j) = some u) (h1 : ∀ u ∈ news, u.oneCell' = true)
    (hm : 0 < m) (hqn : ∀ u ∈ news, q u) (hqz : ∀ k, ∀ u ∈ (Builtin.zeroCells z.cells k).toList, q u) (h63 : n + m ≤ maxLen) (hbytes : (n + m) * bytes ≤ 140737488355328) (hbase : base ≤ w.heap.size)
    (h : ∀ g cap w', w'.ownsRow base e size (.slice (some ⟨g, 0, none⟩) (n + m) cap) (n + m) (xs ++ news) → w.grownBy w' v.ownBlock → (v.ownBlock = some g ∨ g = w.heap.size) → g < w'.heap.size → AllQ q w' e (.slice (some ⟨g, 0, none⟩) (n + m) cap) → K (a.put o.dst (.slice (some ⟨g, 0, none⟩) (n + m) cap)) w') :
    if Region.wanted o (yielded ops a.tmps) = true then Oper.wp P o a w K Q else E := by
  obtain ⟨g, cap, w1, hr, h2, h3, h4, h5⟩ := run_append_lies (P := P) w t o.type base e i z size bytes ht hi hz hsize hby hzs hsz v n xs hown ad m c news hl hnews h1 hm h63 hbytes hbase _ rfl
  obtain ⟨v', w', hr2, -, -, h6⟩ := run_append_q (P := P) w q base t o.type e i z size bytes ht hi hz hsize hby hzs hsz v n xs hown hq ad m c news hl hnews h1 hm hqn hqz h63 hbytes hbase
  rw [hr] at hr2
  obtain ⟨rfl, rfl⟩ := Result.ok.inj hr2
  have hw : Region.wanted o (yielded ops a.tmps) = true := by simp [Region.wanted, hgd]
  rw [if_pos hw]
  unfold Oper.wp execOp
  simp only [ho, resolve, invoke, builtin, Sem.run_bind, Sem.run_pure, Result.andThen_ok, List.map_toArray, List.map_cons, List.map_nil, hs, hx, hr]
  exact h g cap _ h2 h3 h4 h5 h6

end Go.Proofs.Ytlckphdmflofgaa
end

section
/-
  AN INDEX IN MEMORY (layer 13): three maps, and a list of its own for each user on each side.
-/
namespace Go.Proofs.Ytlckphdmflofgaa
open Go.RowKit Go.ChangeMaps Go.MapKept

def prVals (p : Pr) : List Value := [.string ⟨p.1.toArray⟩, .string ⟨p.2.toArray⟩]

theorem prOK : RowOK Try.prog prVals 2 (([], []) : Pr) 57 61 (.agg #[.string ⟨#[]⟩, .string ⟨#[]⟩]) 32 where
  len _ := rfl
  one a u hu := by
    simp only [prVals, List.mem_cons, List.not_mem_nil, or_false] at hu
    rcases hu with rfl | rfl <;> rfl
  pos := by decide
  small := by decide
  under := Try.underlying61
  info := by kernel_rfl
  zvals := rfl
  fits := by decide

def ixCells (mp m0 m1 : Nat) : Array Value := #[.map (some mp), .map (some m0), .map (some m1)]

def sdOf (s : Bool) (m0 m1 : Nat) : Nat := if s then m1 else m0

/-- Block xb is an Index that has the pairs 'L'; all of it lies at 'base' or behind it; at most N times a map of it was turned; no name is longer than 60 bytes. -/
structure IxAt (w : World) (base xb N : Nat) (L : List Pr) (x : Ix) (mp m0 m1 : Nat) (f : Bool → List UInt8 → Option IxSl) : Prop where
  blk : w.heap[xb]? = some (.cells (ixCells mp m0 m1) 55 (0, 0))
  low : base ≤ xb ∧ base ≤ mp ∧ base ≤ m0 ∧ base ≤ m1
  three : mp ≠ m0 ∧ mp ≠ m1 ∧ m0 ≠ m1
  pairs : PlMap w mp N L.length x.P
  side : ∀ s, SdMap w (sdOf s m0 m1) N (f s)
  has : IxHas x L
  short : ∀ p ∈ L, p.1.length ≤ 60 ∧ p.2.length ≤ 60
  list : ∀ s u, OwnS prVals 2 57 w base (ixslV (f s u)) (x.S s u)
  str : ∀ s u, AllQ isStrV w 57 (ixslV (f s u))
  apart : ∀ s u t v a b, f s u = some a → f t v = some b → a.g = b.g → s = t ∧ u = v
  nil : ∀ s u, f s u = none ↔ x.S s u = []

/-- An Index, whatever its maps are. -/
def Idx (w : World) (base xb N : Nat) (L : List Pr) : Prop := ∃ x mp m0 m1 f, IxAt w base xb N L x mp m0 m1 f

theorem IxAt.lt {w : World} {base xb N : Nat} {L : List Pr} {x : Ix} {mp m0 m1 : Nat} {f : Bool → List UInt8 → Option IxSl} (h : IxAt w base xb N L x mp m0 m1 f) : xb < w.heap.size :=
  (Array.getElem?_eq_some_iff.1 h.blk).1

theorem IxAt.later {w w' : World} {base xb N : Nat} {L : List Pr} {x : Ix} {mp m0 m1 : Nat} {f : Bool → List UInt8 → Option IxSl} (h : IxAt w base xb N L x mp m0 m1 f) (hb : Below w.heap.size w w') : IxAt w' base xb N L x mp m0 m1 f :=
  { h with
    blk := (hb.block xb h.lt).trans h.blk
    pairs := h.pairs.later hb
    side := fun s => (h.side s).later hb
    list := fun s u => (h.list s u).later hb
    str := fun s u => (h.str s u).later hb }

theorem Idx.later {w w' : World} {base xb N : Nat} {L : List Pr} (h : Idx w base xb N L) (hb : Below w.heap.size w w') : Idx w' base xb N L := by
  obtain ⟨x, mp, m0, m1, f, h⟩ := h
  exact ⟨x, mp, m0, m1, f, h.later hb⟩

/-- A new Index: three maps, and the block of it behind them. -/
theorem idx_made {w : World} {base mp m0 m1 xb : Nat} (N : Nat) (h0 : PlMap w mp N 0 (fun _ => none)) (h1 : SdMap w m0 N (fun _ => none)) (h2 : SdMap w m1 N (fun _ => none)) (hl : base ≤ xb ∧ base ≤ mp ∧ base ≤ m0 ∧ base ≤ m1) (hd : mp ≠ m0 ∧ mp ≠ m1 ∧ m0 ≠ m1)
    (hx : w.heap[xb]? = some (.cells (ixCells mp m0 m1) 55 (0, 0))) : IxAt w base xb N [] Ix.zero mp m0 m1 (fun _ _ => none) where
  blk := hx
  low := hl
  three := hd
  pairs := h0
  side s := by cases s <;> assumption
  has := ix_zero
  short p hp := by cases hp
  list s u := ownS_nil w base
  str s u := allQ_nil _ _ _
  apart s u t v a b h := by cases h
  nil s u := ⟨fun _ => rfl, fun _ => rfl⟩

/-- The length of a list, and that of what it stands for. -/
theorem IxAt.size {w : World} {base xb N : Nat} {L : List Pr} {x : Ix} {mp m0 m1 : Nat} {f : Bool → List UInt8 → Option IxSl} (h : IxAt w base xb N L x mp m0 m1 f) {s : Bool} {u : List UInt8} {a : IxSl} (ha : f s u = some a) : a.n = (x.S s u).length ∧ base ≤ a.g ∧ a.g < w.heap.size ∧ a.n ≤ a.c := by
  have := h.list s u
  rw [ha] at this
  obtain ⟨h1, h2, h3, h4, -⟩ := OwnS.head (show OwnS prVals 2 57 w base (.slice (some ⟨a.g, 0, none⟩) a.n a.c) (x.S s u) from this)
  exact ⟨h1, h2, h3, h4⟩

end Go.Proofs.Ytlckphdmflofgaa
end

section
/-
  LAYER 13, THE DOCUMENT: its Index in memory, and Has.
-/
namespace Go.Proofs.Ytlckphdmflofgaa
open Go.RowKit Go.ChangeMaps Go.MapKept

theorem rprOK : RowOK Try.prog prVals 2 (([], []) : Pr) 44 28 (.agg #[.string ⟨#[]⟩, .string ⟨#[]⟩]) 32 where
  len _ := rfl
  one a u hu := by
    simp only [prVals, List.mem_cons, List.not_mem_nil, or_false] at hu
    rcases hu with rfl | rfl <;> rfl
  pos := by decide
  small := by decide
  under := Try.underlying28
  info := by kernel_rfl
  zvals := rfl
  fits := by decide

/-- Block xb is the document's Index of the pairs 'L', in this order. -/
def Rix (w : World) (base xb : Nat) (v : Value) (L : List Pr) : Prop :=
  base ≤ xb ∧ w.heap[xb]? = some (.cells #[v] 30 (0, 0)) ∧ OwnS prVals 2 44 w base v L

theorem Rix.lt {w : World} {base xb : Nat} {v : Value} {L : List Pr} (h : Rix w base xb v L) : xb < w.heap.size := (Array.getElem?_eq_some_iff.1 h.2.1).1

theorem Rix.later {w w' : World} {base xb : Nat} {v : Value} {L : List Pr} (h : Rix w base xb v L) (hb : Below w.heap.size w w') : Rix w' base xb v L :=
  ⟨h.1, (hb.block xb h.lt).trans h.2.1, h.2.2.later hb⟩

theorem Rix.cell {w : World} {base xb : Nat} {v : Value} {L : List Pr} (h : Rix w base xb v L) : w.cell? ⟨xb, 0, none⟩ = some v ∧ w.frozen? ⟨xb, 0, none⟩ = false := by
  have hb := h.2.1
  constructor
  · simp [World.cell?, hb]
  · simp [World.frozen?, hb]

end Go.Proofs.Ytlckphdmflofgaa
end

section
/-
  FOR THE FRAMES: a slice of structs that came in, opened; over any program.
-/
namespace Go.Proofs.Ytlckphdmflofgaa
open Go.ChangeShapes Go.WideShapes Go.ChangeAt Go.RowKit Go.Deep

theorem choose_S {α : Type} (zero : α) {n : Nat} {Q : Nat → α → Prop} (h : ∀ i, i < n → ∃ r, Q i r) : ∃ t : List α, t.length = n ∧ ∀ i, i < n → Q i (t.getD i zero) := by
  induction n with
  | zero => exact ⟨[], rfl, fun i hi => absurd hi (by omega)⟩
  | succ n ih =>
    obtain ⟨t, hl, ht⟩ := ih fun i hi => h i (by omega)
    obtain ⟨r, hr⟩ := h n (by omega)
    refine ⟨t ++ [r], by simp [hl], fun i hi => ?_⟩
    by_cases hin : i < n
    · have := ht i hin
      simp only [List.getD] at this ⊢
      rwa [List.getElem?_append_left (by omega)]
    · obtain rfl : i = n := by omega
      simp only [List.getD]
      rw [List.getElem?_append_right (by omega), hl]
      simpa using hr

/-- A slice of structs that came in. -/
theorem open_rdS {α : Type} {P : Program} {vals : α → List Value} {sz : Nat} {zero : α} {T S : TypeId} {Z : Value} {bytes : Nat} (D : RowOK P vals sz zero T S Z bytes) (hcells : P.cellsOf T = sz)
    {H : Type} {enc : TypeId × Value → H} {w : World} {base : Nat} {spare : Nat → Bool} {held : Bool} {ok : α → Prop}
    (helem : ∀ fuel cs x, DataW.trod enc P w base spare held fuel T cs = some x → ∃ r, cs = vals r ∧ ok r)
    {r : Reach} {b0 : Nat} {v : Value} {d : DataW H} {p : List MemPlace} (hv : Value.okWide P w r b0 S v) (h : DataW.Trod enc P w base spare held S v d p) :
    ∃ t : List α, RdS vals sz zero w v t ∧ ∀ r ∈ t, ok r := by
  obtain ⟨a, len, cap, rfl⟩ := okWide_slice D.under hv
  obtain ⟨fuel, hf⟩ := h
  rcases open_slice D.under hf with ⟨hcs, _⟩ | ⟨x, l, c, m, n, D', Pl, hcs, _, hl, hm, hmm, _, hi⟩
  · simp [Value.cells] at hcs
    obtain ⟨rfl, rfl, rfl⟩ := hcs
    exact ⟨[], rdS_nil w, by simp⟩
  · simp [Value.cells] at hcs
    obtain ⟨rfl, rfl, rfl⟩ := hcs
    have hlm : len ≤ m := by rw [hmm]; split <;> omega
    rw [hcells] at hi
    obtain ⟨t, htl, ht⟩ := choose_S zero (n := len) (Q := fun i r => (∀ j u, (vals r)[j]? = some u → w.cell? ((x.add (i * sz)).add j) = some u) ∧ ok r) (fun i hil => by
      obtain ⟨cs', hc, htr⟩ := hi i (by omega)
      obtain ⟨_, hcl, hat⟩ := World.cells?_some hc
      obtain ⟨r, rfl, w1⟩ := helem _ _ _ htr
      refine ⟨r, fun j u hu => ?_, w1⟩
      have hj : j < sz := by have := (List.getElem?_eq_some_iff.1 hu).1; rwa [D.len] at this
      rw [hat j hj, hu])
    refine ⟨t, ⟨some x, cap, by rw [htl], by omega, by omega, (fun e => by cases e), ?_⟩, fun r hr => ?_⟩
    · by_cases h0 : len = 0
      · exact .inl (List.length_eq_zero_iff.1 (by omega))
      · obtain ⟨b, off, spot⟩ := x
        have hne : 0 < (vals (t.getD 0 zero)).length := by rw [D.len]; exact D.pos
        have hc := (ht 0 (by omega)).1 0 _ (List.getElem?_eq_getElem hne)
        have hspot : spot = none := by simpa [Addr.add] using World.cell?_spot hc
        subst hspot
        refine .inr ⟨b, off, rfl, ?_, fun i hil => fun j u hu => ?_⟩
        · have := World.block_lt_of_cell? w _ hc
          simpa [Addr.add] using this
        · have := (ht i (by omega)).1 j u hu
          rwa [Addr.add_lit, Addr.add_lit] at this
    · obtain ⟨i, hil, rfl⟩ := List.getElem_of_mem hr
      have := (ht i (by omega)).2
      rwa [List.getD_eq_getElem?_getD, List.getElem?_eq_getElem hil] at this

end Go.Proofs.Ytlckphdmflofgaa
end

section
/-
  FOR THE FRAMES: pairs of texts that came in, opened.
-/
namespace Go.Proofs.Ytlckphdmflofgaa
open Go.ChangeShapes Go.WideShapes Go.ChangeAt Go.RowKit Go.Deep

/-- Pairs of texts that came in. -/
abbrev Prs (w : World) (v : Value) (l : List Pr) : Prop := RdS prVals 2 ([], []) w v l

section
variable {H : Type} {enc : TypeId × Value → H} {w : World} {base : Nat} {spare : Nat → Bool} {held : Bool}

theorem list2K {α : Type} {l : List α} (h : l.length = 2) : ∃ a b, l = [a, b] := by
  match l, h with
  | [a, b], _ => exact ⟨a, b, rfl⟩

theorem trod_textK {fuel : Nat} {c : Value} {x : DataW H × List MemPlace} (h : DataW.trod enc Try.prog w base spare held fuel 9 [c] = some x) : ∃ l : List UInt8, c = .string ⟨l.toArray⟩ := by
  obtain ⟨s, e, _, _⟩ := DataW.trod_string Try.underlying9 h
  exact ⟨s.data.toList, by simpa using e⟩

set_option maxRecDepth 100000 in
theorem trod_prK (fuel : Nat) (cs : List Value) (x : DataW H × List MemPlace) (h : DataW.trod enc Try.prog w base spare held fuel 44 cs = some x) :
    ∃ s : Pr, cs = prVals s ∧ True := by
  obtain ⟨ys, m, _, _, hl, hyl, hi⟩ := DataW.trod_array Try.underlying44 h
  have c2 : Try.prog.cellsOf 44 = 2 := by kernel_rfl
  have c1 : Try.prog.cellsOf 9 = 1 := by kernel_rfl
  rw [c2] at hl
  obtain ⟨a, b, rfl⟩ := list2K hl
  have gy : ∀ i, i < 2 → ys[i]? = some (ys.getD i (.nil, [])) := fun i hi => by
    have : i < ys.length := by rw [hyl]; exact hi
    simp [List.getD, List.getElem?_eq_getElem this]
  have g0 := (hi 0 (by omega)).trans (gy 0 (by omega))
  have g1 := (hi 1 (by omega)).trans (gy 1 (by omega))
  rw [c1] at g0 g1
  simp only [Nat.mul_one, List.drop_succ_cons, List.drop_zero, List.take_succ_cons, List.take_zero] at g0 g1
  obtain ⟨y0, rfl⟩ := trod_textK g0
  obtain ⟨y1, rfl⟩ := trod_textK g1
  exact ⟨(y0, y1), rfl, trivial⟩

set_option maxRecDepth 100000 in
/-- Pairs that came in. -/
theorem open_prs {r : Reach} {b0 : Nat} {v : Value} {d : DataW H} {p : List MemPlace} (hv : Value.okWide Try.prog w r b0 28 v) (h : DataW.Trod enc Try.prog w base spare held 28 v d p) :
    ∃ l : List Pr, Prs w v l := by
  obtain ⟨l, h1, _⟩ := open_rdS (ok := fun _ => True) rprOK (by kernel_rfl) trod_prK hv h
  exact ⟨l, h1⟩

end

end Go.Proofs.Ytlckphdmflofgaa
end

section
/-
  AN INDEX WHILE IT IS WORKED ON (layer 13): what is in memory, whether or not it has just the pairs of a list; which blocks are its own.
-/
namespace Go.Proofs.Ytlckphdmflofgaa
open Go.RowKit Go.ChangeMaps Go.MapKept

structure IxRaw (w : World) (base xb N n : Nat) (x : Ix) (mp m0 m1 : Nat) (f : Bool → List UInt8 → Option IxSl) : Prop where
  blk : w.heap[xb]? = some (.cells (ixCells mp m0 m1) 55 (0, 0))
  low : base ≤ xb ∧ base ≤ mp ∧ base ≤ m0 ∧ base ≤ m1
  three : mp ≠ m0 ∧ mp ≠ m1 ∧ m0 ≠ m1
  pairs : PlMap w mp N n x.P
  side : ∀ s, SdMap w (sdOf s m0 m1) N (f s)
  list : ∀ s u, OwnS prVals 2 57 w base (ixslV (f s u)) (x.S s u)
  str : ∀ s u, AllQ isStrV w 57 (ixslV (f s u))
  apart : ∀ s u t v a b, f s u = some a → f t v = some b → a.g = b.g → s = t ∧ u = v
  nil : ∀ s u, f s u = none ↔ x.S s u = []

variable {w w' : World} {base xb N n : Nat} {x : Ix} {mp m0 m1 : Nat} {f : Bool → List UInt8 → Option IxSl}

theorem IxAt.raw {L : List Pr} (h : IxAt w base xb N L x mp m0 m1 f) : IxRaw w base xb N L.length x mp m0 m1 f := ⟨h.blk, h.low, h.three, h.pairs, h.side, h.list, h.str, h.apart, h.nil⟩

theorem IxRaw.at {L : List Pr} (h : IxRaw w base xb N n x mp m0 m1 f) (hn : n = L.length) (hx : IxHas x L) (hs : ∀ p ∈ L, p.1.length ≤ 60 ∧ p.2.length ≤ 60) : IxAt w base xb N L x mp m0 m1 f :=
  ⟨h.blk, h.low, h.three, hn ▸ h.pairs, h.side, hx, hs, h.list, h.str, h.apart, h.nil⟩

/-- The blocks of an Index. -/
def IxFoot (xb mp m0 m1 : Nat) (f : Bool → List UInt8 → Option IxSl) (b : Nat) : Prop := b = xb ∨ b = mp ∨ b = m0 ∨ b = m1 ∨ ∃ s u a, f s u = some a ∧ a.g = b

/-- No block is turned but those of F; F' are they then, and new ones. -/
def Turned (w w' : World) (F F' : Nat → Prop) : Prop := w.heap.size ≤ w'.heap.size ∧ (∀ b, b < w.heap.size → ¬ F b → w'.heap[b]? = w.heap[b]?) ∧ ∀ b, F' b → F b ∨ w.heap.size ≤ b

theorem Turned.trans {a b c : World} {F G H : Nat → Prop} (h : Turned a b F G) (k : Turned b c G H) : Turned a c F H := by
  refine ⟨Nat.le_trans h.1 k.1, fun i hi hf => (k.2.1 i (Nat.lt_of_lt_of_le hi h.1) fun hg => ?_).trans (h.2.1 i hi hf), fun i hi => ?_⟩
  · rcases h.2.2 i hg with e | e
    · exact hf e
    · omega
  · rcases k.2.2 i hi with e | e
    · exact h.2.2 i e
    · exact .inr (Nat.le_trans h.1 e)

theorem turned_below {F : Nat → Prop} (h : Below w.heap.size w w') : Turned w w' F F := ⟨h.size, fun b hb _ => h.block b hb, fun _ hb => .inl hb⟩

theorem turned_grown {F : Nat → Prop} {r : Option Nat} (h : w.grownBy w' r) (hr : ∀ b, r = some b → F b) : Turned w w' F F :=
  ⟨h.size, fun b hb hf => h.block b hb (fun e => hf (hr b e.symm)), fun _ hb => .inl hb⟩

theorem SdMap.isMap {B : Nat} {g : List UInt8 → Option IxSl} (h : SdMap w B N g) : ∃ es clock, w.heap[B]? = some (.map es clock) := by
  obtain ⟨k, D, h1, ⟨es, clock, h2, h3⟩, h6⟩ := h
  exact ⟨es, clock, h2⟩

theorem PlMap.isMap {B : Nat} {P : Pr → Option (Nat × Nat)} (h : PlMap w B N n P) : ∃ es clock, w.heap[B]? = some (.map es clock) := by
  obtain ⟨k, D, h1, ⟨es, clock, h2, h3⟩, h6⟩ := h
  exact ⟨es, clock, h2⟩

theorem IxRaw.lt (h : IxRaw w base xb N n x mp m0 m1 f) : xb < w.heap.size := (Array.getElem?_eq_some_iff.1 h.blk).1

theorem IxRaw.isMap (h : IxRaw w base xb N n x mp m0 m1 f) {b : Nat} (hb : b = mp ∨ b = m0 ∨ b = m1) : ∃ es clock, w.heap[b]? = some (.map es clock) := by
  rcases hb with rfl | rfl | rfl
  · exact h.pairs.isMap
  · exact (h.side false).isMap
  · exact (h.side true).isMap

theorem sd_map (s : Bool) (mp m0 m1 : Nat) : sdOf s m0 m1 = mp ∨ sdOf s m0 m1 = m0 ∨ sdOf s m0 m1 = m1 := by cases s; exact .inr (.inl rfl); exact .inr (.inr rfl)

theorem IxRaw.xmap (h : IxRaw w base xb N n x mp m0 m1 f) {b : Nat} (hb : b = mp ∨ b = m0 ∨ b = m1) : xb ≠ b := by
  obtain ⟨es, c, e⟩ := h.isMap hb
  rintro rfl
  rw [h.blk] at e
  cases e

/-- The row of a list. -/
theorem IxRaw.row (h : IxRaw w base xb N n x mp m0 m1 f) {s : Bool} {u : List UInt8} {a : IxSl} (ha : f s u = some a) :
    a.n = (x.S s u).length ∧ base ≤ a.g ∧ a.g < w.heap.size ∧ a.n ≤ a.c ∧ a.c ≤ maxLen ∧ OwnS prVals 2 57 w base (.slice (some ⟨a.g, 0, none⟩) a.n a.c) (x.S s u) ∧ ∃ cur : Array Value, w.heap[a.g]? = some (.cells cur 57 (0, 0)) := by
  have := h.list s u
  rw [ha] at this
  have H : OwnS prVals 2 57 w base (.slice (some ⟨a.g, 0, none⟩) a.n a.c) (x.S s u) := this
  obtain ⟨h1, h2, h3, h4, h5, cur, h6, -⟩ := OwnS.head H
  exact ⟨h1, h2, h3, h4, h5, H, cur, h6⟩

theorem IxRaw.rmap (h : IxRaw w base xb N n x mp m0 m1 f) {s : Bool} {u : List UInt8} {a : IxSl} (ha : f s u = some a) {b : Nat} (hb : b = mp ∨ b = m0 ∨ b = m1) : a.g ≠ b := by
  obtain ⟨es, c, e⟩ := h.isMap hb
  obtain ⟨-, -, -, -, -, -, cur, e2⟩ := h.row ha
  rintro rfl
  rw [e2] at e
  cases e

theorem IxRaw.rx (h : IxRaw w base xb N n x mp m0 m1 f) {s : Bool} {u : List UInt8} {a : IxSl} (ha : f s u = some a) : a.g ≠ xb := by
  obtain ⟨-, -, -, -, -, -, cur, e2⟩ := h.row ha
  intro e
  rw [e, h.blk] at e2
  injection e2 with e2
  injection e2 with _ e2
  exact absurd e2 (by decide)

theorem IxRaw.far (h : IxRaw w base xb N n x mp m0 m1 f) {b : Nat} (hb : w.heap.size ≤ b) : ¬ IxFoot xb mp m0 m1 f b := by
  rintro (rfl | rfl | rfl | rfl | ⟨s, u, a, ha, rfl⟩)
  · have := h.lt; omega
  · have := h.pairs.lt; omega
  · have : b < w.heap.size := (h.side false).lt
    omega
  · have : b < w.heap.size := (h.side true).lt
    omega
  · have := (h.row ha).2.2.1; omega

theorem IxRaw.foot_low (h : IxRaw w base xb N n x mp m0 m1 f) {b : Nat} (hb : IxFoot xb mp m0 m1 f b) : base ≤ b := by
  rcases hb with rfl | rfl | rfl | rfl | ⟨s, u, a, ha, rfl⟩
  · exact h.low.1
  · exact h.low.2.1
  · exact h.low.2.2.1
  · exact h.low.2.2.2
  · exact (h.row ha).2.1

theorem IxRaw.own (_h : IxRaw w base xb N n x mp m0 m1 f) {s : Bool} {u : List UInt8} {g : Nat} (hg : (ixslV (f s u)).ownBlock = some g) : ∃ a, f s u = some a ∧ a.g = g := by
  cases e : f s u with
  | none => rw [e] at hg; cases hg
  | some a => rw [e] at hg; exact ⟨a, rfl, Option.some.inj hg⟩

/-- All of it stays where its blocks do. -/
theorem IxRaw.stay (h : IxRaw w base xb N n x mp m0 m1 f) (hk : ∀ b, IxFoot xb mp m0 m1 f b → w'.heap[b]? = w.heap[b]?) : IxRaw w' base xb N n x mp m0 m1 f where
  blk := (hk xb (.inl rfl)).trans h.blk
  low := h.low
  three := h.three
  pairs := h.pairs.kept (hk mp (.inr (.inl rfl)))
  side s := (h.side s).kept (hk _ (by cases s; exact .inr (.inr (.inl rfl)); exact .inr (.inr (.inr (.inl rfl)))))
  list s u := by
    have := h.list s u
    refine ⟨this.1, ?_⟩
    rcases this.2 with h' | ⟨g, cap, cur, h1, h2, h3, h4⟩
    · exact .inl h'
    · refine .inr ⟨g, cap, cur, h1, h2, ?_, h4⟩
      rw [hk g ?_]
      · exact h3
      · cases e : f s u with
        | none => rw [e] at h1; cases h1
        | some a =>
          rw [e] at h1
          unfold ixslV at h1
          injection h1 with h1 _ _
          injection h1 with h1
          injection h1 with h1 _ _
          exact .inr (.inr (.inr (.inr ⟨s, u, a, e, h1⟩)))
  str s u := (h.str s u).kept fun g hg => by
    obtain ⟨a, ha, hag⟩ := h.own hg
    exact hk g (.inr (.inr (.inr (.inr ⟨s, u, a, ha, hag⟩))))
  apart := h.apart
  nil := h.nil

theorem IxRaw.later (h : IxRaw w base xb N n x mp m0 m1 f) (hb : Below w.heap.size w w') : IxRaw w' base xb N n x mp m0 m1 f :=
  h.stay fun b hf => hb.block b (Nat.lt_of_not_le fun hle => h.far hle hf)

theorem IxRaw.cells (h : IxRaw w base xb N n x mp m0 m1 f) :
    w.cell? ⟨xb, 0, none⟩ = some (.map (some mp)) ∧ w.cell? ⟨xb, 1, none⟩ = some (.map (some m0)) ∧ w.cell? ⟨xb, 2, none⟩ = some (.map (some m1)) := by
  have hb := h.blk
  unfold ixCells at hb
  refine ⟨?_, ?_, ?_⟩ <;> simp [World.cell?, hb]

theorem IxRaw.more (h : IxRaw w base xb N n x mp m0 m1 f) {M : Nat} (hm : N ≤ M) : IxRaw w base xb M n x mp m0 m1 f :=
  { h with pairs := h.pairs.more hm, side := fun s => (h.side s).more hm }

theorem IxRaw.more1 (h : IxRaw w base xb N n x mp m0 m1 f) : IxRaw w base xb (N + 1) n x mp m0 m1 f := h.more (Nat.le_succ N)

/-- The pairs' map is turned. -/
theorem IxRaw.setP (h : IxRaw w base xb N n x mp m0 m1 f) {M n' : Nat} {P' : Pr → Option (Nat × Nat)} (hp : PlMap w' mp M n' P') (hm : N ≤ M) (hg : w.grownBy w' (some mp)) :
    IxRaw w' base xb M n' ⟨P', x.S⟩ mp m0 m1 f ∧ Below base w w' ∧ Turned w w' (IxFoot xb mp m0 m1 f) (IxFoot xb mp m0 m1 f) := by
  have far : ∀ b, b < w.heap.size → b ≠ mp → w'.heap[b]? = w.heap[b]? := fun b hb hn => hg.block b hb (fun e => hn (Option.some.inj e))
  refine ⟨⟨?_, h.low, h.three, hp, fun s => ?_, fun s u => ?_, fun s u => (h.str s u).kept fun g hg => ?_, h.apart, h.nil⟩, (Below.refl base w).grown hg (Nat.le_trans h.low.1 (Nat.le_of_lt h.lt)) (fun k hk => by obtain rfl := Option.some.inj hk; exact h.low.2.1), turned_grown hg fun b e => ?_⟩
  · exact (far xb h.lt (h.xmap (.inl rfl))).trans h.blk
  · refine ((h.side s).kept (far _ (h.side s).lt ?_)).more hm
    cases s
    · exact h.three.1.symm
    · exact h.three.2.1.symm
  · have := h.list s u
    refine ⟨this.1, ?_⟩
    rcases this.2 with h' | ⟨g, cap, cur, h1, h2, h3, h4⟩
    · exact .inl h'
    · refine .inr ⟨g, cap, cur, h1, h2, ?_, h4⟩
      rw [far g (Array.getElem?_eq_some_iff.1 h3).1 ?_]
      · exact h3
      · rintro rfl
        obtain ⟨es, c, e⟩ := h.pairs.isMap
        rw [e] at h3
        cases h3
  · obtain ⟨a, ha, rfl⟩ := h.own hg
    exact far a.g (h.row ha).2.2.1 (h.rmap ha (.inl rfl))
  · cases e
    exact .inr (.inl rfl)

/-- A user's list is laid anew, in its row or a new one, and its map is told. -/
theorem IxRaw.turnS {w1 w2 : World} (h : IxRaw w base xb N n x mp m0 m1 f) (s : Bool) (u : List UInt8) (o' : Option IxSl) {l' : List Pr} {M : Nat} (hg1 : w.grownBy w1 (ixslV (f s u)).ownBlock)
    (ho : OwnS prVals 2 57 w1 base (ixslV o') l') (hq : AllQ isStrV w1 57 (ixslV o')) (hnil : o' = none ↔ l' = []) (hlies : ∀ a, o' = some a → (∃ b, f s u = some b ∧ b.g = a.g) ∨ w.heap.size ≤ a.g)
    (hs : SdMap w2 (sdOf s m0 m1) M (fun r => if r = u then o' else f s r)) (hm : N ≤ M) (hg2 : w1.grownBy w2 (some (sdOf s m0 m1))) :
    IxRaw w2 base xb M n ⟨x.P, fun t v => if t = s ∧ v = u then l' else x.S t v⟩ mp m0 m1 (fun t v => if t = s ∧ v = u then o' else f t v) ∧ Below base w w2 ∧
      Turned w w2 (IxFoot xb mp m0 m1 f) (IxFoot xb mp m0 m1 (fun t v => if t = s ∧ v = u then o' else f t v)) := by
  have blk1 : ∀ {b}, (ixslV (f s u)).ownBlock = some b → ∃ a, f s u = some a ∧ a.g = b := by
    intro b e
    cases ef : f s u with
    | none => rw [ef] at e; cases e
    | some a => rw [ef] at e; exact ⟨a, rfl, Option.some.inj e⟩
  have far1 : ∀ b, b < w.heap.size → (∀ a, f s u = some a → a.g ≠ b) → w1.heap[b]? = w.heap[b]? := fun b hb hn => hg1.block b hb (fun e => by obtain ⟨a, h1, h2⟩ := blk1 e.symm; exact hn a h1 h2)
  have far : ∀ b, b < w.heap.size → (∀ a, f s u = some a → a.g ≠ b) → b ≠ sdOf s m0 m1 → w2.heap[b]? = w.heap[b]? :=
    fun b hb hn h2 => (hg2.block b (Nat.lt_of_lt_of_le hb hg1.size) (fun e => h2 (Option.some.inj e))).trans (far1 b hb hn)
  have hsd := sd_map s mp m0 m1
  have hlow : base ≤ sdOf s m0 m1 := by cases s; exact h.low.2.2.1; exact h.low.2.2.2
  have hbw : base ≤ w.heap.size := Nat.le_trans h.low.1 (Nat.le_of_lt h.lt)
  refine ⟨⟨?_, h.low, h.three, ?_, fun t => ?_, fun t v => ?_, fun t v => ?_, ?_, fun t v => ?_⟩, ?_, ?_, ?_, ?_⟩
  · exact (far xb h.lt (fun a ha => h.rx ha) (h.xmap hsd)).trans h.blk
  · refine (h.pairs.kept (far mp h.pairs.lt (fun a ha => h.rmap ha (.inl rfl)) ?_)).more hm
    cases s
    · exact h.three.1
    · exact h.three.2.1
  · by_cases e : t = s
    · subst e
      simpa using hs
    · have hne : sdOf t m0 m1 ≠ sdOf s m0 m1 := by
        cases s <;> cases t
        · exact absurd rfl e
        · exact h.three.2.2.symm
        · exact h.three.2.2
        · exact absurd rfl e
      have := ((h.side t).kept (far _ (h.side t).lt (fun a ha => h.rmap ha (sd_map t mp m0 m1)) hne)).more hm
      have e2 : (fun v => if t = s ∧ v = u then o' else f t v) = f t := funext fun v => if_neg (fun a => e a.1)
      rw [e2]
      exact this
  · have keep2 : ∀ (v : Value) (l : List Pr), OwnS prVals 2 57 w1 base v l → OwnS prVals 2 57 w2 base v l := by
      intro v l hv
      refine ⟨hv.1, ?_⟩
      rcases hv.2 with h' | ⟨g, cap, cur, h1, h2, h3, h4⟩
      · exact .inl h'
      · refine .inr ⟨g, cap, cur, h1, h2, ?_, h4⟩
        rw [hg2.block g (Array.getElem?_eq_some_iff.1 h3).1 (fun e => ?_)]
        · exact h3
        · obtain ⟨es, c, e3⟩ := (h.side s).isMap
          have e4 := far1 (sdOf s m0 m1) (h.side s).lt (fun a ha => h.rmap ha hsd)
          rw [Option.some.inj e, e4, e3] at h3
          cases h3
    show OwnS prVals 2 _ w2 base (ixslV (if t = s ∧ v = u then o' else f t v)) (if t = s ∧ v = u then l' else x.S t v)
    by_cases e : t = s ∧ v = u
    · rw [if_pos e, if_pos e]
      exact keep2 _ _ ho
    · rw [if_neg e, if_neg e]
      refine keep2 _ _ ?_
      have := h.list t v
      refine ⟨this.1, ?_⟩
      rcases this.2 with h' | ⟨g, cap, cur, h1, h2, h3, h4⟩
      · exact .inl h'
      · refine .inr ⟨g, cap, cur, h1, h2, ?_, h4⟩
        rw [far1 g (Array.getElem?_eq_some_iff.1 h3).1 (fun a ha hag => ?_)]
        · exact h3
        · cases ef : f t v with
          | none => rw [ef] at h1; cases h1
          | some b =>
            rw [ef] at h1
            unfold ixslV at h1
            injection h1 with h1 _ _
            injection h1 with h1
            injection h1 with h1 _ _
            have := h.apart s u t v a b ha ef (by omega)
            exact e ⟨this.1.symm, this.2.symm⟩
  · have sd2 : ∀ (g : Nat) (cur : Array Value), w1.heap[g]? = some (.cells cur 57 (0, 0)) → w2.heap[g]? = w1.heap[g]? := fun g cur h3 => hg2.block g (Array.getElem?_eq_some_iff.1 h3).1 (fun e => by
      obtain ⟨es, c, e3⟩ := (h.side s).isMap
      have e4 := far1 (sdOf s m0 m1) (h.side s).lt (fun a ha => h.rmap ha hsd)
      rw [Option.some.inj e, e4, e3] at h3
      cases h3)
    show AllQ isStrV w2 _ (ixslV (if t = s ∧ v = u then o' else f t v))
    by_cases e : t = s ∧ v = u
    · rw [if_pos e]
      refine hq.kept fun g hg => ?_
      obtain ⟨cur, h3, -⟩ := hq g hg
      exact sd2 g cur h3
    · rw [if_neg e]
      refine (h.str t v).kept fun g hg => ?_
      obtain ⟨b, hb, rfl⟩ := h.own hg
      obtain ⟨-, -, hlt, -, -, -, cur, h3⟩ := h.row hb
      have e1 := far1 b.g hlt (fun a ha hag => by
        have := h.apart s u t v a b ha hb hag
        exact e ⟨this.1.symm, this.2.symm⟩)
      exact (sd2 b.g cur (e1.trans h3)).trans e1
  · have key : ∀ t v a b, ¬ (t = s ∧ v = u) → f t v = some a → o' = some b → a.g ≠ b.g := by
      intro t v a b hn ha hb e
      rcases hlies b hb with ⟨c, hc, hcg⟩ | hge
      · have := h.apart s u t v c a hc ha (by omega)
        exact hn ⟨this.1.symm, this.2.symm⟩
      · have := (h.row ha).2.2.1
        omega
    intro t v t' v' a b ha hb e
    have ha : (if t = s ∧ v = u then o' else f t v) = some a := ha
    have hb : (if t' = s ∧ v' = u then o' else f t' v') = some b := hb
    by_cases e1 : t = s ∧ v = u
    · by_cases e2 : t' = s ∧ v' = u
      · exact ⟨e1.1.trans e2.1.symm, e1.2.trans e2.2.symm⟩
      · rw [if_pos e1] at ha
        rw [if_neg e2] at hb
        exact absurd e.symm (key _ _ _ _ e2 hb ha)
    · rw [if_neg e1] at ha
      by_cases e2 : t' = s ∧ v' = u
      · rw [if_pos e2] at hb
        exact absurd e (key _ _ _ _ e1 ha hb)
      · rw [if_neg e2] at hb
        exact h.apart _ _ _ _ _ _ ha hb e
  · show (if t = s ∧ v = u then o' else f t v) = none ↔ (if t = s ∧ v = u then l' else x.S t v) = []
    by_cases e : t = s ∧ v = u
    · rw [if_pos e, if_pos e]
      exact hnil
    · rw [if_neg e, if_neg e]
      exact h.nil t v
  · refine ((Below.refl base w).grown hg1 hbw (fun k hk => ?_)).trans ((Below.refl base w1).grown hg2 (Nat.le_trans hbw hg1.size) (fun k hk => by obtain rfl := Option.some.inj hk; exact hlow))
    obtain ⟨a, ha, rfl⟩ := blk1 hk
    exact (h.row ha).2.1
  · exact Nat.le_trans hg1.size hg2.size
  · intro b hb hf
    refine far b hb (fun a ha e => hf (.inr (.inr (.inr (.inr ⟨s, u, a, ha, e⟩))))) (fun e => hf ?_)
    subst e
    cases s
    · exact .inr (.inr (.inl rfl))
    · exact .inr (.inr (.inr (.inl rfl)))
  · rintro b (e | e | e | e | ⟨t, v, a, ha, hag⟩)
    · exact .inl (.inl e)
    · exact .inl (.inr (.inl e))
    · exact .inl (.inr (.inr (.inl e)))
    · exact .inl (.inr (.inr (.inr (.inl e))))
    · have ha : (if t = s ∧ v = u then o' else f t v) = some a := ha
      by_cases e : t = s ∧ v = u
      · rw [if_pos e] at ha
        rcases hlies a ha with ⟨c, hc, hcg⟩ | hge
        · exact .inl (.inr (.inr (.inr (.inr ⟨s, u, c, hc, by omega⟩))))
        · exact .inr (by omega)
      · rw [if_neg e] at ha
        exact .inl (.inr (.inr (.inr (.inr ⟨t, v, a, ha, hag⟩))))

/-- A user's list is stored into. -/
theorem IxRaw.setRow (h : IxRaw w base xb N n x mp m0 m1 f) {s : Bool} {u : List UInt8} {a : IxSl} (ha : f s u = some a) (hg : w.grownBy w' (some a.g)) {l' : List Pr}
    (ho : OwnS prVals 2 57 w' base (.slice (some ⟨a.g, 0, none⟩) a.n a.c) l') (hq : AllQ isStrV w' 57 (.slice (some ⟨a.g, 0, none⟩) a.n a.c)) (hl : l'.length = (x.S s u).length) :
    IxRaw w' base xb N n ⟨x.P, fun t v => if t = s ∧ v = u then l' else x.S t v⟩ mp m0 m1 f ∧ Below base w w' ∧ Turned w w' (IxFoot xb mp m0 m1 f) (IxFoot xb mp m0 m1 f) := by
  have far : ∀ b, b < w.heap.size → b ≠ a.g → w'.heap[b]? = w.heap[b]? := fun b hb hn => hg.block b hb (fun e => hn (Option.some.inj e))
  have hbw : base ≤ w.heap.size := Nat.le_trans h.low.1 (Nat.le_of_lt h.lt)
  refine ⟨⟨?_, h.low, h.three, ?_, fun t => ?_, fun t v => ?_, fun t v => ?_, h.apart, fun t v => ?_⟩, (Below.refl base w).grown hg hbw (fun k hk => by obtain rfl := Option.some.inj hk; exact (h.row ha).2.1), turned_grown hg fun b e => ?_⟩
  · exact (far xb h.lt (h.rx ha).symm).trans h.blk
  · exact h.pairs.kept (far mp h.pairs.lt (h.rmap ha (.inl rfl)).symm)
  · exact (h.side t).kept (far _ (h.side t).lt (h.rmap ha (sd_map t mp m0 m1)).symm)
  · show OwnS prVals 2 _ w' base (ixslV (f t v)) (if t = s ∧ v = u then l' else x.S t v)
    by_cases e : t = s ∧ v = u
    · rw [if_pos e, e.1, e.2, ha]
      exact ho
    · rw [if_neg e]
      have := h.list t v
      refine ⟨this.1, ?_⟩
      rcases this.2 with h' | ⟨g, cap, cur, h1, h2, h3, h4⟩
      · exact .inl h'
      · refine .inr ⟨g, cap, cur, h1, h2, ?_, h4⟩
        rw [far g (Array.getElem?_eq_some_iff.1 h3).1 (fun hag => ?_)]
        · exact h3
        · cases ef : f t v with
          | none => rw [ef] at h1; cases h1
          | some b =>
            rw [ef] at h1
            unfold ixslV at h1
            injection h1 with h1 _ _
            injection h1 with h1
            injection h1 with h1 _ _
            have := h.apart s u t v a b ha ef (by omega)
            exact e ⟨this.1.symm, this.2.symm⟩
  · by_cases e : t = s ∧ v = u
    · rw [e.1, e.2, ha]
      exact hq
    · refine (h.str t v).kept fun g hg' => ?_
      obtain ⟨b, hb, rfl⟩ := h.own hg'
      refine far b.g (h.row hb).2.2.1 (fun hag => ?_)
      have := h.apart s u t v a b ha hb hag.symm
      exact e ⟨this.1.symm, this.2.symm⟩
  · show f t v = none ↔ (if t = s ∧ v = u then l' else x.S t v) = []
    by_cases e : t = s ∧ v = u
    · rw [if_pos e, e.1, e.2, h.nil s u, ← List.length_eq_zero_iff, ← List.length_eq_zero_iff, hl]
    · rw [if_neg e]
      exact h.nil t v
  · cases e
    exact .inr (.inr (.inr (.inr ⟨s, u, a, ha, rfl⟩)))

end Go.Proofs.Ytlckphdmflofgaa
end

section
/-
  THE MAPS OF LAYER 13, TURNED: what a store and a delete come to, as equations.
-/
namespace Go.Proofs.Ytlckphdmflofgaa
open Go.RowKit Go.ChangeMaps Go.MapKept

theorem PlMap.put {w : World} {B N n : Nat} {P : Pr → Option (Nat × Nat)} (h : PlMap w B N n P) (hN : N ≤ 100000) (p : Pr) (hp : Short2 p) (t : Nat × Nat) :
    ∃ w', (Instr.mapUpdate 51 (.map (some B)) (ikV p) (plV t)).run Try.prog w = .ok () w' ∧ PlMap w' B (N + 1) (if (P p).isSome then n else n + 1) (fun r => if r = p then some t else P r) ∧ w.mapTurned w' B := by
  obtain ⟨k, D, h1, h2, h6, h3⟩ := h
  obtain ⟨w', hrun, hown, hturn⟩ := h2.store ikKeyed Try.underlying51 (by unfold maxLen; omega) (ik_key p hp) (plElem_mk t)
  have hT := h2.tidy ikKeyed
  refine ⟨w', hrun, ⟨k + 1, _, by omega, hown, ?_, fun y hy => ?_⟩, hturn⟩
  · rw [Maps.size_put hT, (h3 p hp).1, h6]
  · by_cases e : y = p
    · subst e
      rw [Maps.has_put_same hT.isMap (ik_isKey y), Maps.atKey_put_same hT.isMap (ik_isKey y)]
      exact ⟨by simp, by simp⟩
    · have hne : ikL y ≠ ikL p := fun h => e (ik_inj hy hp h)
      rw [Maps.has_put_other hne, Maps.atKey_put_other hne, (h3 y hy).1, (h3 y hy).2]
      exact ⟨by simp [e], by simp [e]⟩

theorem PlMap.del {w : World} {B N n : Nat} {P : Pr → Option (Nat × Nat)} (h : PlMap w B N n P) (p : Pr) (hp : Short2 p) (ty : TypeId) :
    ∃ w', (Builtin.delete_ #[51, 57] ty #[.map (some B), ikV p]).run Try.prog w = .ok (.tuple #[]) w' ∧ PlMap w' B N (if (P p).isSome then n - 1 else n) (fun r => if r = p then none else P r) ∧ w.mapTurned w' B := by
  obtain ⟨k, D, h1, h2, h6, h3⟩ := h
  obtain ⟨w', hrun, hown, hturn⟩ := h2.drop ikKeyed Try.underlying51 (ik_key p hp) ty
  have hT := h2.tidy ikKeyed
  have hsz : Maps.size (D.del (ikL p)) + (if Maps.has D (ikL p) then 1 else 0) = Maps.size D := Maps.size_del hT
  rw [(h3 p hp).1, h6] at hsz
  refine ⟨w', hrun, ⟨k, _, h1, hown, ?_, fun y hy => ?_⟩, hturn⟩
  · by_cases h : (P p).isSome = true
    · rw [if_pos h] at hsz ⊢
      omega
    · rw [if_neg h] at hsz ⊢
      omega
  · by_cases e : y = p
    · subst e
      rw [Maps.has_del_same, Maps.atKey_del_same]
      exact ⟨by simp, by simp⟩
    · have hne : ikL y ≠ ikL p := fun h => e (ik_inj hy hp h)
      rw [Maps.has_del_other hne, Maps.atKey_del_other hne, (h3 y hy).1, (h3 y hy).2]
      exact ⟨by simp [e], by simp [e]⟩

theorem SdMap.put {w : World} {B N : Nat} {f : List UInt8 → Option IxSl} (h : SdMap w B N f) (hN : N ≤ 100000) (u : List UInt8) (hu : u.length ≤ 4294967296) (s : Option IxSl) :
    ∃ w', (Instr.mapUpdate 52 (.map (some B)) (.string ⟨u.toArray⟩) (ixslV s)).run Try.prog w = .ok () w' ∧ SdMap w' B (N + 1) (fun r => if r = u then s else f r) ∧ w.mapTurned w' B := by
  obtain ⟨k, D, h1, h2, h3⟩ := h
  obtain ⟨w', hrun, hown, hturn⟩ := h2.store (Maps.string_keyed Try.underlying9) Try.underlying52 (by unfold maxLen; omega) (ix_text u hu) (ixslElem_mk s)
  have hT := h2.tidy (Maps.string_keyed Try.underlying9)
  refine ⟨w', hrun, ⟨k + 1, _, by omega, hown, fun y => ?_⟩, hturn⟩
  by_cases e : y = u
  · subst e
    rw [Maps.atKey_put_same hT.isMap (show WideAt.IsKeyLit (.string y) from True.intro)]
    simp
  · have hne : (Lit.string y) ≠ .string u := fun h => e (by injection h)
    rw [Maps.atKey_put_other hne, h3 y]
    simp [e]

theorem SdMap.del {w : World} {B N : Nat} {f : List UInt8 → Option IxSl} (h : SdMap w B N f) (u : List UInt8) (hu : u.length ≤ 4294967296) (ty : TypeId) :
    ∃ w', (Builtin.delete_ #[52, 9] ty #[.map (some B), .string ⟨u.toArray⟩]).run Try.prog w = .ok (.tuple #[]) w' ∧ SdMap w' B N (fun r => if r = u then none else f r) ∧ w.mapTurned w' B := by
  obtain ⟨k, D, h1, h2, h3⟩ := h
  obtain ⟨w', hrun, hown, hturn⟩ := h2.drop (Maps.string_keyed Try.underlying9) Try.underlying52 (ix_text u hu) ty
  refine ⟨w', hrun, ⟨k, _, h1, hown, fun y => ?_⟩, hturn⟩
  by_cases e : y = u
  · subst e
    rw [Maps.atKey_del_same]
    simp
  · have hne : (Lit.string y) ≠ .string u := fun h => e (by injection h)
    rw [Maps.atKey_del_other hne, h3 y]
    simp [e]

end Go.Proofs.Ytlckphdmflofgaa
end

section
/-
  LAYER 10, PLAIN: slots, which is better; heaps as lists; a slot that rises, one that sinks.
-/
namespace Go.Proofs.Ytlckphdmflofgaa

structure Sl where
  id : Int
  r0 : Int
  r1 : Int
  r2 : Int
deriving DecidableEq

def Sl.zero : Sl := ⟨0, 0, 0, 0⟩

/-- Which of two ranks above the other one. -/
def slBet (a b : Sl) : Bool :=
  if a.r0 = b.r0 then (if a.r1 = b.r1 then (if a.r2 = b.r2 then decide (a.id < b.id) else decide (b.r2 < a.r2)) else decide (b.r1 < a.r1)) else decide (b.r0 < a.r0)

/-- The slot at a place. -/
def at0 (l : List Sl) (i : Nat) : Sl := l.getD i Sl.zero

theorem at0_get {l : List Sl} {i : Nat} (h : i < l.length) : at0 l i = l[i] := by
  unfold at0; rw [List.getD_eq_getElem?_getD, List.getElem?_eq_getElem h]; rfl

def par (i : Nat) : Nat := (i - 1) / 2

/-- None is better than its parent. -/
def HeapOK (l : List Sl) : Prop := ∀ i, 0 < i → i < l.length → slBet (at0 l i) (at0 l (par i)) = false

/-- All stand well but for the one at 'at', and its children. -/
def Off (l : List Sl) (a : Nat) : Prop :=
  (∀ i, 0 < i → i < l.length → i ≠ a → par i ≠ a → slBet (at0 l i) (at0 l (par i)) = false) ∧
  ∀ c, 0 < c → c < l.length → par c = a → 0 < a → slBet (at0 l c) (at0 l (par a)) = false

/-- All stand well but for the children of the one at 'at'. -/
def Sunk (l : List Sl) (a : Nat) : Prop := Off l a ∧ (0 < a → slBet (at0 l a) (at0 l (par a)) = false)

/-- Two changed about. -/
def swp (l : List Sl) (i j : Nat) : List Sl := (l.set i (at0 l j)).set j (at0 l i)

/-- Ids stand once each. -/
def Once (l : List Sl) : Prop := (l.map Sl.id).Nodup

/-- Where an id stands. -/
def spot (l : List Sl) (id : Int) : Option Nat := l.findIdx? fun s => decide (s.id = id)

end Go.Proofs.Ytlckphdmflofgaa
end

section
/-
  LAYER 10: a heap in memory: its slots, and where each id's slot stands.
-/
namespace Go.Proofs.Ytlckphdmflofgaa
open Go.RowKit Go.ChangeMaps Go.MapKept

def slVals (s : Sl) : List Value := [.int .i64 s.id, .int .i64 s.r0, .int .i64 s.r1, .int .i64 s.r2]

/-- Numbers that an int holds. -/
def SlFit (s : Sl) : Prop := (Lit.int .i64 s.id).wf = true

/-- A map of the call's own, from ids to places; k ids. -/
def PlacesAt (w : World) (M : Nat) (f : Int → Option Nat) (k : Nat) : Prop :=
  ∃ D : DataW Unit, w.ownsMap Try.prog 3 (plainElem Try.prog 3) M k D ∧ Maps.size D = k ∧
    ∀ id : Int, Maps.has D (.int .i64 id) = (f id).isSome ∧ D.atKey (.int .i64 id) (.lit (.int .i64 0)) = .lit (.int .i64 (((f id).getD 0 : Nat) : Int))

theorem PlacesAt.kept {w w' : World} {M : Nat} {f : Int → Option Nat} {k : Nat} (h : PlacesAt w M f k) (hb : w'.heap[M]? = w.heap[M]?) : PlacesAt w' M f k := by
  obtain ⟨D, ⟨es, clock, h2, h3, h4, h5⟩, h6⟩ := h
  exact ⟨D, ⟨es, clock, hb.trans h2, h3, h4, h5⟩, h6⟩

theorem PlacesAt.lt {w : World} {M : Nat} {f : Int → Option Nat} {k : Nat} (h : PlacesAt w M f k) : M < w.heap.size := by
  obtain ⟨D, h1, _⟩ := h
  exact h1.lt

theorem PlacesAt.isMap {w : World} {M : Nat} {f : Int → Option Nat} {k : Nat} (h : PlacesAt w M f k) : ∃ es clock, w.heap[M]? = some (.map es clock) := by
  obtain ⟨D, ⟨es, clock, h2, _⟩, _⟩ := h
  exact ⟨es, clock, h2⟩

/-- An id laid at a place. -/
def layF (f : Int → Option Nat) (id : Int) (a : Option Nat) : Int → Option Nat := fun x => if x = id then a else f x

/-- Worlds that differ from w in what is no block of a heap alone. -/
def Spared (w w' : World) (B M : Nat) (v : Value) : Prop := w'.heap[B]? = w.heap[B]? ∧ w'.heap[M]? = w.heap[M]? ∧ ∀ g n c, v = .slice (some ⟨g, 0, none⟩) n c → w'.heap[g]? = w.heap[g]?

theorem OwnS.blocks {α : Type} {vals : α → List Value} {sz : Nat} {T : TypeId} {w w' : World} {base : Nat} {v : Value} {t : List α} (h : OwnS vals sz T w base v t) (hb : ∀ g n c, v = .slice (some ⟨g, 0, none⟩) n c → w'.heap[g]? = w.heap[g]?) : OwnS vals sz T w' base v t := by
  refine ⟨h.1, ?_⟩
  rcases h.2 with h' | ⟨g, cap, cur, h1, h2, h3, h4⟩
  · exact .inl h'
  · exact .inr ⟨g, cap, cur, h1, h2, (hb g _ _ h1).trans h3, h4⟩

/-- The blocks that a heap's call may turn. -/
def Foot (B M : Nat) (v : Value) (b : Nat) : Prop := b = B ∨ b = M ∨ ∃ n c, v = .slice (some ⟨b, 0, none⟩) n c

/-- All other blocks are as they were. -/
def Beside (w w' : World) (S : Nat → Prop) : Prop := ∀ b, b < w.heap.size → ¬ S b → w'.heap[b]? = w.heap[b]?

theorem Beside.refl (w : World) (S : Nat → Prop) : Beside w w S := fun _ _ _ => rfl

theorem Beside.trans {a b c : World} {S : Nat → Prop} (h1 : Beside a b S) (hs : a.heap.size ≤ b.heap.size) (h2 : Beside b c S) : Beside a c S :=
  fun x hx hn => (h2 x (Nat.lt_of_lt_of_le hx hs) hn).trans (h1 x hx hn)

end Go.Proofs.Ytlckphdmflofgaa
end

section
/-
  LAYER 13, THE CODE: a pair laid at a place.
-/
namespace Go.Proofs.Ytlckphdmflofgaa
open Go.RowKit Go.ChangeMaps Go.MapKept

theorem grown_set2 (w : World) (g o : Nat) (a b : Value) : w.grownBy (((w.setCell ⟨g, o, none⟩ a).setCell ⟨g, o + 1, none⟩ b)) (some g) :=
  ⟨rfl, rfl, rfl, by simp, fun k _ hk => by rw [RowKit.Below.heap_setCell _ _ _ _ (fun e => hk (by rw [e])), RowKit.Below.heap_setCell _ _ _ _ (fun e => hk (by rw [e]))]⟩

/-- The lists of an Index in which a pair is laid. -/
def IxRaw.mk2 (x : Ix) (s : Bool) (k : Nat) (q : Pr) : Ix := ⟨x.P, (x.lay s k q).S⟩

theorem lay_S {w : World} {base xb N n : Nat} {x : Ix} {mp m0 m1 : Nat} {f : Bool → List UInt8 → Option IxSl} {s : Bool} {k : Nat} {q : Pr} (h : IxRaw w base xb N n ⟨x.P, fun t v => if t = s ∧ v = pcOf s q then (x.S s (pcOf s q)).set k q else x.S t v⟩ mp m0 m1 f) : IxRaw w base xb N n (IxRaw.mk2 x s k q) mp m0 m1 f := by
  have e : (fun t v => if t = s ∧ v = pcOf s q then (x.S s (pcOf s q)).set k q else x.S t v) = (x.lay s k q).S := by
    funext t v
    show _ = if t = s ∧ v = pcOf s q then (x.S t v).set k q else x.S t v
    by_cases g : t = s ∧ v = pcOf s q
    · rw [if_pos g, if_pos g, g.1, g.2]
    · rw [if_neg g, if_neg g]
  rw [e] at h
  exact h

theorem grown_drew {w w' : World} {r : Option Nat} (h : w.grownBy w' r) : w.grownBy w'.drew r := ⟨h.os, h.tape, h.output, h.size, h.block⟩

set_option maxHeartbeats 3200000 in
set_option maxRecDepth 100000 in
theorem ixlay_w {w : World} {base xb N n : Nat} {x : Ix} {mp m0 m1 : Nat} {f : Bool → List UInt8 → Option IxSl} (h : IxRaw w base xb N n x mp m0 m1 f) (hN : N ≤ 100000) (a b : List UInt8) (ha : a.length ≤ 60) (hb : b.length ≤ 60) {k : Nat} (hk : k < (x.S false a).length) :
    Calls Try.prog 49 #[.pointer (some ⟨xb, 0, none⟩), .int .i64 0, .int .i64 k, .agg #[.string ⟨a.toArray⟩, .string ⟨b.toArray⟩]] w fun e w' =>
      e = .returned (.tuple #[]) ∧ IxRaw w' base xb (N + 1) (if (x.P (a, b)).isSome then n else n + 1) (x.lay false k (a, b)) mp m0 m1 f ∧ Below base w w' ∧ Turned w w' (IxFoot xb mp m0 m1 f) (IxFoot xb mp m0 m1 f) := by
  obtain ⟨sl, hsl⟩ : ∃ sl, f false a = some sl := by
    cases e : f false a with
    | some sl => exact ⟨sl, rfl⟩
    | none =>
      have := (h.nil false a).1 e
      rw [this] at hk
      simp at hk
  have hb1 := bl_newZ w (.cells #[.string ⟨a.toArray⟩, .string ⟨b.toArray⟩] 57)
  have H1 := Lib.hid (h.later hb1)
  have hx := (MapKept.heap_alloc w (.cells #[.string ⟨a.toArray⟩, .string ⟨b.toArray⟩] 57)).1
  have HB1 := Lib.hid hb1
  have HF := Lib.hid (h.far (Nat.le_refl _))
  have hxl := h.lt
  have hbw : base ≤ w.heap.size := Nat.le_trans h.low.1 (Nat.le_of_lt h.lt)
  clear h hb1
  go_enter Try.func49, Try.ntmps49
  go_wp2_with fail
  generalize hpb : w.heap.size = pb at hx hxl HF ⊢
  generalize hW : w.alloc (.cells #[.string ⟨a.toArray⟩, .string ⟨b.toArray⟩] 57) = w1 at H1 hx HB1 ⊢
  obtain ⟨c0, c1, c2⟩ := H1.out.cells
  have b0 : w1.cell? ⟨pb, 0, none⟩ = some (.string ⟨a.toArray⟩) := by simp [World.cell?, hx]
  have b1 : w1.cell? ⟨pb, 1, none⟩ = some (.string ⟨b.toArray⟩) := by simp [World.cell?, hx]
  have hp1 : pb < w1.heap.size := (Array.getElem?_eq_some_iff.1 hx).1
  obtain ⟨q1, q2, q3, q4, q5, q6, -⟩ := H1.out.row hsl
  rw [q1] at q4 q6
  have HQ0 := H1.out.str false a
  rw [hsl] at HQ0
  obtain ⟨sg, sn, sc⟩ := sl
  simp only at q1 q2 q3 q4 q5 q6
  subst q1
  have hne : ¬ pb = sg := fun e => HF.out (.inr (.inr (.inr (.inr ⟨false, a, _, hsl, e.symm⟩))))
  have hne2 : ¬ sg = pb := fun e => hne e.symm
  have hne3 : ¬ xb = sg := fun e => H1.out.rx hsl e.symm
  have hne4 : ¬ sg = xb := fun e => hne3 e.symm
  have z0 := q6.frozenAt (k * 2)
  have z1 := q6.frozenAt (k * 2 + 1)
  have s0 := q6.row prOK hk 0 _ rfl
  have s1 := q6.row prOK hk 1 _ rfl
  simp only [Nat.add_zero] at s0
  have t0 : (0 : Int) ≤ (k : Int) := by omega
  have t1 : (k : Int) < ((x.S false a).length : Int) := by omega
  have hcm : sc ≤ 9223372036854775807 := by unfold maxLen at q5; omega
  have hl1 := Lib.hid (show ∀ X, X.heap[m0]? = w1.heap[m0]? → (Instr.lookup 52 (.map (some m0)) (.string ⟨a.toArray⟩) false).run Try.prog X = .ok (.slice (some ⟨sg, 0, none⟩) (x.S false a).length sc) X from fun X hX => by
    have := ((H1.out.side false).kept hX).look a (by omega)
    rw [hsl] at this
    exact this)
  have hms : ¬ m0 = sg := fun e => H1.out.rmap hsl (.inr (.inl rfl)) e.symm
  have l1 := hl1.out w1.drew rfl
  have l2 := hl1.out (((w1.setCell ⟨sg, k * 2, none⟩ (.string ⟨a.toArray⟩)).setCell ⟨sg, k * 2 + 1, none⟩ (.string ⟨b.toArray⟩)).drew) (by show (((w1.setCell _ _).setCell _ _).heap[m0]?) = _; rw [RowKit.Below.heap_setCell _ _ _ _ hms, RowKit.Below.heap_setCell _ _ _ _ hms])
  clear hpb hW
  go_region_held (fun X => X.cell? ⟨xb, 1, none⟩ = some (.map (some m0)) ∧ X.cell? ⟨pb, 0, none⟩ = some (.string ⟨a.toArray⟩) ∧ X.cell? ⟨pb, 1, none⟩ = some (.string ⟨b.toArray⟩) ∧ (Instr.lookup 52 (.map (some m0)) (.string ⟨a.toArray⟩) false).run Try.prog X = .ok (.slice (some ⟨sg, 0, none⟩) (x.S false a).length sc) X) ((go_split_ands; refine ⟨?_, ?_, ?_, ?_⟩ <;> first | exact l1 | exact l2 | go_keep)) (fail)
  have HG := grown_drew (grown_set2 w1 sg (k * 2) (.string ⟨a.toArray⟩) (.string ⟨b.toArray⟩))
  have HO : OwnS prVals 2 57 (((w1.setCell ⟨sg, k * 2, none⟩ (.string ⟨a.toArray⟩)).setCell ⟨sg, k * 2 + 1, none⟩ (.string ⟨b.toArray⟩)).drew) base (.slice (some ⟨sg, 0, none⟩) (x.S false a).length sc) ((x.S false a).set k (a, b)) := OwnS.drew (ownS_set prOK q6 hk (a, b))
  obtain ⟨R1, R2, R3⟩ := H1.out.setRow hsl HG HO (allQ_drew (allQ_set (allQ_set HQ0 (k * 2) ⟨_, rfl⟩ 0 0) (k * 2 + 1) ⟨_, rfl⟩ _ _)) (by simp)
  have R1 := lay_S (q := (a, b)) R1
  have hx2 := (HG.block pb hp1 (fun e => hne (Option.some.inj e))).trans hx
  clear c0 c1 c2 b0 b1 z0 z1 s0 s1 l1 l2 hl1 HG HO q6 HQ0
  generalize (((w1.setCell ⟨sg, k * 2, none⟩ (.string ⟨a.toArray⟩)).setCell ⟨sg, k * 2 + 1, none⟩ (.string ⟨b.toArray⟩)).drew) = w2 at R1 R2 R3 hx2 ⊢
  have H2 := Lib.hid R1
  have B2 := Lib.hid ((HB1.out.mono hbw).trans R2)
  have T2 := Lib.hid ((turned_below (F := IxFoot xb mp m0 m1 f) HB1.out).trans R3)
  clear R1 R2 R3 H1 HB1 hx hp1
  have hp2 : pb < w2.heap.size := (Array.getElem?_eq_some_iff.1 hx2).1
  obtain ⟨tp, htp⟩ : ∃ tp, (x.P (a, b)).getD (0, 0) = tp := ⟨_, rfl⟩
  obtain ⟨t1, t2⟩ := tp
  have hS : Hid (∀ X, Below w2.heap.size w2 X → X.cell? ⟨xb, 0, none⟩ = some (.map (some mp)) ∧ X.cell? ⟨pb, 0, none⟩ = some (.string ⟨a.toArray⟩) ∧ X.cell? ⟨pb, 1, none⟩ = some (.string ⟨b.toArray⟩) ∧ (Instr.lookup 51 (.map (some mp)) (.agg #[.string ⟨a.toArray⟩, .string ⟨b.toArray⟩]) false).run Try.prog X = .ok (.agg #[.int .i64 t1, .int .i64 t2]) X) := by
    show ∀ _, _
    intro X hX
    have h2 := H2.out.later hX
    have e := (hX.block pb hp2).trans hx2
    have hlk := h2.pairs.look (a, b) ⟨by simp; omega, by simp; omega⟩
    rw [show (IxRaw.mk2 x false k (a, b)).P = x.P from rfl, htp] at hlk
    exact ⟨h2.cells.1, by simp [World.cell?, e], by simp [World.cell?, e], hlk⟩
  go_wp2_with fail
  go_region_held (fun X => X.cell? ⟨xb, 0, none⟩ = some (.map (some mp)) ∧ X.cell? ⟨pb, 0, none⟩ = some (.string ⟨a.toArray⟩) ∧ X.cell? ⟨pb, 1, none⟩ = some (.string ⟨b.toArray⟩) ∧ (Instr.lookup 51 (.map (some mp)) (.agg #[.string ⟨a.toArray⟩, .string ⟨b.toArray⟩]) false).run Try.prog X = .ok (.agg #[.int .i64 t1, .int .i64 t2]) X) ((refine hS.out _ ?_; repeat (first | exact Below.refl _ _ | refine Below.drew ?_ | refine Below.alloc ?_ (by first | (simp; done) | (simp; omega) | omega) _ | refine Below.setCell ?_ (by first | (simp; done) | (simp; omega) | omega) _))) (fail)
  all_goals
    have hb3 : Below w2.heap.size w2 ((w2.alloc (.cells #[.int .i64 t1, .int .i64 t2] 59)).drew) := (bl_newZ w2 _).drew
    have hx3 : ((w2.alloc (.cells #[.int .i64 t1, .int .i64 t2] 59)).drew).heap[w2.heap.size]? = some (.cells #[.int .i64 t1, .int .i64 t2] 59 (0, 0)) := (MapKept.heap_alloc w2 _).1
    have hB3 := Lib.hid hb3
    have hxx := (hb3.block pb hp2).trans hx2
    have H3 := Lib.hid (H2.out.later hb3)
    have HF3 := Lib.hid (H2.out.far (Nat.le_refl _))
    have hne5 : ¬ pb = w2.heap.size := by omega
    have hxl2 := H2.out.lt
    have hne6 : ¬ xb = w2.heap.size := by omega
    have hb2w : base ≤ w2.heap.size := Nat.le_trans hbw B2.out.size
    clear hb3 hp2 hx2 hxl2
    generalize (w2.alloc (.cells #[.int .i64 t1, .int .i64 t2] 59)).drew = w3 at hx3 hB3 hxx H3 ⊢
    have hq3 : w2.heap.size < w3.heap.size := (Array.getElem?_eq_some_iff.1 hx3).1
    generalize hqb : w2.heap.size = qb at hx3 hq3 HF3 hne5 hne6 hb2w ⊢
    have p0 : w3.cell? ⟨qb, 0, none⟩ = some (.int .i64 t1) := by simp [World.cell?, hx3]
    have p1 : w3.cell? ⟨qb, 1, none⟩ = some (.int .i64 t2) := by simp [World.cell?, hx3]
    have g0 : w3.frozen? ⟨qb, 0, none⟩ = false := by simp [World.frozen?, hx3]
    have g1 : w3.frozen? ⟨qb, 1, none⟩ = false := by simp [World.frozen?, hx3]
    go_upto_region 4 with fail
    have hB4 : Hid (Below qb w2 (w3.setCell ⟨qb, 0, none⟩ (.int .i64 k))) := Lib.hid (Below.setCell (hB3.out.mono (show qb ≤ w2.heap.size by omega)) (Nat.le_refl _) _)
    have H4 := Lib.hid (H3.out.stay (w' := w3.setCell ⟨qb, 0, none⟩ (.int .i64 k)) fun b hb => RowKit.Below.heap_setCell _ _ _ _ (fun e => by have e : b = qb := e; subst e; exact HF3.out hb))
    have hx4 : (w3.setCell ⟨qb, 0, none⟩ (.int .i64 k)).heap[qb]? = some (.cells #[.int .i64 k, .int .i64 t2] 59 (0, 0)) := by
      have := heap_setCell_same w3 qb 0 _ _ (.int .i64 k) hx3
      simpa using this
    have hxx4 := (RowKit.Below.heap_setCell w3 ⟨qb, 0, none⟩ (.int .i64 k) pb hne5).trans hxx
    clear p0 p1 g0 g1 hx3 hxx
    generalize w3.setCell ⟨qb, 0, none⟩ (.int .i64 k) = w4 at hB4 H4 hx4 hxx4 ⊢
    obtain ⟨w5, hrun, hp5, hturn⟩ := (H4.out.pairs.kept (w' := w4.drew) rfl).put hN (a, b) ⟨by simp; omega, by simp; omega⟩ (k, t2)
    have hgrow := hturn.grown
    simp only [ikV, plV] at hrun
    have hS4 : ∀ X : World, X.heap[xb]? = w4.heap[xb]? → X.heap[pb]? = w4.heap[pb]? → X.heap[qb]? = w4.heap[qb]? → X.cell? ⟨xb, 0, none⟩ = some (.map (some mp)) ∧ X.cell? ⟨pb, 0, none⟩ = some (.string ⟨a.toArray⟩) ∧ X.cell? ⟨pb, 1, none⟩ = some (.string ⟨b.toArray⟩) ∧ X.cell? ⟨qb, 0, none⟩ = some (.int .i64 k) ∧ X.cell? ⟨qb, 1, none⟩ = some (.int .i64 t2) := by
      intro X h1 h2 h3
      rw [hxx4] at h2
      rw [hx4] at h3
      have h1 := h1.trans H4.out.blk
      unfold ixCells at h1
      refine ⟨?_, ?_, ?_, ?_, ?_⟩ <;> simp [World.cell?, h1, h2, h3]
    have e1 := hS4 w4.drew rfl rfl rfl
    have hnm : ∀ b, b < w4.heap.size → ¬ b = mp → w5.heap[b]? = w4.heap[b]? := fun b hb hn => hgrow.block b hb (fun e => hn (Option.some.inj e))
    have hmp4 := H4.out.pairs.lt
    have e2 := hS4 w5 (hnm xb H4.out.lt (H4.out.xmap (.inl rfl))) (hnm pb (Array.getElem?_eq_some_iff.1 hxx4).1 (fun e => HF.out (.inr (.inl e)))) (hnm qb (Array.getElem?_eq_some_iff.1 hx4).1 (fun e => HF3.out (.inr (.inl e))))
    go_region_held (fun X => X.cell? ⟨xb, 0, none⟩ = some (.map (some mp)) ∧ X.cell? ⟨pb, 0, none⟩ = some (.string ⟨a.toArray⟩) ∧ X.cell? ⟨pb, 1, none⟩ = some (.string ⟨b.toArray⟩) ∧ X.cell? ⟨qb, 0, none⟩ = some (.int .i64 k) ∧ X.cell? ⟨qb, 1, none⟩ = some (.int .i64 t2)) ((first | exact e1 | exact e2)) (fail)
    obtain ⟨R1, R2, R3⟩ := H4.out.setP (w' := w5) hp5 (Nat.le_succ N) ⟨hgrow.os, hgrow.tape, hgrow.output, hgrow.size, hgrow.block⟩
    have R1 := Lib.hid R1
    have HT5 : Hid (Turned w w5 (IxFoot xb mp m0 m1 f) (IxFoot xb mp m0 m1 f)) := (T2.out.trans (turned_below (by rw [hqb]; exact hB4.out))).trans R3
    have HB5 : Hid (Below base w w5) := (B2.out.trans ((hB4.out).mono hb2w)).trans R2
    have HX : Hid (({P := fun r => if r = (a, b) then some (k, t2) else x.P r, S := (IxRaw.mk2 x false k (a, b)).S} : Ix) = x.lay false k (a, b)) := by
      show _ = _
      unfold Ix.lay
      rw [htp]
      rfl
    clear hrun hp5 hturn hgrow e1 e2 hS4 hnm R2 R3
    go_end0
    exact ⟨rfl, HX.out ▸ R1.out, HB5.out, HT5.out⟩
set_option maxHeartbeats 3200000 in
set_option maxRecDepth 100000 in
theorem ixlay_c {w : World} {base xb N n : Nat} {x : Ix} {mp m0 m1 : Nat} {f : Bool → List UInt8 → Option IxSl} (h : IxRaw w base xb N n x mp m0 m1 f) (hN : N ≤ 100000) (a b : List UInt8) (ha : a.length ≤ 60) (hb : b.length ≤ 60) {k : Nat} (hk : k < (x.S true b).length) :
    Calls Try.prog 49 #[.pointer (some ⟨xb, 0, none⟩), .int .i64 1, .int .i64 k, .agg #[.string ⟨a.toArray⟩, .string ⟨b.toArray⟩]] w fun e w' =>
      e = .returned (.tuple #[]) ∧ IxRaw w' base xb (N + 1) (if (x.P (a, b)).isSome then n else n + 1) (x.lay true k (a, b)) mp m0 m1 f ∧ Below base w w' ∧ Turned w w' (IxFoot xb mp m0 m1 f) (IxFoot xb mp m0 m1 f) := by
  obtain ⟨sl, hsl⟩ : ∃ sl, f true b = some sl := by
    cases e : f true b with
    | some sl => exact ⟨sl, rfl⟩
    | none =>
      have := (h.nil true b).1 e
      rw [this] at hk
      simp at hk
  have hb1 := bl_newZ w (.cells #[.string ⟨a.toArray⟩, .string ⟨b.toArray⟩] 57)
  have H1 := Lib.hid (h.later hb1)
  have hx := (MapKept.heap_alloc w (.cells #[.string ⟨a.toArray⟩, .string ⟨b.toArray⟩] 57)).1
  have HB1 := Lib.hid hb1
  have HF := Lib.hid (h.far (Nat.le_refl _))
  have hxl := h.lt
  have hbw : base ≤ w.heap.size := Nat.le_trans h.low.1 (Nat.le_of_lt h.lt)
  clear h hb1
  go_enter Try.func49, Try.ntmps49
  go_wp2_with fail
  generalize hpb : w.heap.size = pb at hx hxl HF ⊢
  generalize hW : w.alloc (.cells #[.string ⟨a.toArray⟩, .string ⟨b.toArray⟩] 57) = w1 at H1 hx HB1 ⊢
  obtain ⟨c0, c1, c2⟩ := H1.out.cells
  have b0 : w1.cell? ⟨pb, 0, none⟩ = some (.string ⟨a.toArray⟩) := by simp [World.cell?, hx]
  have b1 : w1.cell? ⟨pb, 1, none⟩ = some (.string ⟨b.toArray⟩) := by simp [World.cell?, hx]
  have hp1 : pb < w1.heap.size := (Array.getElem?_eq_some_iff.1 hx).1
  obtain ⟨q1, q2, q3, q4, q5, q6, -⟩ := H1.out.row hsl
  rw [q1] at q4 q6
  have HQ0 := H1.out.str true b
  rw [hsl] at HQ0
  obtain ⟨sg, sn, sc⟩ := sl
  simp only at q1 q2 q3 q4 q5 q6
  subst q1
  have hne : ¬ pb = sg := fun e => HF.out (.inr (.inr (.inr (.inr ⟨true, b, _, hsl, e.symm⟩))))
  have hne2 : ¬ sg = pb := fun e => hne e.symm
  have hne3 : ¬ xb = sg := fun e => H1.out.rx hsl e.symm
  have hne4 : ¬ sg = xb := fun e => hne3 e.symm
  have z0 := q6.frozenAt (k * 2)
  have z1 := q6.frozenAt (k * 2 + 1)
  have s0 := q6.row prOK hk 0 _ rfl
  have s1 := q6.row prOK hk 1 _ rfl
  simp only [Nat.add_zero] at s0
  have t0 : (0 : Int) ≤ (k : Int) := by omega
  have t1 : (k : Int) < ((x.S true b).length : Int) := by omega
  have hcm : sc ≤ 9223372036854775807 := by unfold maxLen at q5; omega
  have hl1 := Lib.hid (show ∀ X, X.heap[m1]? = w1.heap[m1]? → (Instr.lookup 52 (.map (some m1)) (.string ⟨b.toArray⟩) false).run Try.prog X = .ok (.slice (some ⟨sg, 0, none⟩) (x.S true b).length sc) X from fun X hX => by
    have := ((H1.out.side true).kept hX).look b (by omega)
    rw [hsl] at this
    exact this)
  have hms : ¬ m1 = sg := fun e => H1.out.rmap hsl (.inr (.inr rfl)) e.symm
  have l1 := hl1.out w1.drew rfl
  have l2 := hl1.out (((w1.setCell ⟨sg, k * 2, none⟩ (.string ⟨a.toArray⟩)).setCell ⟨sg, k * 2 + 1, none⟩ (.string ⟨b.toArray⟩)).drew) (by show (((w1.setCell _ _).setCell _ _).heap[m1]?) = _; rw [RowKit.Below.heap_setCell _ _ _ _ hms, RowKit.Below.heap_setCell _ _ _ _ hms])
  clear hpb hW
  go_region_held (fun X => X.cell? ⟨xb, 2, none⟩ = some (.map (some m1)) ∧ X.cell? ⟨pb, 0, none⟩ = some (.string ⟨a.toArray⟩) ∧ X.cell? ⟨pb, 1, none⟩ = some (.string ⟨b.toArray⟩) ∧ (Instr.lookup 52 (.map (some m1)) (.string ⟨b.toArray⟩) false).run Try.prog X = .ok (.slice (some ⟨sg, 0, none⟩) (x.S true b).length sc) X) ((go_split_ands; refine ⟨?_, ?_, ?_, ?_⟩ <;> first | exact l1 | exact l2 | go_keep)) (fail)
  have HG := grown_drew (grown_set2 w1 sg (k * 2) (.string ⟨a.toArray⟩) (.string ⟨b.toArray⟩))
  have HO : OwnS prVals 2 57 (((w1.setCell ⟨sg, k * 2, none⟩ (.string ⟨a.toArray⟩)).setCell ⟨sg, k * 2 + 1, none⟩ (.string ⟨b.toArray⟩)).drew) base (.slice (some ⟨sg, 0, none⟩) (x.S true b).length sc) ((x.S true b).set k (a, b)) := OwnS.drew (ownS_set prOK q6 hk (a, b))
  obtain ⟨R1, R2, R3⟩ := H1.out.setRow hsl HG HO (allQ_drew (allQ_set (allQ_set HQ0 (k * 2) ⟨_, rfl⟩ 0 0) (k * 2 + 1) ⟨_, rfl⟩ _ _)) (by simp)
  have R1 := lay_S (q := (a, b)) R1
  have hx2 := (HG.block pb hp1 (fun e => hne (Option.some.inj e))).trans hx
  clear c0 c1 c2 b0 b1 z0 z1 s0 s1 l1 l2 hl1 HG HO q6 HQ0
  generalize (((w1.setCell ⟨sg, k * 2, none⟩ (.string ⟨a.toArray⟩)).setCell ⟨sg, k * 2 + 1, none⟩ (.string ⟨b.toArray⟩)).drew) = w2 at R1 R2 R3 hx2 ⊢
  have H2 := Lib.hid R1
  have B2 := Lib.hid ((HB1.out.mono hbw).trans R2)
  have T2 := Lib.hid ((turned_below (F := IxFoot xb mp m0 m1 f) HB1.out).trans R3)
  clear R1 R2 R3 H1 HB1 hx hp1
  have hp2 : pb < w2.heap.size := (Array.getElem?_eq_some_iff.1 hx2).1
  obtain ⟨tp, htp⟩ : ∃ tp, (x.P (a, b)).getD (0, 0) = tp := ⟨_, rfl⟩
  obtain ⟨t1, t2⟩ := tp
  have hS : Hid (∀ X, Below w2.heap.size w2 X → X.cell? ⟨xb, 0, none⟩ = some (.map (some mp)) ∧ X.cell? ⟨pb, 0, none⟩ = some (.string ⟨a.toArray⟩) ∧ X.cell? ⟨pb, 1, none⟩ = some (.string ⟨b.toArray⟩) ∧ (Instr.lookup 51 (.map (some mp)) (.agg #[.string ⟨a.toArray⟩, .string ⟨b.toArray⟩]) false).run Try.prog X = .ok (.agg #[.int .i64 t1, .int .i64 t2]) X) := by
    show ∀ _, _
    intro X hX
    have h2 := H2.out.later hX
    have e := (hX.block pb hp2).trans hx2
    have hlk := h2.pairs.look (a, b) ⟨by simp; omega, by simp; omega⟩
    rw [show (IxRaw.mk2 x true k (a, b)).P = x.P from rfl, htp] at hlk
    exact ⟨h2.cells.1, by simp [World.cell?, e], by simp [World.cell?, e], hlk⟩
  go_wp2_with fail
  go_region_held (fun X => X.cell? ⟨xb, 0, none⟩ = some (.map (some mp)) ∧ X.cell? ⟨pb, 0, none⟩ = some (.string ⟨a.toArray⟩) ∧ X.cell? ⟨pb, 1, none⟩ = some (.string ⟨b.toArray⟩) ∧ (Instr.lookup 51 (.map (some mp)) (.agg #[.string ⟨a.toArray⟩, .string ⟨b.toArray⟩]) false).run Try.prog X = .ok (.agg #[.int .i64 t1, .int .i64 t2]) X) ((refine hS.out _ ?_; repeat (first | exact Below.refl _ _ | refine Below.drew ?_ | refine Below.alloc ?_ (by first | (simp; done) | (simp; omega) | omega) _ | refine Below.setCell ?_ (by first | (simp; done) | (simp; omega) | omega) _))) (fail)
  all_goals
    have hb3 : Below w2.heap.size w2 ((w2.alloc (.cells #[.int .i64 t1, .int .i64 t2] 59)).drew) := (bl_newZ w2 _).drew
    have hx3 : ((w2.alloc (.cells #[.int .i64 t1, .int .i64 t2] 59)).drew).heap[w2.heap.size]? = some (.cells #[.int .i64 t1, .int .i64 t2] 59 (0, 0)) := (MapKept.heap_alloc w2 _).1
    have hB3 := Lib.hid hb3
    have hxx := (hb3.block pb hp2).trans hx2
    have H3 := Lib.hid (H2.out.later hb3)
    have HF3 := Lib.hid (H2.out.far (Nat.le_refl _))
    have hne5 : ¬ pb = w2.heap.size := by omega
    have hxl2 := H2.out.lt
    have hne6 : ¬ xb = w2.heap.size := by omega
    have hb2w : base ≤ w2.heap.size := Nat.le_trans hbw B2.out.size
    clear hb3 hp2 hx2 hxl2
    generalize (w2.alloc (.cells #[.int .i64 t1, .int .i64 t2] 59)).drew = w3 at hx3 hB3 hxx H3 ⊢
    have hq3 : w2.heap.size < w3.heap.size := (Array.getElem?_eq_some_iff.1 hx3).1
    generalize hqb : w2.heap.size = qb at hx3 hq3 HF3 hne5 hne6 hb2w ⊢
    have p0 : w3.cell? ⟨qb, 0, none⟩ = some (.int .i64 t1) := by simp [World.cell?, hx3]
    have p1 : w3.cell? ⟨qb, 1, none⟩ = some (.int .i64 t2) := by simp [World.cell?, hx3]
    have g0 : w3.frozen? ⟨qb, 0, none⟩ = false := by simp [World.frozen?, hx3]
    have g1 : w3.frozen? ⟨qb, 1, none⟩ = false := by simp [World.frozen?, hx3]
    go_upto_region 4 with fail
    have hB4 : Hid (Below qb w2 (w3.setCell ⟨qb, 1, none⟩ (.int .i64 k))) := Lib.hid (Below.setCell (hB3.out.mono (show qb ≤ w2.heap.size by omega)) (Nat.le_refl _) _)
    have H4 := Lib.hid (H3.out.stay (w' := w3.setCell ⟨qb, 1, none⟩ (.int .i64 k)) fun b hb => RowKit.Below.heap_setCell _ _ _ _ (fun e => by have e : b = qb := e; subst e; exact HF3.out hb))
    have hx4 : (w3.setCell ⟨qb, 1, none⟩ (.int .i64 k)).heap[qb]? = some (.cells #[.int .i64 t1, .int .i64 k] 59 (0, 0)) := by
      have := heap_setCell_same w3 qb 1 _ _ (.int .i64 k) hx3
      simpa using this
    have hxx4 := (RowKit.Below.heap_setCell w3 ⟨qb, 1, none⟩ (.int .i64 k) pb hne5).trans hxx
    clear p0 p1 g0 g1 hx3 hxx
    generalize w3.setCell ⟨qb, 1, none⟩ (.int .i64 k) = w4 at hB4 H4 hx4 hxx4 ⊢
    obtain ⟨w5, hrun, hp5, hturn⟩ := (H4.out.pairs.kept (w' := w4.drew) rfl).put hN (a, b) ⟨by simp; omega, by simp; omega⟩ (t1, k)
    have hgrow := hturn.grown
    simp only [ikV, plV] at hrun
    have hS4 : ∀ X : World, X.heap[xb]? = w4.heap[xb]? → X.heap[pb]? = w4.heap[pb]? → X.heap[qb]? = w4.heap[qb]? → X.cell? ⟨xb, 0, none⟩ = some (.map (some mp)) ∧ X.cell? ⟨pb, 0, none⟩ = some (.string ⟨a.toArray⟩) ∧ X.cell? ⟨pb, 1, none⟩ = some (.string ⟨b.toArray⟩) ∧ X.cell? ⟨qb, 0, none⟩ = some (.int .i64 t1) ∧ X.cell? ⟨qb, 1, none⟩ = some (.int .i64 k) := by
      intro X h1 h2 h3
      rw [hxx4] at h2
      rw [hx4] at h3
      have h1 := h1.trans H4.out.blk
      unfold ixCells at h1
      refine ⟨?_, ?_, ?_, ?_, ?_⟩ <;> simp [World.cell?, h1, h2, h3]
    have e1 := hS4 w4.drew rfl rfl rfl
    have hnm : ∀ b, b < w4.heap.size → ¬ b = mp → w5.heap[b]? = w4.heap[b]? := fun b hb hn => hgrow.block b hb (fun e => hn (Option.some.inj e))
    have hmp4 := H4.out.pairs.lt
    have e2 := hS4 w5 (hnm xb H4.out.lt (H4.out.xmap (.inl rfl))) (hnm pb (Array.getElem?_eq_some_iff.1 hxx4).1 (fun e => HF.out (.inr (.inl e)))) (hnm qb (Array.getElem?_eq_some_iff.1 hx4).1 (fun e => HF3.out (.inr (.inl e))))
    go_region_held (fun X => X.cell? ⟨xb, 0, none⟩ = some (.map (some mp)) ∧ X.cell? ⟨pb, 0, none⟩ = some (.string ⟨a.toArray⟩) ∧ X.cell? ⟨pb, 1, none⟩ = some (.string ⟨b.toArray⟩) ∧ X.cell? ⟨qb, 0, none⟩ = some (.int .i64 t1) ∧ X.cell? ⟨qb, 1, none⟩ = some (.int .i64 k)) ((first | exact e1 | exact e2)) (fail)
    obtain ⟨R1, R2, R3⟩ := H4.out.setP (w' := w5) hp5 (Nat.le_succ N) ⟨hgrow.os, hgrow.tape, hgrow.output, hgrow.size, hgrow.block⟩
    have R1 := Lib.hid R1
    have HT5 : Hid (Turned w w5 (IxFoot xb mp m0 m1 f) (IxFoot xb mp m0 m1 f)) := (T2.out.trans (turned_below (by rw [hqb]; exact hB4.out))).trans R3
    have HB5 : Hid (Below base w w5) := (B2.out.trans ((hB4.out).mono hb2w)).trans R2
    have HX : Hid (({P := fun r => if r = (a, b) then some (t1, k) else x.P r, S := (IxRaw.mk2 x true k (a, b)).S} : Ix) = x.lay true k (a, b)) := by
      show _ = _
      unfold Ix.lay
      rw [htp]
      rfl
    clear hrun hp5 hturn hgrow e1 e2 hS4 hnm R2 R3
    go_end0
    exact ⟨rfl, HX.out ▸ R1.out, HB5.out, HT5.out⟩
end Go.Proofs.Ytlckphdmflofgaa
end

section
/-
  LAYER 13, THE CODE: the last pair off a list.
-/
namespace Go.Proofs.Ytlckphdmflofgaa
open Go.RowKit Go.ChangeMaps Go.MapKept

theorem grown_reflI (w : World) (r : Option Nat) : w.grownBy w r := ⟨rfl, rfl, rfl, Nat.le_refl _, fun _ _ _ => rfl⟩

theorem cut_S {w : World} {base xb N n : Nat} {x : Ix} {mp m0 m1 : Nat} {f : Bool → List UInt8 → Option IxSl} {s : Bool} {u : List UInt8} {l' : List Pr} (h : IxRaw w base xb N n ⟨x.P, fun t v => if t = s ∧ v = u then l' else x.S t v⟩ mp m0 m1 f) (hl : l' = (x.S s u).dropLast) : IxRaw w base xb N n (x.cut s u) mp m0 m1 f := by
  subst hl
  have e : (fun t v => if t = s ∧ v = u then (x.S s u).dropLast else x.S t v) = (x.cut s u).S := by
    funext t v
    show _ = if t = s ∧ v = u then (x.S t v).dropLast else x.S t v
    by_cases g : t = s ∧ v = u
    · rw [if_pos g, if_pos g, g.1, g.2]
    · rw [if_neg g, if_neg g]
  rw [e] at h
  exact h

theorem drop_len1 {α : Type} {l : List α} (h : l.length = 1) : [] = l.dropLast := by
  obtain ⟨a, rfl⟩ := List.length_eq_one_iff.1 h
  rfl

theorem drop_set {α : Type} {l : List α} {m : Nat} (h : l.length = m + 1) (z : α) : (l.set m z).take m = l.dropLast := by
  rw [List.take_set, List.dropLast_eq_take, h, Nat.add_sub_cancel]
  exact List.set_eq_of_length_le (by rw [List.length_take]; omega)

theorem drop_pos {α : Type} {l : List α} {m : Nat} (h : l.length = m + 1) (hm : 0 < m) : l.dropLast ≠ [] := by
  intro e
  have := congrArg List.length e
  rw [List.length_dropLast, h] at this
  simp at this
  omega

set_option maxHeartbeats 3200000 in
set_option maxRecDepth 100000 in
theorem ixshort_w {w : World} {base xb N n : Nat} {x : Ix} {mp m0 m1 : Nat} {f : Bool → List UInt8 → Option IxSl} (h : IxRaw w base xb N n x mp m0 m1 f) (hN : N ≤ 100000) (u : List UInt8) (hu : u.length ≤ 60) (hk : 0 < (x.S false u).length) (hl : (x.S false u).length ≤ 1000) :
    Calls Try.prog 50 #[.pointer (some ⟨xb, 0, none⟩), .int .i64 0, .string ⟨u.toArray⟩] w fun e w' =>
      ∃ f', e = .returned (.tuple #[]) ∧ IxRaw w' base xb (N + 1) n (x.cut false u) mp m0 m1 f' ∧ Below base w w' ∧ Turned w w' (IxFoot xb mp m0 m1 f) (IxFoot xb mp m0 m1 f') := by
  obtain ⟨sl, hsl⟩ : ∃ sl, f false u = some sl := by
    cases e : f false u with
    | some sl => exact ⟨sl, rfl⟩
    | none =>
      have := (h.nil false u).1 e
      rw [this] at hk
      simp at hk
  obtain ⟨c0, c1, c2⟩ := h.cells
  obtain ⟨q1, q2, q3, q4, q5, q6, -⟩ := h.row hsl
  rw [q1] at q4 q6
  obtain ⟨sg, sn, sc⟩ := sl
  simp only at q1 q2 q3 q4 q5 q6
  subst q1
  obtain ⟨m, hm⟩ : ∃ m, (x.S false u).length = m + 1 := ⟨_, (Nat.succ_pred_eq_of_pos hk).symm⟩
  have HO := Lib.hid q6
  have HQ0 : Hid (AllQ isStrV w 57 (.slice (some ⟨sg, 0, none⟩) (x.S false u).length sc)) := by
    have := h.str false u
    rw [hsl] at this
    exact this
  have hlook := (h.side false).look u (by omega)
  rw [hsl] at hlook
  simp only [ixslV, hm, sdOf, Bool.false_eq_true, if_false] at hlook
  have z0 := q6.frozenAt (m * 2)
  have z1 := q6.frozenAt (m * 2 + 1)
  have s0 := q6.row prOK (k := m) (by omega) 0 _ rfl
  have s1 := q6.row prOK (k := m) (by omega) 1 _ rfl
  simp only [Nat.add_zero] at s0
  have HM := Lib.hid hm
  have HL := Lib.hid hsl
  rw [hm] at hl q4
  have H := Lib.hid h
  have hcm : sc ≤ 9223372036854775807 := by unfold maxLen at q5; omega
  have hw : IntKind.i64.wrap ((m : Int) + 1 - 1) = m := by rw [Int.add_sub_cancel]; exact IntWalk.i64_in _ (by omega)
  have hmne : m0 ≠ sg := fun e => h.rmap hsl (.inr (.inl rfl)) e.symm
  have hxne : xb ≠ sg := fun e => h.rx hsl e.symm
  clear h hm hsl q6 hk
  go_enter Try.func50, Try.ntmps50
  by_cases hz : m = 0
  · have tz : ((m : Int) == 0) = true := by simp [hz]
    have tz2 : (m : Int) = 0 := by omega
    have HZ := Lib.hid hz
    clear hz
    obtain ⟨w5, hrun, hs5, ht5⟩ := (show SdMap w m0 N (f false) from H.out.side false).del u (by omega) 0
    have hg5 := ht5.grown
    obtain ⟨R1, R2, R3⟩ := H.out.turnS false u none (w1 := w) (w2 := w5) (grown_reflI _ _) (ownS_nil _ _) (allQ_nil _ _ _) ⟨fun _ => rfl, fun _ => rfl⟩ (fun _ e => by cases e) hs5 (Nat.le_refl _) hg5
    have R1 := Lib.hid ((cut_S R1 (drop_len1 (by rw [HM.out, HZ.out]))).more1)
    have R2 := Lib.hid R2
    have R3 := Lib.hid R3
    clear hs5 ht5 hg5 z0 z1 s0 s1
    go_wp2_with fail
    refine bodyPost_ret (results_none rfl _ _ _) rfl ?_
    exact ⟨_, rfl, R1.out, R2.out, R3.out⟩
  · have tz : ((m : Int) == 0) = false := by simp; omega
    have tz2 : ¬ (m : Int) = 0 := by omega
    have hpos : 0 < m := by omega
    have t0 : (0 : Int) ≤ (m : Int) := by omega
    have t1 : (m : Int) < (m : Int) + 1 := by omega
    go_upto_region 5 with fail
    have HG := grown_drew (grown_set2 w sg (m * 2) (.string ⟨#[]⟩) (.string ⟨#[]⟩))
    have HO2 : OwnS prVals 2 57 (((w.setCell ⟨sg, m * 2, none⟩ (.string ⟨#[]⟩)).setCell ⟨sg, m * 2 + 1, none⟩ (.string ⟨#[]⟩)).drew) base (.slice (some ⟨sg, 0, none⟩) (x.S false u).length sc) ((x.S false u).set m ([], [])) := OwnS.drew (ownS_set prOK HO.out (by rw [HM.out]; omega) ([], []))
    have HO3 := ownS_cut prOK HO2 (i := m) (by rw [List.length_set, HM.out]; omega)
    rw [drop_set HM.out] at HO3
    have hs2 : SdMap (((w.setCell ⟨sg, m * 2, none⟩ (.string ⟨#[]⟩)).setCell ⟨sg, m * 2 + 1, none⟩ (.string ⟨#[]⟩)).drew) m0 N (f false) := (show SdMap w m0 N (f false) from H.out.side false).kept (HG.block m0 (H.out.side false).lt (fun e => hmne (Option.some.inj e)))
    have hx2 := (HG.block xb H.out.lt (fun e => hxne (Option.some.inj e))).trans H.out.blk
    have HQ2 : AllQ isStrV ((w.setCell ⟨sg, m * 2, none⟩ (.string ⟨#[]⟩)).setCell ⟨sg, m * 2 + 1, none⟩ (.string ⟨#[]⟩)) 57 (ixslV (some ⟨sg, m, sc⟩)) := allQ_set (allQ_set HQ0.out (m * 2) ⟨_, rfl⟩ 0 0) (m * 2 + 1) ⟨_, rfl⟩ _ _
    clear z0 z1 s0 s1 c0 c1 c2 HO2 hlook
    show Code.wp _ _ _ _ ((w.setCell ⟨sg, m * 2, none⟩ (.string ⟨#[]⟩)).setCell ⟨sg, m * 2 + 1, none⟩ (.string ⟨#[]⟩))
    generalize hW2 : ((w.setCell ⟨sg, m * 2, none⟩ (.string ⟨#[]⟩)).setCell ⟨sg, m * 2 + 1, none⟩ (.string ⟨#[]⟩)) = W2 at HG HO3 hs2 hx2 HQ2 ⊢
    obtain ⟨w5, hrun, hs5, ht5⟩ := hs2.put hN u (by omega) (some ⟨sg, m, sc⟩)
    simp only [ixslV] at hrun
    have hg5 := ht5.grown
    have hS : ∀ X : World, X.heap[xb]? = some (.cells (ixCells mp m0 m1) 55 (0, 0)) → X.cell? ⟨xb, 1, none⟩ = some (.map (some m0)) := by
      intro X h1
      unfold ixCells at h1
      simp [World.cell?, h1]
    have e1 := hS W2.drew hx2
    have e2 := hS w5 ((hg5.block xb (Array.getElem?_eq_some_iff.1 hx2).1 (fun e => H.out.xmap (.inr (.inl rfl)) (Option.some.inj e))).trans hx2)
    obtain ⟨R1, R2, R3⟩ := H.out.turnS false u (some ⟨sg, m, sc⟩) (w1 := W2.drew) (w2 := w5) (by rw [HL.out]; exact HG) HO3 (allQ_drew HQ2) ⟨fun e => (by cases e), fun e => absurd e (drop_pos HM.out hpos)⟩ (fun a e => by cases e; exact .inl ⟨_, HL.out, rfl⟩) hs5 (Nat.le_succ N) hg5
    have R1 := Lib.hid (cut_S R1 rfl)
    have R2 := Lib.hid R2
    have R3 := Lib.hid R3
    clear hs5 ht5 hg5 HG HO3 hs2 hx2 hS hW2 HQ2
    go_wp2_with fail
    go_region_held (fun X => X.cell? ⟨xb, 1, none⟩ = some (.map (some m0))) ((first | exact e1 | exact e2)) (fail)
    go_end0
    exact ⟨_, rfl, R1.out, R2.out, R3.out⟩

set_option maxHeartbeats 3200000 in
set_option maxRecDepth 100000 in
theorem ixshort_c {w : World} {base xb N n : Nat} {x : Ix} {mp m0 m1 : Nat} {f : Bool → List UInt8 → Option IxSl} (h : IxRaw w base xb N n x mp m0 m1 f) (hN : N ≤ 100000) (u : List UInt8) (hu : u.length ≤ 60) (hk : 0 < (x.S true u).length) (hl : (x.S true u).length ≤ 1000) :
    Calls Try.prog 50 #[.pointer (some ⟨xb, 0, none⟩), .int .i64 1, .string ⟨u.toArray⟩] w fun e w' =>
      ∃ f', e = .returned (.tuple #[]) ∧ IxRaw w' base xb (N + 1) n (x.cut true u) mp m0 m1 f' ∧ Below base w w' ∧ Turned w w' (IxFoot xb mp m0 m1 f) (IxFoot xb mp m0 m1 f') := by
  obtain ⟨sl, hsl⟩ : ∃ sl, f true u = some sl := by
    cases e : f true u with
    | some sl => exact ⟨sl, rfl⟩
    | none =>
      have := (h.nil true u).1 e
      rw [this] at hk
      simp at hk
  obtain ⟨c0, c1, c2⟩ := h.cells
  obtain ⟨q1, q2, q3, q4, q5, q6, -⟩ := h.row hsl
  rw [q1] at q4 q6
  obtain ⟨sg, sn, sc⟩ := sl
  simp only at q1 q2 q3 q4 q5 q6
  subst q1
  obtain ⟨m, hm⟩ : ∃ m, (x.S true u).length = m + 1 := ⟨_, (Nat.succ_pred_eq_of_pos hk).symm⟩
  have HO := Lib.hid q6
  have HQ0 : Hid (AllQ isStrV w 57 (.slice (some ⟨sg, 0, none⟩) (x.S true u).length sc)) := by
    have := h.str true u
    rw [hsl] at this
    exact this
  have hlook := (h.side true).look u (by omega)
  rw [hsl] at hlook
  simp only [ixslV, hm, sdOf, if_true] at hlook
  have z0 := q6.frozenAt (m * 2)
  have z1 := q6.frozenAt (m * 2 + 1)
  have s0 := q6.row prOK (k := m) (by omega) 0 _ rfl
  have s1 := q6.row prOK (k := m) (by omega) 1 _ rfl
  simp only [Nat.add_zero] at s0
  have HM := Lib.hid hm
  have HL := Lib.hid hsl
  rw [hm] at hl q4
  have H := Lib.hid h
  have hcm : sc ≤ 9223372036854775807 := by unfold maxLen at q5; omega
  have hw : IntKind.i64.wrap ((m : Int) + 1 - 1) = m := by rw [Int.add_sub_cancel]; exact IntWalk.i64_in _ (by omega)
  have hmne : m1 ≠ sg := fun e => h.rmap hsl (.inr (.inr rfl)) e.symm
  have hxne : xb ≠ sg := fun e => h.rx hsl e.symm
  clear h hm hsl q6 hk
  go_enter Try.func50, Try.ntmps50
  by_cases hz : m = 0
  · have tz : ((m : Int) == 0) = true := by simp [hz]
    have tz2 : (m : Int) = 0 := by omega
    have HZ := Lib.hid hz
    clear hz
    obtain ⟨w5, hrun, hs5, ht5⟩ := (show SdMap w m1 N (f true) from H.out.side true).del u (by omega) 0
    have hg5 := ht5.grown
    obtain ⟨R1, R2, R3⟩ := H.out.turnS true u none (w1 := w) (w2 := w5) (grown_reflI _ _) (ownS_nil _ _) (allQ_nil _ _ _) ⟨fun _ => rfl, fun _ => rfl⟩ (fun _ e => by cases e) hs5 (Nat.le_refl _) hg5
    have R1 := Lib.hid ((cut_S R1 (drop_len1 (by rw [HM.out, HZ.out]))).more1)
    have R2 := Lib.hid R2
    have R3 := Lib.hid R3
    clear hs5 ht5 hg5 z0 z1 s0 s1
    go_wp2_with fail
    refine bodyPost_ret (results_none rfl _ _ _) rfl ?_
    exact ⟨_, rfl, R1.out, R2.out, R3.out⟩
  · have tz : ((m : Int) == 0) = false := by simp; omega
    have tz2 : ¬ (m : Int) = 0 := by omega
    have hpos : 0 < m := by omega
    have t0 : (0 : Int) ≤ (m : Int) := by omega
    have t1 : (m : Int) < (m : Int) + 1 := by omega
    go_upto_region 5 with fail
    have HG := grown_drew (grown_set2 w sg (m * 2) (.string ⟨#[]⟩) (.string ⟨#[]⟩))
    have HO2 : OwnS prVals 2 57 (((w.setCell ⟨sg, m * 2, none⟩ (.string ⟨#[]⟩)).setCell ⟨sg, m * 2 + 1, none⟩ (.string ⟨#[]⟩)).drew) base (.slice (some ⟨sg, 0, none⟩) (x.S true u).length sc) ((x.S true u).set m ([], [])) := OwnS.drew (ownS_set prOK HO.out (by rw [HM.out]; omega) ([], []))
    have HO3 := ownS_cut prOK HO2 (i := m) (by rw [List.length_set, HM.out]; omega)
    rw [drop_set HM.out] at HO3
    have hs2 : SdMap (((w.setCell ⟨sg, m * 2, none⟩ (.string ⟨#[]⟩)).setCell ⟨sg, m * 2 + 1, none⟩ (.string ⟨#[]⟩)).drew) m1 N (f true) := (show SdMap w m1 N (f true) from H.out.side true).kept (HG.block m1 (H.out.side true).lt (fun e => hmne (Option.some.inj e)))
    have hx2 := (HG.block xb H.out.lt (fun e => hxne (Option.some.inj e))).trans H.out.blk
    have HQ2 : AllQ isStrV ((w.setCell ⟨sg, m * 2, none⟩ (.string ⟨#[]⟩)).setCell ⟨sg, m * 2 + 1, none⟩ (.string ⟨#[]⟩)) 57 (ixslV (some ⟨sg, m, sc⟩)) := allQ_set (allQ_set HQ0.out (m * 2) ⟨_, rfl⟩ 0 0) (m * 2 + 1) ⟨_, rfl⟩ _ _
    clear z0 z1 s0 s1 c0 c1 c2 HO2 hlook
    show Code.wp _ _ _ _ ((w.setCell ⟨sg, m * 2, none⟩ (.string ⟨#[]⟩)).setCell ⟨sg, m * 2 + 1, none⟩ (.string ⟨#[]⟩))
    generalize hW2 : ((w.setCell ⟨sg, m * 2, none⟩ (.string ⟨#[]⟩)).setCell ⟨sg, m * 2 + 1, none⟩ (.string ⟨#[]⟩)) = W2 at HG HO3 hs2 hx2 HQ2 ⊢
    obtain ⟨w5, hrun, hs5, ht5⟩ := hs2.put hN u (by omega) (some ⟨sg, m, sc⟩)
    simp only [ixslV] at hrun
    have hg5 := ht5.grown
    have hS : ∀ X : World, X.heap[xb]? = some (.cells (ixCells mp m0 m1) 55 (0, 0)) → X.cell? ⟨xb, 2, none⟩ = some (.map (some m1)) := by
      intro X h1
      unfold ixCells at h1
      simp [World.cell?, h1]
    have e1 := hS W2.drew hx2
    have e2 := hS w5 ((hg5.block xb (Array.getElem?_eq_some_iff.1 hx2).1 (fun e => H.out.xmap (.inr (.inr rfl)) (Option.some.inj e))).trans hx2)
    obtain ⟨R1, R2, R3⟩ := H.out.turnS true u (some ⟨sg, m, sc⟩) (w1 := W2.drew) (w2 := w5) (by rw [HL.out]; exact HG) HO3 (allQ_drew HQ2) ⟨fun e => (by cases e), fun e => absurd e (drop_pos HM.out hpos)⟩ (fun a e => by cases e; exact .inl ⟨_, HL.out, rfl⟩) hs5 (Nat.le_succ N) hg5
    have R1 := Lib.hid (cut_S R1 rfl)
    have R2 := Lib.hid R2
    have R3 := Lib.hid R3
    clear hs5 ht5 hg5 HG HO3 hs2 hx2 hS hW2 HQ2
    go_wp2_with fail
    go_region_held (fun X => X.cell? ⟨xb, 2, none⟩ = some (.map (some m1))) ((first | exact e1 | exact e2)) (fail)
    go_end0
    exact ⟨_, rfl, R1.out, R2.out, R3.out⟩

end Go.Proofs.Ytlckphdmflofgaa
end
