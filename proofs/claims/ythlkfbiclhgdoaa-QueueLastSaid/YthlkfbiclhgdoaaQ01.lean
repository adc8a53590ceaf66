/-
  TEXTS OF THE PROOF, one behind the other: VarPure, IdPure, ValPure, DigPure, QuePure, Kit, VarPut, VarGet, VarRget, VarTake, DigRow, Shelf, IdCmp, IdIs.
-/
import Derived.Lib.Bytealg
import Derived.Sort.Statements
import Derived.Shelf.SlSortCmp.Insertion
import Derived.Lib.SlicesCompact
import Derived.WalkKit
import Derived.BigQuiet
import Derived.Lib.QuietBelow
import Derived.Test.YthlkfbiclhgdoaaRows
import Derived.Deep.DeepMust
import Derived.Lib.Hide
import Derived.Laws.StructEq
import Derived.Laws.AppendOwnNone
import Derived.Laws.OwnMore
import Derived.Shelf.Strings.Builder1
import Derived.Shelf.Small.Bits
import Derived.Shelf.Small.Strs
import Derived.Shelf.Small.Wraps
import Derived.Shelf.Strings.BuilderF
import Derived.Shelf.Strings.BuilderK
import Derived.Shelf.Strings.BuilderRune
import Derived.Shelf.Slices.CompactS
import Derived.Shelf.SlicesE.Compact
import Derived.Shelf.SlSortCmp.SiftDown1
import Derived.Shelf.SlSortCmp.HeapSort1
import Derived.Shelf.SlSortCmp.Insertion1
import Derived.Shelf.SlSortCmp.Median1
import Derived.Shelf.SlSortCmp.Pivot1
import Derived.Shelf.SlSortCmp.ReverseRange1
import Derived.Shelf.SlSortCmp.PartialInsertion1
import Derived.Shelf.SlSortCmp.PartitionEqual1
import Derived.Shelf.SlSortCmp.Partition1
import Derived.Shelf.SlSortCmp.Pdq1
import Derived.Shelf.SlSortCmp.Whole1
import Derived.Shelf.SlSortCmp.NoneTotal
import Derived.Lib.OthersKept

section

/-
  PLAIN MATHEMATICS OF LAYER 1 (varint): numbers in sevens of bits, and how they are read. No program in sight.
-/
namespace Go.Proofs.Ythlkfbiclhgdoaa

/-- A number's byte: a name that no rule of the walk takes apart. -/
def u8of (n : Nat) : UInt8 := UInt8.ofNat n

/-- The bytes of n, with fuel k. -/
def vputF : Nat → Nat → List UInt8
  | 0, n => [u8of n]
  | k + 1, n => if n < 128 then [u8of n] else u8of (n % 128 + 128) :: vputF k (n / 128)

/-- The bytes of n (below 2^64). -/
def vput (n : Nat) : List UInt8 := vputF 9 n

/-- What stands at a list's head, as the byte of index i of a number: the number, how many bytes it takes, and the error (0, 2, 3). -/
def vgetF (i : Nat) : List UInt8 → Nat × Nat × Nat
  | [] => (0, 0, 2)
  | b :: r =>
    if i = 9 ∧ 1 < b.toNat then (0, 0, 3)
    else if b.toNat < 128 then (if b.toNat = 0 ∧ 0 < i then (0, 0, 3) else (b.toNat, 1, 0))
    else
      if (vgetF (i + 1) r).2.2 = 0 then (b.toNat % 128 + 128 * (vgetF (i + 1) r).1, (vgetF (i + 1) r).2.1 + 1, 0)
      else (0, 0, (vgetF (i + 1) r).2.2)

/-- The number at a place of bytes: number, place behind it, error. -/
def vget (s : List UInt8) (at' : Int) : Nat × Nat × Nat :=
  if at' < 0 ∨ (s.length : Int) < at' then (0, 0, 1)
  else
    if (vgetF 0 (s.drop at'.toNat)).2.2 = 0 then ((vgetF 0 (s.drop at'.toNat)).1, at'.toNat + (vgetF 0 (s.drop at'.toNat)).2.1, 0)
    else (0, 0, (vgetF 0 (s.drop at'.toNat)).2.2)

/-- What is read so far, and what is still to be read, put together. -/
def comb (i acc : Nat) (r : Nat × Nat × Nat) : Nat × Nat × Nat := if r.2.2 = 0 then (acc + 128 ^ i * r.1, i + r.2.1, 0) else (0, 0, r.2.2)

/-- Where a reading of the number at q stands: byte i, at p; so far: acc. -/
def GetAt (l : List UInt8) (q i acc p sh : Nat) : Prop := acc < 128 ^ i ∧ p = q + i ∧ sh = 7 * i ∧ comb i acc (vgetF i (l.drop p)) = vgetF 0 (l.drop q)

/-- The text behind its length, at a place of bytes: text, place behind it, error. -/
def vtake (l : List UInt8) (p most : Int) : List UInt8 × Nat × Nat :=
  if (vget l p).2.2 ≠ 0 then ([], 0, (vget l p).2.2)
  else if most < 0 ∨ most < ((vget l p).1 : Int) then ([], 0, 3)
  else if l.length - (vget l p).2.1 < (vget l p).1 then ([], 0, 2)
  else ((l.drop (vget l p).2.1).take (vget l p).1, (vget l p).2.1 + (vget l p).1, 0)

/-- Numbers, one behind the other. -/
def vflat (l : List Nat) : List UInt8 := (l.map vput).flatten

/-- Texts behind their lengths, one behind the other. -/
def tflat (l : List (List UInt8)) : List UInt8 := (l.map fun t => vput t.length ++ t).flatten

end Go.Proofs.Ythlkfbiclhgdoaa

end

section

/-
  PLAIN MATHEMATICS OF LAYER 3 (ident): what a name is, its folding, the order of names, lists merged. No program in sight.
-/
namespace Go.Proofs.Ythlkfbiclhgdoaa
open Go.Lib Go.Sort

/-! ### Names -/

def lcOk (b : UInt8) : Bool := decide (97 ≤ b.toNat) && decide (b.toNat ≤ 122)
def dgOk (b : UInt8) : Bool := (decide (48 ≤ b.toNat) && decide (b.toNat ≤ 57)) || decide (b.toNat = 45)
def inOk (b : UInt8) : Bool := lcOk b || dgOk b

def idIs (l : List UInt8) : Bool := decide (1 ≤ l.length) && (decide (l.length ≤ 16) && (lcOk (l.getD 0 0) && l.all inOk))

def low1 (b : UInt8) : UInt8 := if 65 ≤ b.toNat ∧ b.toNat ≤ 90 then u8of (b.toNat + 32) else b
def idLow (l : List UInt8) : List UInt8 := l.map low1

def idFold (l : List UInt8) : List UInt8 × Bool := if idIs (idLow l) = true then (idLow l, true) else ([], false)
def idPut (l : List UInt8) : List UInt8 × Bool := if idIs l = true then (vput l.length ++ l, true) else ([], false)
def idTake (l : List UInt8) (p : Int) : List UInt8 × Nat × Nat :=
  if (vtake l p 16).2.2 ≠ 0 then ([], 0, (vtake l p 16).2.2) else if idIs (vtake l p 16).1 = true then vtake l p 16 else ([], 0, 3)

theorem inOk_lt {b : UInt8} (h : inOk b = true) : b.toNat < 128 := by
  simp [inOk, lcOk, dgOk] at h
  omega

theorem idIs_parts {l : List UInt8} (h : idIs l = true) : 1 ≤ l.length ∧ l.length ≤ 16 ∧ lcOk (l.getD 0 0) = true ∧ l.all inOk = true := by
  unfold idIs at h
  simp only [Bool.and_eq_true, decide_eq_true_eq] at h
  exact ⟨h.1, h.2.1, h.2.2.1, h.2.2.2⟩

theorem idIs_mk {l : List UInt8} (h1 : 1 ≤ l.length) (h2 : l.length ≤ 16) (h3 : lcOk (l.getD 0 0) = true) (h4 : l.all inOk = true) : idIs l = true := by
  unfold idIs
  simp only [Bool.and_eq_true, decide_eq_true_eq]
  exact ⟨h1, h2, h3, h4⟩

theorem idIs_long {l : List UInt8} (h : 16 < l.length) : idIs l = false := by
  rw [Bool.eq_false_iff]
  intro h'
  have := (idIs_parts h').2.1
  omega

/-- A byte that no name has. -/
theorem idIs_high {l : List UInt8} {b : UInt8} (hb : b ∈ l) (h : 128 ≤ b.toNat) : idIs l = false := by
  rw [Bool.eq_false_iff]
  intro h'
  have := inOk_lt (List.all_eq_true.1 (idIs_parts h').2.2.2 b hb)
  omega

/-! ### The order of names -/

def idCmp (a b : List UInt8) : Int := if a.length < b.length then -1 else if b.length < a.length then 1 else compareBytes a b

def idLess (a b : List UInt8) : Bool := decide (idCmp a b < 0)

theorem cb_swap : ∀ a b : List UInt8, compareBytes b a = - compareBytes a b
  | [], [] => rfl
  | [], _ :: _ => rfl
  | _ :: _, [] => rfl
  | a :: xs, b :: ys => by
    unfold compareBytes
    by_cases h1 : a < b
    · have h2 : ¬ b < a := fun h => by rw [UInt8.lt_iff_toNat_lt] at *; omega
      rw [if_pos h1, if_neg h2, if_pos h1]; rfl
    · rw [if_neg h1]
      by_cases h2 : b < a
      · rw [if_pos h2, if_neg h1, if_pos h2]
      · rw [if_neg h2, if_neg h2, if_neg h1]
        exact cb_swap xs ys

theorem cb_zero : ∀ {a b : List UInt8}, compareBytes a b = 0 → a = b
  | [], [], _ => rfl
  | [], _ :: _, h => by simp [compareBytes] at h
  | _ :: _, [], h => by simp [compareBytes] at h
  | a :: xs, b :: ys, h => by
    unfold compareBytes at h
    by_cases h1 : a < b
    · rw [if_pos h1] at h; simp at h
    · rw [if_neg h1] at h
      by_cases h2 : b < a
      · rw [if_pos h2] at h; simp at h
      · rw [if_neg h2] at h
        have e : a = b := by
          rw [UInt8.lt_iff_toNat_lt] at h1 h2
          exact UInt8.toNat_inj.1 (by omega)
        rw [e, cb_zero h]

theorem cb_self : ∀ a : List UInt8, compareBytes a a = 0
  | [] => rfl
  | a :: xs => by
    unfold compareBytes
    have h : ¬ a < a := fun h => by rw [UInt8.lt_iff_toNat_lt] at h; omega
    rw [if_neg h, if_neg h]
    exact cb_self xs

theorem cb_trans : ∀ {a b c : List UInt8}, compareBytes a b ≤ 0 → compareBytes b c ≤ 0 → compareBytes a c ≤ 0 ∧ (compareBytes a b < 0 ∨ compareBytes b c < 0 → compareBytes a c < 0)
  | [], [], c, _, h2 => ⟨h2, fun h => by
      rcases h with h | h
      · simp [compareBytes] at h
      · exact h⟩
  | [], _ :: _, [], _, h2 => by simp [compareBytes] at h2
  | [], _ :: _, _ :: _, _, _ => by simp [compareBytes]
  | _ :: _, [], _, h1, _ => by simp [compareBytes] at h1
  | _ :: _, _ :: _, [], _, h2 => by simp [compareBytes] at h2
  | a :: xs, b :: ys, c :: zs, h1, h2 => by
    unfold compareBytes at h1 h2 ⊢
    simp only [UInt8.lt_iff_toNat_lt] at h1 h2 ⊢
    by_cases p1 : a.toNat < b.toNat
    · by_cases p2 : b.toNat < c.toNat
      · rw [if_pos (show a.toNat < c.toNat by omega)]; simp
      · rw [if_neg p2] at h2
        by_cases p3 : c.toNat < b.toNat
        · rw [if_pos p3] at h2; simp at h2
        · rw [if_pos (show a.toNat < c.toNat by omega)]; simp
    · rw [if_neg p1] at h1 ⊢
      by_cases p2 : b.toNat < a.toNat
      · rw [if_pos p2] at h1; simp at h1
      · rw [if_neg p2] at h1 ⊢
        by_cases p3 : b.toNat < c.toNat
        · rw [if_pos (show a.toNat < c.toNat by omega)]; simp
        · rw [if_neg p3] at h2 ⊢
          by_cases p4 : c.toNat < b.toNat
          · rw [if_pos p4] at h2; simp at h2
          · rw [if_neg p4] at h2 ⊢
            rw [if_neg (show ¬ a.toNat < c.toNat by omega), if_neg (show ¬ c.toNat < a.toNat by omega)]
            exact cb_trans h1 h2

theorem idCmp_swap (a b : List UInt8) : idCmp b a = - idCmp a b := by
  unfold idCmp
  by_cases h1 : a.length < b.length
  · rw [if_neg (by omega), if_pos h1, if_pos h1]; rfl
  · by_cases h2 : b.length < a.length
    · rw [if_pos h2, if_neg h1, if_pos h2]
    · rw [if_neg h2, if_neg h1, if_neg h1, if_neg h2]
      exact cb_swap a b

theorem idCmp_zero {a b : List UInt8} (h : idCmp a b = 0) : a = b := by
  unfold idCmp at h
  by_cases h1 : a.length < b.length
  · rw [if_pos h1] at h; simp at h
  · rw [if_neg h1] at h
    by_cases h2 : b.length < a.length
    · rw [if_pos h2] at h; simp at h
    · rw [if_neg h2] at h
      exact cb_zero h

theorem idCmp_self (a : List UInt8) : idCmp a a = 0 := by
  unfold idCmp
  rw [if_neg (by omega), if_neg (by omega)]
  exact cb_self a

theorem idCmp_trans {a b c : List UInt8} (h1 : idCmp a b ≤ 0) (h2 : idCmp b c ≤ 0) : idCmp a c ≤ 0 ∧ (idCmp a b < 0 ∨ idCmp b c < 0 → idCmp a c < 0) := by
  unfold idCmp at h1 h2 ⊢
  by_cases p1 : a.length < b.length
  · by_cases p3 : c.length < b.length
    · rw [if_neg (by omega), if_pos p3] at h2; simp at h2
    · rw [if_pos (show a.length < c.length by omega)]; simp
  · rw [if_neg p1] at h1 ⊢
    by_cases p2 : b.length < a.length
    · rw [if_pos p2] at h1; simp at h1
    · rw [if_neg p2] at h1 ⊢
      by_cases p3 : b.length < c.length
      · rw [if_pos (show a.length < c.length by omega)]; simp
      · rw [if_neg p3] at h2 ⊢
        by_cases p4 : c.length < b.length
        · rw [if_pos p4] at h2; simp at h2
        · rw [if_neg p4] at h2 ⊢
          rw [if_neg (show ¬ a.length < c.length by omega), if_neg (show ¬ c.length < a.length by omega)]
          exact cb_trans h1 h2

theorem idLess_trans {a b c : List UInt8} (h1 : idLess a b = true) (h2 : idLess b c = true) : idLess a c = true := by
  unfold idLess at *
  simp only [decide_eq_true_eq] at *
  exact (idCmp_trans (by omega) (by omega)).2 (.inl h1)

theorem idLess_irrefl (a : List UInt8) : idLess a a = false := by
  unfold idLess
  rw [idCmp_self]
  rfl

/-- Just one of the three. -/
theorem idLess_tri (a b : List UInt8) : (idLess a b = true ∧ idLess b a = false ∧ ¬ a = b) ∨ (idLess a b = false ∧ idLess b a = true ∧ ¬ a = b) ∨ (idLess a b = false ∧ idLess b a = false ∧ a = b) := by
  have hs := idCmp_swap a b
  by_cases h0 : idCmp a b = 0
  · have e := idCmp_zero h0
    subst e
    exact .inr (.inr ⟨idLess_irrefl _, idLess_irrefl _, rfl⟩)
  · have hne : ¬ a = b := fun e => h0 (by rw [e]; exact idCmp_self b)
    unfold idLess
    by_cases h : idCmp a b < 0
    · exact .inl ⟨by simpa using h, by simp; omega, hne⟩
    · exact .inr (.inl ⟨by simpa using h, by simp; omega, hne⟩)

theorem idSWO : SWO (ltOf idCmp) where
  irrefl x := idLess_irrefl x
  trans x y z h1 h2 := idLess_trans h1 h2
  ntrans x y z h1 h2 := by
    unfold ltOf at *
    have s1 := idCmp_swap x y
    have s2 := idCmp_swap y z
    have s3 := idCmp_swap x z
    simp only [decide_eq_false_iff_not] at *
    have := (idCmp_trans (a := z) (b := y) (c := x) (by omega) (by omega)).1
    omega

theorem idTot (x y : List UInt8) (h1 : ltOf idCmp x y = false) (h2 : ltOf idCmp y x = false) : x = y := by
  have s := idCmp_swap x y
  unfold ltOf at h1 h2
  simp only [decide_eq_false_iff_not] at h1 h2
  exact idCmp_zero (by omega)

/-- The document's own word for it. -/
theorem bytesLess_cb : ∀ a b : List UInt8, Op.bytesLess a b = decide (compareBytes a b < 0)
  | [], [] => rfl
  | [], _ :: _ => rfl
  | _ :: _, [] => rfl
  | a :: xs, b :: ys => by
    unfold Op.bytesLess compareBytes
    by_cases h1 : a < b
    · simp [h1]
    · by_cases h2 : b < a
      · have : ¬ a = b := fun e => h1 (by rw [e] at h2 ⊢; exact h2)
        simp [h1, h2, this]
      · have e : a = b := by
          rw [UInt8.lt_iff_toNat_lt] at h1 h2
          exact UInt8.toNat_inj.1 (by omega)
        rw [if_neg h1, if_neg h2]
        subst e
        simp [bytesLess_cb xs ys]

theorem idLess_doc (a b : List UInt8) : idLess a b = (decide (a.length < b.length) || (decide (a.length = b.length) && Op.bytesLess a b)) := by
  unfold idLess idCmp
  rw [bytesLess_cb]
  by_cases h1 : a.length < b.length
  · simp [h1]
  · by_cases h2 : b.length < a.length
    · have : ¬ a.length = b.length := by omega
      rw [if_neg h1, if_pos h2]
      simp [h1, this]
    · have : a.length = b.length := by omega
      rw [if_neg h1, if_neg h2]
      simp [this]

/-! ### Lists merged -/

/-- By Less, each once. -/
def Rising (l : List (List UInt8)) : Prop := l.Pairwise fun x y => idLess x y = true

theorem rising_unique : ∀ {a b : List (List UInt8)}, Rising a → Rising b → (∀ x, x ∈ a ↔ x ∈ b) → a = b
  | [], [], _, _, _ => rfl
  | [], y :: b, _, _, h => by have := (h y).2 (by simp); simp at this
  | x :: a, [], _, _, h => by have := (h x).1 (by simp); simp at this
  | x :: a, y :: b, ha, hb, h => by
    obtain ⟨ha1, ha2⟩ := List.pairwise_cons.1 ha
    obtain ⟨hb1, hb2⟩ := List.pairwise_cons.1 hb
    have e : x = y := by
      have h1 := (h x).1 (by simp)
      have h2 := (h y).2 (by simp)
      rcases List.mem_cons.1 h1 with e | h1
      · exact e
      · rcases List.mem_cons.1 h2 with e | h2
        · exact e.symm
        · have p := hb1 x h1
          have q := ha1 y h2
          have := idLess_trans p q
          rw [idLess_irrefl] at this
          cases this
    subst e
    have hx : ∀ {l : List (List UInt8)}, (∀ z ∈ l, idLess x z = true) → x ∉ l := fun hl hm => by
      have := hl x hm
      rw [idLess_irrefl] at this
      cases this
    have : a = b := rising_unique ha2 hb2 (fun z => by
      have hz := h z
      simp only [List.mem_cons] at hz
      constructor
      · intro hm
        rcases hz.1 (.inr hm) with e | h'
        · subst e; exact absurd hm (hx ha1)
        · exact h'
      · intro hm
        rcases hz.2 (.inr hm) with e | h'
        · subst e; exact absurd hm (hx hb1)
        · exact h')
    rw [this]

/-- A text laid into a list by Less, once. -/
def ins (x : List UInt8) : List (List UInt8) → List (List UInt8)
  | [] => [x]
  | y :: l => if idLess y x = true then y :: ins x l else if y = x then y :: l else x :: y :: l

def mrg (a : List (List UInt8)) : List (List UInt8) := a.foldl (fun out x => ins x out) []

theorem ins_mem (x z : List UInt8) : ∀ l, z ∈ ins x l ↔ z = x ∨ z ∈ l
  | [] => by simp [ins]
  | y :: l => by
    unfold ins
    by_cases h : idLess y x = true
    · rw [if_pos h]
      simp only [List.mem_cons, ins_mem x z l]
      constructor
      · rintro (h | h | h) <;> simp [h]
      · rintro (h | h | h) <;> simp [h]
    · rw [if_neg h]
      by_cases e : y = x
      · rw [if_pos e]
        subst e
        simp only [List.mem_cons]
        constructor
        · intro h; exact .inr h
        · rintro (h | h)
          · exact .inl h
          · exact h
      · rw [if_neg e]
        simp only [List.mem_cons]

theorem ins_rising (x : List UInt8) : ∀ l, Rising l → Rising (ins x l)
  | [], _ => by simp [ins, Rising]
  | y :: l, h => by
    obtain ⟨h1, h2⟩ := List.pairwise_cons.1 h
    unfold ins
    by_cases hl : idLess y x = true
    · rw [if_pos hl]
      refine List.pairwise_cons.2 ⟨fun z hz => ?_, ins_rising x l h2⟩
      rcases (ins_mem x z l).1 hz with e | hz
      · subst e; exact hl
      · exact h1 z hz
    · rw [if_neg hl]
      by_cases e : y = x
      · rw [if_pos e]; exact h
      · rw [if_neg e]
        have hxy : idLess x y = true := by
          rcases idLess_tri y x with ⟨p, _, _⟩ | ⟨_, p, _⟩ | ⟨_, _, p⟩
          · exact absurd p hl
          · exact p
          · exact absurd p e
        refine List.pairwise_cons.2 ⟨fun z hz => ?_, h⟩
        rcases List.mem_cons.1 hz with e | hz
        · subst e; exact hxy
        · exact idLess_trans hxy (h1 z hz)

theorem foldl_ins (l : List (List UInt8)) : ∀ acc, Rising acc → Rising (l.foldl (fun out x => ins x out) acc) ∧ ∀ z, z ∈ l.foldl (fun out x => ins x out) acc ↔ z ∈ acc ∨ z ∈ l := by
  induction l with
  | nil => intro acc h; exact ⟨h, fun z => by simp⟩
  | cons x l ih =>
    intro acc h
    have := ih (ins x acc) (ins_rising x acc h)
    refine ⟨this.1, fun z => ?_⟩
    rw [List.foldl_cons, this.2 z, ins_mem]
    simp only [List.mem_cons]
    constructor
    · rintro ((h | h) | h) <;> simp [h]
    · rintro (h | h | h) <;> simp [h]

theorem mrg_rising (l : List (List UInt8)) : Rising (mrg l) := (foldl_ins l [] (by simp [Rising])).1
theorem mrg_mem (l : List (List UInt8)) (z : List UInt8) : z ∈ mrg l ↔ z ∈ l := by
  have := (foldl_ins l [] (by simp [Rising])).2 z
  unfold mrg
  simpa using this

theorem mrg_unique {a l : List (List UInt8)} (h : Rising a) (hm : ∀ x, x ∈ a ↔ x ∈ l) : a = mrg l := rising_unique h (mrg_rising l) (fun x => (hm x).trans (mrg_mem l x).symm)

/-- A list of texts, none ahead of the one that it stands behind: each once. -/
theorem compact_rising (d : Array (List UInt8)) (hs : d.toList.Pairwise fun x y => idLess y x = false) : Rising (compactUpTo d d.size) ∧ ∀ x, x ∈ compactUpTo d d.size ↔ x ∈ d.toList := by
  have key : ∀ m, m ≤ d.size → Rising (compactUpTo d m) ∧ (∀ x, x ∈ compactUpTo d m ↔ ∃ j, j < m ∧ d[j]! = x) := by
    intro m
    induction m with
    | zero => intro _; exact ⟨by simp [compactUpTo, Rising], fun x => by simp [compactUpTo]⟩
    | succ m ih =>
      intro hm
      obtain ⟨h1, h2⟩ := ih (by omega)
      have e : compactUpTo d (m + 1) = compactUpTo d m ++ if keeps d m = true then [d[m]!] else [] := by
        unfold compactUpTo
        rw [List.range_succ, List.filter_append, List.map_append]
        by_cases hk : keeps d m = true <;> simp [hk]
      have hle : ∀ i j, i ≤ j → j < d.size → idLess d[j]! d[i]! = false := by
        intro i j hij hj
        by_cases e : i = j
        · subst e; exact idLess_irrefl _
        · have := List.pairwise_iff_getElem.1 hs i j (by simpa using (by omega : i < d.size)) (by simpa using hj) (by omega)
          rw [getElem!_pos d i (by omega), getElem!_pos d j hj]
          simpa using this
      by_cases hk : keeps d m = true
      · rw [e, if_pos hk]
        have hlt : ∀ i, i < m → idLess d[i]! d[m]! = true := by
          intro i hi
          have hm0 : ¬ m = 0 := by omega
          have hne : d[m]! ≠ d[m - 1]! := by
            unfold keeps at hk
            simp only [decide_eq_true_eq] at hk
            rcases hk with h | h
            · exact absurd h hm0
            · exact h
          have a := hle i (m - 1) (by omega) (by omega)
          have b := hle (m - 1) m (by omega) (by omega)
          have c := hle i m (by omega) (by omega)
          rcases idLess_tri d[i]! d[m]! with ⟨p, _, _⟩ | ⟨_, p, _⟩ | ⟨_, _, p⟩
          · exact p
          · rw [c] at p; cases p
          · exfalso
            rcases idLess_tri d[m - 1]! d[m]! with ⟨q, _, _⟩ | ⟨_, q, _⟩ | ⟨_, _, q⟩
            · rw [← p, a] at q; cases q
            · rw [b] at q; cases q
            · exact hne q.symm
        refine ⟨List.pairwise_append.2 ⟨h1, by simp, fun x hx y hy => ?_⟩, fun x => ?_⟩
        · obtain ⟨j, hj, rfl⟩ := (h2 x).1 hx
          simp only [List.mem_singleton] at hy
          subst hy
          exact hlt j hj
        · rw [List.mem_append, h2 x]
          simp only [List.mem_singleton]
          constructor
          · rintro (⟨j, hj, h⟩ | h)
            · exact ⟨j, by omega, h⟩
            · exact ⟨m, by omega, h.symm⟩
          · rintro ⟨j, hj, h⟩
            by_cases hjm : j = m
            · subst hjm; exact .inr h.symm
            · exact .inl ⟨j, by omega, h⟩
      · rw [e, if_neg hk, List.append_nil]
        refine ⟨h1, fun x => ?_⟩
        rw [h2 x]
        have hm0 : ¬ m = 0 ∧ d[m]! = d[m - 1]! := by
          unfold keeps at hk
          simp only [decide_eq_true_eq, not_or, ne_eq, Decidable.not_not] at hk
          exact hk
        constructor
        · rintro ⟨j, hj, h⟩
          exact ⟨j, by omega, h⟩
        · rintro ⟨j, hj, h⟩
          by_cases hjm : j = m
          · subst hjm; exact ⟨j - 1, by omega, by rw [← hm0.2]; exact h⟩
          · exact ⟨j, by omega, h⟩
  obtain ⟨h1, h2⟩ := key d.size (Nat.le_refl _)
  refine ⟨h1, fun x => ?_⟩
  rw [h2 x]
  constructor
  · rintro ⟨j, hj, rfl⟩
    rw [getElem!_pos d j hj]
    simp
  · intro hx
    obtain ⟨j, hj, h⟩ := List.mem_iff_getElem.1 hx
    have hj' : j < d.size := by simpa using hj
    exact ⟨j, hj', by rw [getElem!_pos d j hj']; simpa using h⟩

/-- Sorted, and each once: the lists merged. -/
theorem sort_compact (l : List (List UInt8)) : compactUpTo (l.mergeSort fun x y => !(ltOf idCmp) y x).toArray (l.mergeSort fun x y => !(ltOf idCmp) y x).toArray.size = mrg l := by
  have hp : (l.mergeSort fun x y => !(ltOf idCmp) y x).Pairwise fun x y => (!(ltOf idCmp) y x) = true := by
    apply List.pairwise_mergeSort
    · intro a b c h1 h2
      simp only [Bool.not_eq_true'] at *
      exact idSWO.ntrans _ _ _ h2 h1
    · intro a b
      simp only [Bool.or_eq_true, Bool.not_eq_true']
      rcases idLess_tri a b with ⟨_, p, _⟩ | ⟨p, _, _⟩ | ⟨p, _, _⟩
      · exact .inl p
      · exact .inr p
      · exact .inr p
  have h := compact_rising (l.mergeSort fun x y => !(ltOf idCmp) y x).toArray (by
    refine List.Pairwise.imp (fun {x y} h => ?_) hp
    show ltOf idCmp y x = false
    simpa using h)
  exact mrg_unique h.1 (fun x => by rw [h.2 x]; simp)

end Go.Proofs.Ythlkfbiclhgdoaa

end

section

/-
  PLAIN MATHEMATICS OF LAYER 4 (value): what may be, its bytes, and how they are read. No program in sight.
-/
namespace Go.Proofs.Ythlkfbiclhgdoaa

/-- A value as its fields. -/
structure Val where
  sh : Int
  pr : Int
  si : Int
  st : List UInt8

def Val.zero : Val := ⟨0, 0, 0, []⟩

/-- A byte that can be shown. -/
def chOk (b : UInt8) : Bool := decide (32 ≤ b.toNat) && decide (b.toNat ≤ 126)

def stOk (l : List UInt8) : Bool := decide (l.length ≤ 32) && l.all chOk

def numsOk (a b c : Int) : Bool := decide (1 ≤ a ∧ a ≤ 4 ∧ -128 ≤ b ∧ b ≤ 127 ∧ 0 ≤ c ∧ c ≤ 1099511627776)

/-- May it be? -/
def vaMay (v : Val) : Bool := numsOk v.sh v.pr v.si && stOk v.st

/-- Its bytes. -/
def vaBytes (v : Val) : List UInt8 := [u8of v.sh.toNat, u8of (v.pr + 128).toNat] ++ (vput v.si.toNat ++ (vput v.st.length ++ v.st))

def vaTwo (l : List UInt8) (p : Int) (n : Nat) (t : List UInt8) : Val := ⟨(l.getD p.toNat 0).toNat, (l.getD (p.toNat + 1) 0).toNat - 128, n, t⟩

/-- The value at a place of bytes: value, place behind it, error. -/
def vaTake (l : List UInt8) (p : Int) : Val × Nat × Nat :=
  if p < 0 ∨ (l.length : Int) < p then (Val.zero, 0, 1)
  else if (l.length : Int) - p < 2 then (Val.zero, 0, 2)
  else if (vget l (p + 2)).2.2 ≠ 0 then (Val.zero, 0, (vget l (p + 2)).2.2)
  else if (vtake l (vget l (p + 2)).2.1 32).2.2 ≠ 0 then (Val.zero, 0, (vtake l (vget l (p + 2)).2.1 32).2.2)
  else if vaMay (vaTwo l p (vget l (p + 2)).1 (vtake l (vget l (p + 2)).2.1 32).1) = false then (Val.zero, 0, 3)
  else (vaTwo l p (vget l (p + 2)).1 (vtake l (vget l (p + 2)).2.1 32).1, (vtake l (vget l (p + 2)).2.1 32).2.1, 0)

/-- The words of the shows. -/
def shows : List (List UInt8) := [[111, 102, 102], [103, 111, 110, 101], [97, 119, 97, 121], [98, 117, 115, 121], [111, 110, 108, 105, 110, 101]]

def vaSay (n : Int) : List UInt8 × Bool := if n < 0 ∨ 4 < n then ([], false) else (shows.getD n.toNat [], true)

def vaHear (l : List UInt8) : Nat × Bool :=
  if l = [111, 102, 102] then (0, true) else if l = [103, 111, 110, 101] then (1, true) else if l = [97, 119, 97, 121] then (2, true)
  else if l = [98, 117, 115, 121] then (3, true) else if l = [111, 110, 108, 105, 110, 101] then (4, true) else (0, false)

end Go.Proofs.Ythlkfbiclhgdoaa

end

section

/-
  PLAIN MATHEMATICS OF LAYER 5 (digest): tables, their bytes and their sum, changes that are set and told. No program in sight.
-/
namespace Go.Proofs.Ythlkfbiclhgdoaa

/-- A row of a table. -/
structure Row where
  c : List UInt8
  v : Val

def Row.zero : Row := ⟨[], Val.zero⟩

/-- A change. -/
structure Chg where
  c : List UInt8
  on : Bool
  v : Val

def vSame (x y : Val) : Bool := (x.sh == y.sh && (x.pr == y.pr && (x.si == y.si && x.st == y.st)))

theorem vSame_iff {x y : Val} : vSame x y = true ↔ x = y := by
  obtain ⟨a, b, c, s⟩ := x
  obtain ⟨a', b', c', s'⟩ := y
  simp [vSame]

def rSame (x y : Row) : Bool := (x.c == y.c) && vSame x.v y.v

theorem rSame_iff {x y : Row} : rSame x y = true ↔ x = y := by
  obtain ⟨a, b⟩ := x
  obtain ⟨a', b'⟩ := y
  simp [rSame, vSame_iff]

theorem rSame_self (x : Row) : rSame x x = true := rSame_iff.2 rfl
def cSame (x y : Chg) : Bool := (x.c == y.c) && ((x.on == y.on) && vSame x.v y.v)

theorem cSame_iff {x y : Chg} : cSame x y = true ↔ x = y := by
  obtain ⟨a, o, b⟩ := x
  obtain ⟨a', o', b'⟩ := y
  simp [cSame, vSame_iff]

theorem cSame_self (x : Chg) : cSame x x = true := cSame_iff.2 rfl

theorem row_get {t : List Row} {k : Nat} (h : k < t.length) : t[k] = t.getD k Row.zero := by simp [List.getD, List.getElem?_eq_getElem h]

/-- Two tables, row by row. -/
def tSame (a b : List Row) : Bool := decide (a.length = b.length) && (List.range a.length).all fun i => rSame (a.getD i Row.zero) (b.getD i Row.zero)

theorem tSame_iff {a b : List Row} : tSame a b = true ↔ a = b := by
  constructor
  · intro h
    unfold tSame at h
    simp only [Bool.and_eq_true, decide_eq_true_eq] at h
    obtain ⟨h1, h2⟩ := h
    refine List.ext_getElem h1 fun i p q => ?_
    have := List.all_eq_true.1 h2 i (List.mem_range.2 p)
    rw [row_get p, row_get q]
    exact rSame_iff.1 this
  · intro h
    subst h
    unfold tSame
    simp [rSame_self]

theorem tSame_len {a b : List Row} (h : ¬ a.length = b.length) : tSame a b = false := by
  unfold tSame
  simp [h]

theorem tSame_off {a b : List Row} {k : Nat} (_hk : k < a.length) (h : rSame (a.getD k Row.zero) (b.getD k Row.zero) = false) : tSame a b = false := by
  rw [Bool.eq_false_iff]
  intro h'
  rw [tSame_iff] at h'
  subst h'
  rw [rSame_self] at h
  cases h

theorem tSame_on {a b : List Row} (hl : a.length = b.length) (h : (List.range a.length).all (fun i => rSame (a.getD i Row.zero) (b.getD i Row.zero)) = true) : tSame a b = true := by
  unfold tSame
  rw [h]
  simp [hl]

theorem range_all_succ {k : Nat} {f : Nat → Bool} (h : (List.range k).all f = true) (hk : f k = true) : (List.range (k + 1)).all f = true := by
  rw [List.range_succ, List.all_append, h]
  simp [hk]

theorem range_all_no {n k : Nat} {f : Nat → Bool} (hk : k < n) (h : f k = false) : (List.range n).all f = false := by
  rw [Bool.eq_false_iff]
  intro h'
  have := List.all_eq_true.1 h' k (List.mem_range.2 hk)
  rw [h] at this
  cases this

/-! ### What may be -/

def rowOk (r : Row) : Bool := idIs r.c && vaMay r.v

def rowAt (t : List Row) (j : Nat) : Bool := rowOk (t.getD j Row.zero) && (decide (j = 0) || idLess (t.getD (j - 1) Row.zero).c (t.getD j Row.zero).c)

def diMay (t : List Row) : Bool := decide (t.length ≤ 32) && (List.range t.length).all (rowAt t)

/-- Contacts rise. -/
def RRise (t : List Row) : Prop := t.Pairwise fun x y => idLess x.c y.c = true

theorem diMay_long {t : List Row} (h : 32 < t.length) : diMay t = false := by
  unfold diMay
  simp
  omega

theorem diMay_iff {t : List Row} : diMay t = true ↔ t.length ≤ 32 ∧ (∀ r ∈ t, rowOk r = true) ∧ RRise t := by
  unfold diMay
  simp only [Bool.and_eq_true, decide_eq_true_eq, List.all_eq_true, List.mem_range]
  constructor
  · rintro ⟨h1, h2⟩
    refine ⟨h1, ?_, ?_⟩
    · intro r hr
      obtain ⟨k, hk, rfl⟩ := List.getElem_of_mem hr
      have := h2 k hk
      unfold rowAt at this
      rw [← row_get hk] at this
      simp only [Bool.and_eq_true] at this
      exact this.1
    · have key : ∀ d i, i + d + 1 < t.length → idLess (t.getD i Row.zero).c (t.getD (i + d + 1) Row.zero).c = true := by
        intro d
        induction d with
        | zero =>
          intro i hi
          have := h2 (i + 1) (by omega)
          unfold rowAt at this
          simp only [Bool.and_eq_true] at this
          simpa using this.2
        | succ d ih =>
          intro i hi
          have a := ih i (by omega)
          have := h2 (i + d + 1 + 1) (by omega)
          unfold rowAt at this
          simp only [Bool.and_eq_true] at this
          have b : idLess (t.getD (i + d + 1) Row.zero).c (t.getD (i + d + 1 + 1) Row.zero).c = true := by simpa using this.2
          exact idLess_trans a b
      refine List.pairwise_iff_getElem.2 fun i j hi hj hij => ?_
      rw [row_get hi, row_get hj]
      have := key (j - i - 1) i (by omega)
      rwa [show i + (j - i - 1) + 1 = j by omega] at this
  · rintro ⟨h1, h2, h3⟩
    refine ⟨h1, fun k hk => ?_⟩
    unfold rowAt
    rw [← row_get hk, h2 _ (List.getElem_mem hk)]
    simp only [Bool.true_and, Bool.or_eq_true, decide_eq_true_eq]
    by_cases h0 : k = 0
    · exact .inl h0
    · right
      have := List.pairwise_iff_getElem.1 h3 (k - 1) k (by omega) hk (by omega)
      rwa [row_get (show k - 1 < t.length by omega)] at this

/-! ### Bytes -/

def rowBytes (r : Row) : List UInt8 := (vput r.c.length ++ r.c) ++ vaBytes r.v
def rowsBytes (t : List Row) : List UInt8 := (t.map rowBytes).flatten
def diBytes (t : List Row) : List UInt8 := vput t.length ++ rowsBytes t
def diPut (t : List Row) : List UInt8 × Bool := if diMay t = true then (diBytes t, true) else ([], false)

/-- The row at a place of bytes: row, place behind it, error. -/
def diTakeRow (l : List UInt8) (p : Nat) : Row × Nat × Nat :=
  if (idTake l p).2.2 ≠ 0 then (Row.zero, 0, (idTake l p).2.2)
  else if (vaTake l (idTake l p).2.1).2.2 ≠ 0 then (Row.zero, 0, (vaTake l (idTake l p).2.1).2.2)
  else (⟨(idTake l p).1, (vaTake l (idTake l p).2.1).1⟩, (vaTake l (idTake l p).2.1).2.1, 0)

/-- n rows. -/
def diRows : Nat → List UInt8 → Nat → List Row × Nat × Nat
  | 0, _, p => ([], p, 0)
  | n + 1, l, p =>
    if (diTakeRow l p).2.2 ≠ 0 then ([], 0, (diTakeRow l p).2.2)
    else if (diRows n l (diTakeRow l p).2.1).2.2 ≠ 0 then ([], 0, (diRows n l (diTakeRow l p).2.1).2.2)
    else ((diTakeRow l p).1 :: (diRows n l (diTakeRow l p).2.1).1, (diRows n l (diTakeRow l p).2.1).2.1, 0)

/-- The table. -/
def diTake (l : List UInt8) (p : Int) : List Row × Nat × Nat :=
  if (vget l p).2.2 ≠ 0 then ([], 0, (vget l p).2.2)
  else if 32 < (vget l p).1 then ([], 0, 3)
  else if (diRows (vget l p).1 l (vget l p).2.1).2.2 ≠ 0 then ([], 0, (diRows (vget l p).1 l (vget l p).2.1).2.2)
  else if diMay (diRows (vget l p).1 l (vget l p).2.1).1 = false then ([], 0, 3)
  else ((diRows (vget l p).1 l (vget l p).2.1).1, (diRows (vget l p).1 l (vget l p).2.1).2.1, 0)

/-- What was taken so far, and what is still to be taken. -/
def diComb (acc : List Row) (r : List Row × Nat × Nat) : List Row × Nat × Nat := if r.2.2 ≠ 0 then ([], 0, r.2.2) else (acc ++ r.1, r.2.1, 0)

/-! ### The sum -/

def fnvM : Nat := 18446744073709551616
def fnvP : Nat := 1099511628211
def fnvB : Nat := 14695981039346656037
def fnv1 (h : Nat) (b : UInt8) : Nat := ((h ^^^ b.toNat) * fnvP) % fnvM
def fnv (l : List UInt8) : Nat := l.foldl fnv1 fnvB
def diSum (t : List Row) : Nat := fnv (diPut t).1

/-! ### Get and Set -/

def diGet : List Row → List UInt8 → Val × Bool
  | [], _ => (Val.zero, false)
  | r :: t, x => if r.c = x then (r.v, true) else diGet t x

def gSame (p q : Val × Bool) : Bool := vSame p.1 q.1 && (p.2 == q.2)

def diRest (t : List Row) (x : List UInt8) : List Row := t.filter fun r => !(r.c == x)

def plc (t : List Row) (x : List UInt8) : Nat → Nat
  | 0 => 0
  | k + 1 => if idLess (t.getD k Row.zero).c x = true then k + 1 else plc t x k

theorem plc_le (t : List Row) (x : List UInt8) : ∀ k, plc t x k ≤ k
  | 0 => Nat.le_refl _
  | k + 1 => by
    unfold plc
    split
    · exact Nat.le_refl _
    · exact Nat.le_succ_of_le (plc_le t x k)

def diPlace (t : List Row) (x : List UInt8) : Nat := plc t x t.length

def diIns (t : List Row) (r : Row) : List Row := t.take (diPlace t r.c) ++ ([r] ++ t.drop (diPlace t r.c))

def diSet (t : List Row) (c : Chg) : List Row := if c.on = true then diIns (diRest t c.c) ⟨c.c, c.v⟩ else diRest t c.c

/-- What a change makes of its own contact. -/
def chGet (c : Chg) : Val × Bool := if c.on = true then (c.v, true) else (Val.zero, false)

theorem diGet_none : ∀ {t : List Row} {x : List UInt8}, (∀ r ∈ t, ¬ r.c = x) → diGet t x = (Val.zero, false)
  | [], _, _ => rfl
  | r :: t, x, h => by
    unfold diGet
    rw [if_neg (h r (by simp)), diGet_none (fun s hs => h s (by simp [hs]))]

theorem diGet_hit {r : Row} {x : List UInt8} (h : r.c = x) (t : List Row) : diGet (r :: t) x = (r.v, true) := by unfold diGet; rw [if_pos h]
theorem diGet_miss {r : Row} {x : List UInt8} (h : ¬ r.c = x) (t : List Row) : diGet (r :: t) x = diGet t x := by conv => lhs; unfold diGet
                                                                                                                  rw [if_neg h]

theorem diGet_append : ∀ (a b : List Row) (x : List UInt8), diGet (a ++ b) x = if (diGet a x).2 = true then diGet a x else diGet b x
  | [], b, x => by simp [diGet]
  | r :: a, b, x => by
    rw [List.cons_append]
    by_cases h : r.c = x
    · rw [diGet_hit h, diGet_hit h]; simp
    · rw [diGet_miss h, diGet_miss h]
      exact diGet_append a b x

theorem diGet_some {t : List Row} {x : List UInt8} : ∀ {v : Val}, diGet t x = (v, true) → ⟨x, v⟩ ∈ t := by
  induction t with
  | nil => intro v h; simp [diGet] at h
  | cons r t ih =>
    intro v h
    unfold diGet at h
    by_cases hr : r.c = x
    · rw [if_pos hr] at h
      simp only [Prod.mk.injEq, and_true] at h
      subst hr h
      simp
    · rw [if_neg hr] at h
      exact List.mem_cons_of_mem _ (ih h)

theorem diGet_rest_same (t : List Row) (x : List UInt8) : diGet (diRest t x) x = (Val.zero, false) := by
  refine diGet_none fun r hr => ?_
  have := (List.mem_filter.1 hr).2
  simpa using this

theorem diGet_rest_other {x y : List UInt8} (h : ¬ y = x) : ∀ t : List Row, diGet (diRest t x) y = diGet t y
  | [] => rfl
  | r :: t => by
    have ih := diGet_rest_other h t
    unfold diRest at ih ⊢
    by_cases hr : r.c = x
    · have : (!(r.c == x)) = false := by simp [hr]
      rw [List.filter_cons_of_neg (by simp [this])]
      rw [ih]
      conv => rhs; unfold diGet
      rw [if_neg (fun e => h (e.symm.trans hr))]
    · rw [List.filter_cons_of_pos (by simpa using hr)]
      unfold diGet
      rw [ih]

theorem diGet_ins (t : List Row) (r : Row) (x : List UInt8) (h0 : diGet t r.c = (Val.zero, false)) : diGet (diIns t r) x = if x = r.c then (r.v, true) else diGet t x := by
  unfold diIns
  have hsplit : diGet t x = if (diGet (t.take (diPlace t r.c)) x).2 = true then diGet (t.take (diPlace t r.c)) x else diGet (t.drop (diPlace t r.c)) x := by
    rw [← diGet_append, List.take_append_drop]
  have hmid : diGet ([r] ++ t.drop (diPlace t r.c)) x = if r.c = x then (r.v, true) else diGet (t.drop (diPlace t r.c)) x := by
    simp [diGet]
  rw [diGet_append, hmid]
  by_cases hx : x = r.c
  · subst hx
    have : (diGet (t.take (diPlace t r.c)) r.c).2 = false := by
      rw [h0] at hsplit
      cases hh : (diGet (t.take (diPlace t r.c)) r.c).2 with
      | false => rfl
      | true =>
        rw [if_pos hh] at hsplit
        rw [← hsplit] at hh
        cases hh
    rw [if_neg (by rw [this]; decide), if_pos rfl, if_pos rfl]
  · have hx' : ¬ r.c = x := fun e => hx e.symm
    rw [if_neg hx, hsplit]
    simp only [if_neg hx']

theorem diGet_set (t : List Row) (c : Chg) (x : List UInt8) : diGet (diSet t c) x = if x = c.c then chGet c else diGet t x := by
  unfold diSet chGet
  by_cases ho : c.on = true
  · rw [if_pos ho, if_pos ho, diGet_ins _ _ _ (diGet_rest_same t c.c)]
    by_cases hx : x = c.c
    · rw [if_pos hx, if_pos hx]
    · rw [if_neg hx, if_neg hx, diGet_rest_other hx]
  · rw [if_neg ho, if_neg ho]
    by_cases hx : x = c.c
    · rw [if_pos hx, hx, diGet_rest_same]
    · rw [if_neg hx, diGet_rest_other hx]

/-! ### Rising tables -/

theorem rest_rise {t : List Row} (h : RRise t) (x : List UInt8) : RRise (diRest t x) := List.Pairwise.filter _ h

theorem plc_before {t : List Row} {x : List UInt8} (h : RRise t) : ∀ k, k ≤ t.length → ∀ i, i < plc t x k → idLess (t.getD i Row.zero).c x = true
  | 0, _, i, hi => by simp [plc] at hi
  | k + 1, hk, i, hi => by
    unfold plc at hi
    by_cases hl : idLess (t.getD k Row.zero).c x = true
    · rw [if_pos hl] at hi
      by_cases he : i = k
      · rw [he]; exact hl
      · have := List.pairwise_iff_getElem.1 h i k (by omega) (by omega) (by omega)
        rw [row_get (show i < t.length by omega), row_get (show k < t.length by omega)] at this
        exact idLess_trans this hl
    · rw [if_neg hl] at hi
      exact plc_before h k (by omega) i hi

theorem plc_after {t : List Row} {x : List UInt8} : ∀ k, k ≤ t.length → ∀ i, plc t x k ≤ i → i < k → idLess (t.getD i Row.zero).c x = false
  | 0, _, i, _, hi => by omega
  | k + 1, hk, i, h1, h2 => by
    unfold plc at h1
    by_cases hl : idLess (t.getD k Row.zero).c x = true
    · rw [if_pos hl] at h1
      omega
    · rw [if_neg hl] at h1
      by_cases he : i = k
      · rw [he]; simpa using hl
      · exact plc_after k (by omega) i h1 (by omega)

theorem ins_rise {t : List Row} {r : Row} (h : RRise t) (hn : ∀ s ∈ t, ¬ s.c = r.c) : RRise (diIns t r) := by
  have hp := plc_le t r.c t.length
  unfold diIns
  have hb : ∀ s ∈ t.take (diPlace t r.c), idLess s.c r.c = true := by
    intro s hs
    obtain ⟨i, hi, rfl⟩ := List.getElem_of_mem hs
    have hi' : i < diPlace t r.c := by simp at hi; omega
    rw [List.getElem_take, row_get (by unfold diPlace at hi'; omega)]
    exact plc_before h t.length (Nat.le_refl _) i hi'
  have ha : ∀ s ∈ t.drop (diPlace t r.c), idLess r.c s.c = true := by
    intro s hs
    obtain ⟨i, hi, rfl⟩ := List.getElem_of_mem hs
    have hi' : diPlace t r.c + i < t.length := by simp at hi; omega
    have h1 := plc_after (x := r.c) t.length (Nat.le_refl _) (diPlace t r.c + i) (by unfold diPlace; omega) hi'
    have h2 := hn _ (List.getElem_mem hi')
    rw [row_get hi'] at h2
    rw [List.getElem_drop, row_get hi']
    rcases idLess_tri (t.getD (diPlace t r.c + i) Row.zero).c r.c with h3 | h3 | h3
    · rw [h1] at h3; cases h3.1
    · exact h3.2.1
    · exact absurd h3.2.2 h2
  unfold RRise at h ⊢
  rw [List.pairwise_append]
  refine ⟨List.Pairwise.sublist (List.take_sublist _ _) h, ?_, ?_⟩
  · rw [List.singleton_append, List.pairwise_cons]
    exact ⟨ha, List.Pairwise.sublist (List.drop_sublist _ _) h⟩
  · intro a ha' b hb'
    rcases List.mem_append.1 hb' with h1 | h1
    · simp only [List.mem_singleton] at h1
      subst h1
      exact hb a ha'
    · exact idLess_trans (hb a ha') (ha b h1)

theorem set_rise {t : List Row} (h : RRise t) (c : Chg) : RRise (diSet t c) := by
  unfold diSet
  by_cases ho : c.on = true
  · rw [if_pos ho]
    refine ins_rise (rest_rise h _) fun s hs => ?_
    have := (List.mem_filter.1 hs).2
    simpa using this
  · rw [if_neg ho]
    exact rest_rise h _

/-- Rising tables of which all is got alike are the same. -/
theorem rise_ext : ∀ {a b : List Row}, RRise a → RRise b → (∀ x, diGet a x = diGet b x) → a = b
  | [], [], _, _, _ => rfl
  | [], r :: b, _, _, h => by have := h r.c; simp [diGet] at this
  | r :: a, [], _, _, h => by have := h r.c; simp [diGet] at this
  | r :: a, s :: b, ha, hb, h => by
    obtain ⟨ha1, ha2⟩ := List.pairwise_cons.1 ha
    obtain ⟨hb1, hb2⟩ := List.pairwise_cons.1 hb
    have out : ∀ {z : Row} {l : List Row}, (∀ y ∈ l, idLess z.c y.c = true) → diGet l z.c = (Val.zero, false) := fun hz => diGet_none fun y hy e => by
      have := hz y hy
      rw [e, idLess_irrefl] at this
      cases this
    have hc : r.c = s.c := by
      by_cases hc : r.c = s.c
      · exact hc
      · have h1 := h r.c
        have h2 := h s.c
        unfold diGet at h1 h2
        rw [if_pos rfl, if_neg (fun e => hc e.symm)] at h1
        rw [if_pos rfl, if_neg hc] at h2
        have m1 := diGet_some h1.symm
        have m2 := diGet_some h2
        have p := hb1 _ m1
        have q := ha1 _ m2
        have := idLess_trans p q
        rw [idLess_irrefl] at this
        cases this
    have hv : r.v = s.v := by
      have h1 := h r.c
      unfold diGet at h1
      rw [if_pos rfl, if_pos hc.symm] at h1
      exact (Prod.mk.injEq .. ▸ h1).1
    have he : r = s := by
      obtain ⟨_, _⟩ := r
      obtain ⟨_, _⟩ := s
      simp only at hc hv
      subst hc hv
      rfl
    subst he
    rw [rise_ext ha2 hb2 fun x => ?_]
    have hx := h x
    unfold diGet at hx
    by_cases e : r.c = x
    · subst e
      rw [out ha1, out hb1]
    · rwa [if_neg e, if_neg e] at hx

theorem set_set {t : List Row} (h : RRise t) (a b : Chg) (hc : ¬ a.c = b.c) : diSet (diSet t a) b = diSet (diSet t b) a := by
  refine rise_ext (set_rise (set_rise h a) b) (set_rise (set_rise h b) a) fun x => ?_
  rw [diGet_set, diGet_set, diGet_set, diGet_set]
  by_cases h1 : x = b.c
  · by_cases h2 : x = a.c
    · exact absurd (h2.symm.trans h1) hc
    · rw [if_pos h1, if_neg h2, if_pos h1]
  · rw [if_neg h1, if_neg h1]

theorem rest_len (t : List Row) (x : List UInt8) : (diRest t x).length ≤ t.length := List.length_filter_le _ _

theorem diIns_len (t : List Row) (r : Row) : (diIns t r).length = t.length + 1 := by
  have := plc_le t r.c t.length
  unfold diIns diPlace
  simp
  omega

theorem set_len (t : List Row) (c : Chg) : (diSet t c).length ≤ t.length + 1 := by
  have := rest_len t c.c
  unfold diSet
  split
  · rw [diIns_len]; omega
  · omega

/-! ### Changes -/

def cts (t : List Row) : List (List UInt8) := t.map (·.c)

def chg (a b : List Row) (x : List UInt8) : Option Chg := if gSame (diGet a x) (diGet b x) = true then none else some ⟨x, (diGet b x).2, (diGet b x).1⟩

def diChanges (a b : List Row) : List Chg := (mrg (cts a ++ cts b)).filterMap (chg a b)

/-- Changes, set one behind the other. -/
def setAll (t : List Row) (l : List Chg) : List Row := l.foldl diSet t

theorem setAll_snoc (t : List Row) (l : List Chg) (c : Chg) : setAll t (l ++ [c]) = diSet (setAll t l) c := by simp [setAll]

theorem setAll_rise : ∀ (l : List Chg) {t : List Row}, RRise t → RRise (setAll t l)
  | [], _, h => h
  | c :: l, _, h => setAll_rise l (set_rise h c)

theorem setAll_len : ∀ (l : List Chg) (t : List Row), (setAll t l).length ≤ t.length + l.length
  | [], t => by simp [setAll]
  | c :: l, t => by
    have := setAll_len l (diSet t c)
    have := set_len t c
    show (setAll (diSet t c) l).length ≤ _
    simp only [List.length_cons]
    omega

theorem setAll_out : ∀ (l : List Chg) {t : List Row} {x : List UInt8}, (∀ c ∈ l, ¬ c.c = x) → diGet (setAll t l) x = diGet t x
  | [], _, _, _ => rfl
  | c :: l, t, x, h => by
    show diGet (setAll (diSet t c) l) x = _
    rw [setAll_out l (fun d hd => h d (by simp [hd])), diGet_set, if_neg (fun e => h c (by simp) e.symm)]

theorem setAll_in : ∀ (l : List Chg) {t : List Row} {c : Chg}, l.Pairwise (fun x y => ¬ x.c = y.c) → c ∈ l → diGet (setAll t l) c.c = chGet c
  | [], _, _, _, h => by cases h
  | d :: l, t, c, hp, h => by
    obtain ⟨h1, h2⟩ := List.pairwise_cons.1 hp
    show diGet (setAll (diSet t d) l) c.c = _
    rcases List.mem_cons.1 h with rfl | h
    · rw [setAll_out l (fun e he => fun e' => h1 e he e'.symm), diGet_set, if_pos rfl]
    · exact setAll_in l h2 h

end Go.Proofs.Ythlkfbiclhgdoaa

end

section

/-
  LAYER 17, PLAIN: changes that wait, of each contact the last one alone.
-/
namespace Go.Proofs.Ythlkfbiclhgdoaa

structure Que where
  l : List Chg
  la : Bool

def Chg.nought : Chg := ⟨[], false, Val.zero⟩

/-- P17.1. -/
def quOne (c : Chg) : Bool := idIs c.c && (if c.on = true then vaMay c.v else vSame c.v Val.zero)
/-- The first place of a contact; how many there are, if there is none. -/
def quAt (l : List Chg) (x : List UInt8) : Nat := l.findIdx fun c => c.c == x
def quHas (l : List Chg) (x : List UInt8) : Bool := decide (quAt l x < l.length)
def quNo2 (l : List Chg) : Prop := (l.map (·.c)).Nodup
instance (l : List Chg) : Decidable (quNo2 l) := by unfold quNo2; infer_instance
def quMay (q : Que) (room : Int) : Bool := decide ((q.l.length : Int) ≤ room) && !(q.la && decide (0 < q.l.length)) && q.l.all quOne && decide (quNo2 q.l)
def quEmpty (q : Que) : Bool := decide (q.l.length = 0) && !q.la
def quFind (q : Que) (x : List UInt8) : Chg × Bool := if quHas q.l x = true then (q.l.getD (quAt q.l x) Chg.nought, true) else (Chg.nought, false)
/-- P17.2. -/
def quPush (q : Que) (c : Chg) (room : Int) : Que :=
  if q.la = true then q else if quHas q.l c.c = true then ⟨q.l.set (quAt q.l c.c) c, false⟩ else if (q.l.length : Int) < room then ⟨q.l ++ [c], false⟩ else ⟨[], true⟩
/-- P17.3. -/
def quPop (q : Que) : Chg × Que × Bool := match q.l with
  | [] => (Chg.nought, q, false)
  | c :: l => (c, ⟨l, q.la⟩, true)

theorem quAt_le (l : List Chg) (x : List UInt8) : quAt l x ≤ l.length := List.findIdx_le_length

theorem quHas_iff {l : List Chg} {x : List UInt8} : quHas l x = true ↔ ∃ c ∈ l, c.c = x := by
  unfold quHas quAt
  rw [decide_eq_true_eq, List.findIdx_lt_length]
  simp [beq_iff_eq]

theorem quHas_no {l : List Chg} {x : List UInt8} (h : quHas l x = false) : ∀ c ∈ l, ¬ c.c = x := fun c hc e => by
  rw [quHas_iff.2 ⟨c, hc, e⟩] at h
  cases h

theorem quAt_is {l : List Chg} {x : List UInt8} (h : quHas l x = true) : quAt l x < l.length ∧ (l.getD (quAt l x) Chg.nought).c = x := by
  unfold quHas at h
  rw [decide_eq_true_eq] at h
  refine ⟨h, ?_⟩
  rw [List.getD_eq_getElem?_getD, List.getElem?_eq_getElem h]
  have := List.findIdx_getElem (p := fun c : Chg => c.c == x) (w := h)
  rw [beq_iff_eq] at this
  exact this

theorem quAt_not {l : List Chg} {x : List UInt8} {k : Nat} (h : k < quAt l x) : ¬ (l.getD k Chg.nought).c = x := by
  have hk : k < l.length := Nat.lt_of_lt_of_le h (quAt_le l x)
  rw [List.getD_eq_getElem?_getD, List.getElem?_eq_getElem hk]
  have := List.not_of_lt_findIdx (p := fun c : Chg => c.c == x) h
  simpa [beq_iff_eq] using this

/-- What a search finds: the first place, or none. -/
theorem quAt_of {l : List Chg} {x : List UInt8} {k : Nat} (hk : k < l.length) (h : (l.getD k Chg.nought).c = x) (hn : ∀ i, i < k → ¬ (l.getD i Chg.nought).c = x) : quAt l x = k := by
  rcases Nat.lt_trichotomy (quAt l x) k with h1 | h1 | h1
  · have hh : quHas l x = true := by unfold quHas; rw [decide_eq_true_eq]; omega
    exact absurd (quAt_is hh).2 (hn _ h1)
  · exact h1
  · exact absurd h (quAt_not h1)

/-- Where no two are of one contact, one's place is its own. -/
theorem quAt_own {l : List Chg} (h : quNo2 l) {k : Nat} (hk : k < l.length) : quAt l (l.getD k Chg.nought).c = k := by
  refine quAt_of hk rfl fun i hi e => ?_
  unfold quNo2 List.Nodup at h
  rw [List.pairwise_map, List.pairwise_iff_getElem] at h
  have hi' : i < l.length := by omega
  refine h i k hi' hk hi ?_
  rw [List.getD_eq_getElem?_getD, List.getElem?_eq_getElem hi', List.getD_eq_getElem?_getD, List.getElem?_eq_getElem hk] at e
  exact e

theorem quNo2_iff {l : List Chg} : quNo2 l ↔ ∀ k, k < l.length → quAt l (l.getD k Chg.nought).c = k := by
  refine ⟨fun h k hk => quAt_own h hk, fun h => ?_⟩
  unfold quNo2 List.Nodup
  rw [List.pairwise_map, List.pairwise_iff_getElem]
  intro i j hi hj hij e
  have h1 := h i hi
  have h2 := h j hj
  rw [List.getD_eq_getElem?_getD, List.getElem?_eq_getElem hi] at h1
  rw [List.getD_eq_getElem?_getD, List.getElem?_eq_getElem hj] at h2
  simp only [Option.getD_some] at h1 h2
  rw [e] at h1
  omega

/-! ### each text once -/
theorem nodup_sub : ∀ (a b : List (List UInt8)), a.Nodup → (∀ x ∈ a, x ∈ b) → a.length ≤ b.length
  | [], _, _, _ => Nat.zero_le _
  | x :: a, b, h, hs => by
    have h' := List.nodup_cons.1 h
    have hx : x ∈ b := hs x (by simp)
    have := nodup_sub a (b.erase x) h'.2 fun y hy => (List.mem_erase_of_ne (fun e => h'.1 (by rw [← e]; exact hy))).2 (hs y (by simp [hy]))
    rw [List.length_erase_of_mem hx] at this
    have hpos : 0 < b.length := List.length_pos_iff.2 (fun e => by rw [e] at hx; cases hx)
    simp only [List.length_cons]
    omega

theorem nodup_less : ∀ (l a : List (List UInt8)), a.Nodup → (∀ x ∈ a, x ∈ l) → ¬ l.Nodup → a.length < l.length
  | [], _, _, _, hn => absurd List.nodup_nil hn
  | x :: l, a, ha, hs, hn => by
    by_cases hx : x ∈ l
    · have := nodup_sub a l ha fun y hy => by
        rcases List.mem_cons.1 (hs y hy) with e | h
        · rw [e]; exact hx
        · exact h
      simp only [List.length_cons]
      omega
    · have hl : ¬ l.Nodup := fun h => hn (List.nodup_cons.2 ⟨hx, h⟩)
      have := nodup_less l (a.erase x) (ha.sublist List.erase_sublist) (fun y hy => by
        have hy' := (List.Nodup.mem_erase_iff ha).1 hy
        exact (List.mem_cons.1 (hs y hy'.2)).resolve_left hy'.1) hl
      have h1 : a.length ≤ (a.erase x).length + 1 := by
        by_cases hm : x ∈ a
        · rw [List.length_erase_of_mem hm]; omega
        · rw [List.erase_of_not_mem hm]; omega
      simp only [List.length_cons]
      omega

theorem rising_nodup {l : List (List UInt8)} (h : Rising l) : l.Nodup := by
  unfold Rising at h
  refine h.imp fun {a b} hab e => ?_
  rw [e, idLess_irrefl] at hab
  cases hab

/-- As many names stand in a list, each once, as it is long, just if no two of it are the same. -/
theorem mrg_full (l : List (List UInt8)) : (mrg l).length = l.length ↔ l.Nodup := by
  have hr := rising_nodup (mrg_rising l)
  constructor
  · intro h
    refine Classical.byContradiction fun hn => ?_
    have := nodup_less l (mrg l) hr (fun x hx => (mrg_mem l x).1 hx) hn
    omega
  · intro h
    have h1 := nodup_sub (mrg l) l hr fun x hx => (mrg_mem l x).1 hx
    have h2 := nodup_sub l (mrg l) h fun x hx => (mrg_mem l x).2 hx
    omega

/-! ### what is pushed -/
theorem quMay_iff {q : Que} {room : Int} : quMay q room = true ↔ (q.l.length : Int) ≤ room ∧ (q.la = true → q.l = []) ∧ (∀ c ∈ q.l, quOne c = true) ∧ quNo2 q.l := by
  unfold quMay
  simp only [Bool.and_eq_true, decide_eq_true_eq, Bool.not_eq_true', Bool.and_eq_false_iff, decide_eq_false_iff_not, List.all_eq_true]
  constructor
  · rintro ⟨⟨⟨h1, h2⟩, h3⟩, h4⟩
    refine ⟨h1, fun hl => ?_, h3, h4⟩
    rcases h2 with h2 | h2
    · rw [hl] at h2; cases h2
    · exact List.length_eq_zero_iff.1 (by omega)
  · rintro ⟨h1, h2, h3, h4⟩
    refine ⟨⟨⟨h1, ?_⟩, h3⟩, h4⟩
    cases hl : q.la
    · exact .inl rfl
    · right; rw [h2 hl]; simp

/-- One put in the place of one of the same contact: the same contacts. -/
theorem set_contacts {l : List Chg} {c : Chg} (h : quHas l c.c = true) : (l.set (quAt l c.c) c).map (·.c) = l.map (·.c) := by
  obtain ⟨hlt, he⟩ := quAt_is h
  rw [List.map_set]
  refine List.ext_getElem (by simp) fun i h1 h2 => ?_
  rw [List.getElem_set]
  split
  · rename_i e
    subst e
    rw [List.getElem_map]
    rw [List.getD_eq_getElem?_getD, List.getElem?_eq_getElem hlt] at he
    exact he.symm
  · rfl

theorem quPush_no2 {q : Que} {c : Chg} {room : Int} (h : quNo2 q.l) : quNo2 (quPush q c room).l := by
  unfold quPush
  split
  · exact h
  · split
    · rename_i hh
      show (List.map _ _).Nodup
      rw [set_contacts hh]
      exact h
    · rename_i hh
      split
      · show (List.map _ _).Nodup
        rw [List.map_append, List.nodup_append]
        refine ⟨h, by simp, fun a ha b hb e => ?_⟩
        simp only [List.map_cons, List.map_nil, List.mem_singleton] at hb
        obtain ⟨x, hx, rfl⟩ := List.mem_map.1 ha
        exact quHas_no (by simpa using hh) x hx (by rw [← hb]; exact e)
      · exact List.nodup_nil

theorem quPush_mem {q : Que} {c x : Chg} {room : Int} (h : x ∈ (quPush q c room).l) : x = c ∨ x ∈ q.l := by
  unfold quPush at h
  split at h
  · exact .inr h
  · split at h
    · exact (List.mem_or_eq_of_mem_set h).symm
    · split at h
      · rcases List.mem_append.1 h with h | h
        · exact .inr h
        · exact .inl (by simpa using h)
      · cases h

theorem quPush_len {q : Que} {c : Chg} {room : Int} (h : (q.l.length : Int) ≤ room) : ((quPush q c room).l.length : Int) ≤ room := by
  unfold quPush
  split
  · exact h
  · split
    · simpa using h
    · split
      · rename_i h1
        simp only [List.length_append, List.length_cons, List.length_nil]
        omega
      · simp only [List.length_nil]
        omega

/-- P17.5. -/
theorem quPush_may {q : Que} {c : Chg} {room : Int} (h : quMay q room = true) (hc : quOne c = true) : quMay (quPush q c room) room = true := by
  obtain ⟨h1, h2, h3, h4⟩ := quMay_iff.1 h
  refine quMay_iff.2 ⟨quPush_len h1, fun hl => ?_, fun x hx => ?_, quPush_no2 h4⟩
  · unfold quPush at hl ⊢
    split at hl
    · rename_i hq
      rw [if_pos hq]
      exact h2 hq
    · rename_i hq
      rw [if_neg hq]
      split at hl
      · cases hl
      · rename_i hh
        rw [if_neg hh]
        split at hl
        · cases hl
        · rename_i hr
          rw [if_neg hr]
  · rcases quPush_mem hx with e | h'
    · rw [e]; exact hc
    · exact h3 x h'

/-- The three ways of a push that is not latched ahead. -/
theorem quPush_ways (q : Que) (c : Chg) (room : Int) : (q.la = true ∧ quPush q c room = q) ∨
    (q.la = false ∧ quHas q.l c.c = true ∧ quPush q c room = ⟨q.l.set (quAt q.l c.c) c, false⟩) ∨
    (q.la = false ∧ quHas q.l c.c = false ∧ (q.l.length : Int) < room ∧ quPush q c room = ⟨q.l ++ [c], false⟩) ∨
    (q.la = false ∧ quHas q.l c.c = false ∧ room ≤ (q.l.length : Int) ∧ quPush q c room = ⟨[], true⟩) := by
  unfold quPush
  cases hl : q.la
  · right
    rw [if_neg (by simp)]
    cases hh : quHas q.l c.c
    · right
      rw [if_neg (by simp)]
      by_cases hr : (q.l.length : Int) < room
      · left; exact ⟨rfl, rfl, hr, if_pos hr⟩
      · right; exact ⟨rfl, rfl, by omega, if_neg hr⟩
    · left; exact ⟨rfl, rfl, if_pos rfl⟩
  · left; exact ⟨rfl, if_pos rfl⟩

/-- What is pushed is found, and all others stay, each at its place. -/
theorem quPush_there {q : Que} {c : Chg} {room : Int} (h : (quPush q c room).la = false) : q.la = false ∧ quHas (quPush q c room).l c.c = true ∧ quFind (quPush q c room) c.c = (c, true) ∧ q.l.length ≤ (quPush q c room).l.length ∧ (quPush q c room).l.length ≤ q.l.length + 1 ∧
    ∀ i, i < q.l.length → ((quPush q c room).l.getD i Chg.nought).c = (q.l.getD i Chg.nought).c ∧ ((q.l.getD i Chg.nought).c ≠ c.c → (quPush q c room).l.getD i Chg.nought = q.l.getD i Chg.nought) := by
  rcases quPush_ways q c room with ⟨hl, e⟩ | ⟨hl, hh, e⟩ | ⟨hl, hh, hr, e⟩ | ⟨hl, hh, hr, e⟩
  · rw [e, hl] at h; cases h
  · rw [e]
    obtain ⟨hlt, he⟩ := quAt_is hh
    have hm : (q.l.set (quAt q.l c.c) c).getD (quAt q.l c.c) Chg.nought = c := by
      rw [List.getD_eq_getElem?_getD, List.getElem?_set_self hlt]; rfl
    have hat : quAt (q.l.set (quAt q.l c.c) c) c.c = quAt q.l c.c := by
      refine quAt_of (by simpa using hlt) (by rw [hm]) fun i hi => ?_
      rw [List.getD_eq_getElem?_getD, List.getElem?_set_ne (by omega), ← List.getD_eq_getElem?_getD]
      exact quAt_not hi
    have hhas : quHas (q.l.set (quAt q.l c.c) c) c.c = true := by
      unfold quHas; rw [decide_eq_true_eq, hat]; simpa using hlt
    refine ⟨hl, hhas, ?_, by simp, by simp, fun i hi => ?_⟩
    · unfold quFind
      simp only
      rw [if_pos hhas, hat, hm]
    · by_cases hi' : i = quAt q.l c.c
      · subst hi'
        simp only
        rw [hm, he]
        exact ⟨rfl, fun h => absurd rfl h⟩
      · simp only
        rw [List.getD_eq_getElem?_getD, List.getElem?_set_ne (fun h => hi' h.symm), ← List.getD_eq_getElem?_getD]
        exact ⟨rfl, fun _ => rfl⟩
  · rw [e]
    have hm : (q.l ++ [c]).getD q.l.length Chg.nought = c := by
      rw [List.getD_eq_getElem?_getD, List.getElem?_append_right (Nat.le_refl _)]; simp
    have hat : quAt (q.l ++ [c]) c.c = q.l.length := by
      refine quAt_of (by simp) (by rw [hm]) fun i hi => ?_
      rw [List.getD_eq_getElem?_getD, List.getElem?_append_left hi, List.getElem?_eq_getElem hi]
      exact quHas_no hh _ (List.getElem_mem hi)
    have hhas : quHas (q.l ++ [c]) c.c = true := by
      unfold quHas; rw [decide_eq_true_eq, hat]; simp
    refine ⟨hl, hhas, ?_, by simp, by simp, fun i hi => ?_⟩
    · unfold quFind
      simp only
      rw [if_pos hhas, hat, hm]
    · simp only
      rw [List.getD_eq_getElem?_getD, List.getElem?_append_left hi, ← List.getD_eq_getElem?_getD]
      exact ⟨rfl, fun _ => rfl⟩
  · rw [e] at h; cases h

theorem setAll_get {t : List Row} {l : List Chg} (h : quNo2 l) (y : List UInt8) : (∀ c ∈ l, c.c = y → diGet (setAll t l) y = chGet c) ∧ ((∀ c ∈ l, ¬ c.c = y) → diGet (setAll t l) y = diGet t y) := by
  refine ⟨fun c hc e => ?_, fun hn => setAll_out l hn⟩
  have hp : l.Pairwise fun x y => ¬ x.c = y.c := by
    unfold quNo2 List.Nodup at h
    rw [List.pairwise_map] at h
    exact h
  rw [← e]
  exact setAll_in l hp hc

/-- P17.5: what waits, set over a table, is what the push makes of it. -/
theorem over_push {t : List Row} (ht : RRise t) {q : Que} {c : Chg} {room : Int} (h : quNo2 q.l) (hn : (quPush q c room).la = false) : setAll t (quPush q c room).l = diSet (setAll t q.l) c := by
  refine rise_ext (setAll_rise _ ht) (set_rise (setAll_rise _ ht) c) fun y => ?_
  have h' : quNo2 (quPush q c room).l := quPush_no2 h
  obtain ⟨a1, a2⟩ := setAll_get (t := t) h y
  obtain ⟨b1, b2⟩ := setAll_get (t := t) h' y
  obtain ⟨hl, hhas, hf, hlen', _, hall⟩ := quPush_there hn
  have hcm : c ∈ (quPush q c room).l := by
    obtain ⟨hlt, _⟩ := quAt_is hhas
    unfold quFind at hf
    rw [if_pos hhas] at hf
    have := (Prod.mk.inj hf).1
    rw [List.getD_eq_getElem?_getD, List.getElem?_eq_getElem hlt] at this
    have h1 := List.getElem_mem hlt
    simp only [Option.getD_some] at this
    rw [this] at h1
    exact h1
  rw [diGet_set]
  by_cases hy : y = c.c
  · rw [if_pos hy, b1 c hcm hy.symm]
  · rw [if_neg hy]
    by_cases hx : ∃ x ∈ q.l, x.c = y
    · obtain ⟨x, hx, e⟩ := hx
      rw [a1 x hx e]
      obtain ⟨i, hi, rfl⟩ := List.getElem_of_mem hx
      obtain ⟨_, h2⟩ := hall i hi
      refine b1 _ ?_ e
      have hne : (q.l.getD i Chg.nought).c ≠ c.c := by
        rw [List.getD_eq_getElem?_getD, List.getElem?_eq_getElem hi]
        simp only [Option.getD_some]
        rw [e]
        exact hy
      have := h2 hne
      have hlt : i < (quPush q c room).l.length := Nat.lt_of_lt_of_le hi hlen'
      rw [List.getD_eq_getElem?_getD, List.getD_eq_getElem?_getD, List.getElem?_eq_getElem hi, List.getElem?_eq_getElem hlt] at this
      simp only [Option.getD_some] at this
      rw [← this]
      exact List.getElem_mem _
    · rw [a2 fun x hx' e => hx ⟨x, hx', e⟩]
      exact b2 fun x hx' e => by
        rcases quPush_mem hx' with e' | hx''
        · exact hy (by rw [← e, e'])
        · exact hx ⟨x, hx'', e⟩

theorem quNo2_tail {c : Chg} {l : List Chg} (h : quNo2 (c :: l)) : quNo2 l := by
  unfold quNo2 at h ⊢
  rw [List.map_cons] at h
  exact (List.nodup_cons.1 h).2

/-- Pushed twice is as pushed once. -/
theorem push_twice {q : Que} {c : Chg} {room : Int} : quPush (quPush q c room) c room = quPush q c room := by
  cases h : (quPush q c room).la
  · obtain ⟨_, hhas, hf, _, _, _⟩ := quPush_there h
    rcases quPush_ways (quPush q c room) c room with ⟨hl, e⟩ | ⟨hl, hh, e⟩ | ⟨hl, hh, hr, e⟩ | ⟨hl, hh, hr, e⟩
    · rw [h] at hl; cases hl
    · rw [e]
      obtain ⟨hlt, _⟩ := quAt_is hh
      unfold quFind at hf
      rw [if_pos hhas] at hf
      have h1 := (Prod.mk.inj hf).1
      rw [List.getD_eq_getElem?_getD, List.getElem?_eq_getElem hlt] at h1
      have h2 : (quPush q c room).l.set (quAt (quPush q c room).l c.c) c = (quPush q c room).l := by
        refine List.ext_getElem (by simp) fun i h3 h4 => ?_
        rw [List.getElem_set]
        split
        · rename_i e'
          subst e'
          exact h1.symm
        · rfl
      rw [h2]
      cases hq : quPush q c room with
      | mk l la => rw [hq] at h; simp only at h; rw [h]
    · rw [hhas] at hh; cases hh
    · rw [hhas] at hh; cases hh
  · rcases quPush_ways (quPush q c room) c room with ⟨_, e⟩ | ⟨hl, _⟩ | ⟨hl, _⟩ | ⟨hl, _⟩
    · exact e
    · rw [h] at hl; cases hl
    · rw [h] at hl; cases hl
    · rw [h] at hl; cases hl

theorem quPush_room {q : Que} {c : Chg} {room : Int} (hl : q.la = false) (h : (q.l.length : Int) < room) : (quPush q c room).la = false := by
  rcases quPush_ways q c room with ⟨hl', e⟩ | ⟨_, _, e⟩ | ⟨_, _, _, e⟩ | ⟨_, _, hr, e⟩
  · rw [hl] at hl'; cases hl'
  · rw [e]
  · rw [e]
  · omega

theorem quPush_count {q : Que} {c : Chg} {room : Int} (h : (quPush q c room).la = false) : (quPush q c room).l.length = q.l.length + (if quHas q.l c.c = true then 0 else 1) := by
  rcases quPush_ways q c room with ⟨hl', e⟩ | ⟨_, hh, e⟩ | ⟨_, hh, _, e⟩ | ⟨_, _, hr, e⟩
  · rw [e, hl'] at h; cases h
  · rw [e, if_pos hh]; simp
  · rw [e, if_neg (by rw [hh]; simp)]; simp
  · rw [e] at h; cases h

theorem quPush_has {q : Que} {c : Chg} {room : Int} (h : (quPush q c room).la = false) (x : List UInt8) (hx : ¬ x = c.c) : quHas (quPush q c room).l x = quHas q.l x := by
  rw [Bool.eq_iff_iff, quHas_iff, quHas_iff]
  constructor
  · rintro ⟨y, hy, e⟩
    rcases quPush_mem hy with e' | hy'
    · exact absurd (by rw [← e, e']) hx
    · exact ⟨y, hy', e⟩
  · rintro ⟨y, hy, e⟩
    rcases quPush_ways q c room with ⟨_, ee⟩ | ⟨_, hh, ee⟩ | ⟨_, hh, _, ee⟩ | ⟨_, _, hr, ee⟩
    · rw [ee]; exact ⟨y, hy, e⟩
    · rw [ee]
      have := List.mem_map_of_mem (f := (·.c)) hy
      rw [← set_contacts hh] at this
      obtain ⟨z, hz, ez⟩ := List.mem_map.1 this
      exact ⟨z, hz, by rw [ez]; exact e⟩
    · rw [ee]; exact ⟨y, List.mem_append_left _ hy, e⟩
    · rw [ee] at h; cases h

/-- P17.2, P17.4: changes of two contacts, in any order. -/
theorem push_two {q : Que} (h : quMay q 14 = true) (hl : q.la = false) {a b : Chg} (hc : ¬ a.c = b.c) {t : List Row} (ht : RRise t) :
    (quPush (quPush q a 16) b 16).l.length = (quPush (quPush q b 16) a 16).l.length ∧ setAll t (quPush (quPush q a 16) b 16).l = setAll t (quPush (quPush q b 16) a 16).l ∧ (quPush (quPush q a 16) b 16).la = false ∧ (quPush (quPush q b 16) a 16).la = false := by
  obtain ⟨h1, _, _, h4⟩ := quMay_iff.1 h
  have la : (quPush q a 16).la = false := quPush_room hl (by omega)
  have lb : (quPush q b 16).la = false := quPush_room hl (by omega)
  have na := quPush_count la
  have nb := quPush_count lb
  have lab : (quPush (quPush q a 16) b 16).la = false := quPush_room la (by split at na <;> omega)
  have lba : (quPush (quPush q b 16) a 16).la = false := quPush_room lb (by split at nb <;> omega)
  refine ⟨?_, ?_, lab, lba⟩
  · rw [quPush_count lab, quPush_count lba, na, nb, quPush_has la b.c (fun e => hc e.symm), quPush_has lb a.c hc]
    omega
  · rw [over_push ht (quPush_no2 h4) lab, over_push ht h4 la, over_push ht (quPush_no2 h4) lba, over_push ht h4 lb]
    exact set_set (setAll_rise _ ht) a b hc

end Go.Proofs.Ythlkfbiclhgdoaa

end

section

/-
  SMALL LAWS OVER ANY PROGRAM, for the walks of this seat: bytes as cells' values, and a text made of a row of bytes that the call owns.
-/
namespace Go.Proofs.Ythlkfbiclhgdoaa
open Go.RowKit

/-- Bytes as the values of cells. -/
def bvals (l : List UInt8) : List Value := l.map fun b => .int .u8 b.toNat

theorem bytes_at (l : List UInt8) (p : Nat) (h : p < (⟨l.toArray⟩ : ByteArray).size) : l[p]? = some ((⟨l.toArray⟩ : ByteArray)[p]'h) := by
  have h' : p < l.length := by
    have : (⟨l.toArray⟩ : ByteArray).size = l.length := by show l.toArray.size = _; simp
    omega
  rw [List.getElem?_eq_getElem h']
  rfl

theorem size_bytes (l : List UInt8) : (⟨l.toArray⟩ : ByteArray).size = l.length := by show l.toArray.size = _; simp

theorem below2' {w a b : World} (h1 : Below w.heap.size w a) (h2 : Below a.heap.size a b) : Below w.heap.size w b := h1.trans (h2.mono h1.size)

/-- A contract that ends in 'Below', met inside a region that draws its order. -/
theorem rgB {P : Program} {f : FuncId} {args : Array Value} {v : Value} (h : ∀ w, Calls P f args w fun e w' => e = .returned v ∧ Below w.heap.size w w') (w : World) (d : Nat) (os : Array Obj) :
    Calls P f args (Sort.grow (redrawn w d) os) fun e w'' => e = .returned v ∧ ∃ p : Regrown, w'' = Sort.grow (redrawn w p.d) p.os := Calls.regrown_of (h _)

/-- .. one that leaves the world alone. -/
theorem rgS {P : Program} {f : FuncId} {args : Array Value} {v : Value} (h : ∀ w, Calls P f args w fun e w' => e = .returned v ∧ w = w') (w : World) (d : Nat) (os : Array Obj) :
    Calls P f args (Sort.grow (redrawn w d) os) fun e w'' => e = .returned v ∧ ∃ p : Regrown, w'' = Sort.grow (redrawn w p.d) p.os :=
  Calls.regrown_of ((h _).mono fun _ _ ⟨he, hw⟩ => ⟨he, hw ▸ Below.refl _ _⟩)

/-- A slice of integers that came in: nil, or a row of 'cap' cells, the numbers 'zs' (the first 'len' are its elements). -/
def IsRow (k : IntKind) (w : World) (a : Option Addr) (len cap : Nat) (zs : List Int) : Prop :=
  (a = none ∧ len = 0 ∧ cap = 0 ∧ zs = []) ∨
  ∃ x, a = some x ∧ len ≤ cap ∧ cap ≤ maxLen ∧ zs.length = cap ∧ (∀ i, i < zs.length → w.cell? (x.add i) = some (.int k (zs.getD i 0))) ∧ ∀ n ∈ zs, (Lit.int k n).wf = true

theorem IsRow.form {k : IntKind} {w : World} {a : Option Addr} {len cap : Nat} {zs : List Int} (h : IsRow k w a len cap zs) :
    len ≤ zs.length ∧ zs.length ≤ maxLen ∧ (len = 0 ∨ ∃ b off, a = some ⟨b, off, none⟩ ∧ b < w.heap.size ∧ ∀ i, i < len → w.cell? ⟨b, off + i, none⟩ = some (.int k (zs.getD i 0))) ∧ ∀ n ∈ zs, (Lit.int k n).wf = true := by
  rcases h with ⟨rfl, rfl, rfl, rfl⟩ | ⟨x, rfl, hl, hm, hz, hcell, hwz⟩
  · exact ⟨by simp, by simp, .inl rfl, by simp⟩
  · refine ⟨by omega, by omega, ?_, hwz⟩
    by_cases h0 : len = 0
    · exact .inl h0
    · obtain ⟨b, off, spot⟩ := x
      have hc := hcell 0 (by omega)
      have hspot : spot = none := by simpa [Addr.add] using World.cell?_spot hc
      subst hspot
      refine .inr ⟨b, off, rfl, ?_, fun i hi => ?_⟩
      · have := World.block_lt_of_cell? w _ hc
        simpa [Addr.add] using this
      · have := hcell i (by omega)
        rwa [Addr.add_lit] at this

/-- A slice of texts that came in. -/
def IsStrs (w : World) (a : Option Addr) (len cap : Nat) (ss : List ByteArray) : Prop :=
  (a = none ∧ len = 0 ∧ cap = 0 ∧ ss = []) ∨
  ∃ x, a = some x ∧ len ≤ cap ∧ cap ≤ maxLen ∧ ss.length = cap ∧ (∀ i, i < ss.length → w.cell? (x.add i) = some (.string (ss.getD i ByteArray.empty))) ∧ ∀ s ∈ ss, s.size ≤ maxLen

/-- .. each text as the list of its bytes. -/
theorem IsStrs.form {w : World} {a : Option Addr} {len cap : Nat} {ss : List ByteArray} (h : IsStrs w a len cap ss) :
    ∃ ls : List (List UInt8), ls.length = len ∧ len ≤ maxLen ∧ (len = 0 ∨ ∃ b off, a = some ⟨b, off, none⟩ ∧ b < w.heap.size ∧ ∀ i, i < len → w.cell? ⟨b, off + i, none⟩ = some (.string ⟨(ls.getD i []).toArray⟩)) ∧ ∀ l ∈ ls, l.length ≤ maxLen := by
  rcases h with ⟨rfl, rfl, rfl, rfl⟩ | ⟨x, rfl, hl, hm, hz, hcell, hws⟩
  · exact ⟨[], rfl, by simp, .inl rfl, by simp⟩
  · refine ⟨(ss.take len).map fun s => s.data.toList, by simp; omega, by omega, ?_, ?_⟩
    · by_cases h0 : len = 0
      · exact .inl h0
      · obtain ⟨b, off, spot⟩ := x
        have hc := hcell 0 (by omega)
        have hspot : spot = none := by simpa [Addr.add] using World.cell?_spot hc
        subst hspot
        refine .inr ⟨b, off, rfl, ?_, fun i hi => ?_⟩
        · have := World.block_lt_of_cell? w _ hc
          simpa [Addr.add] using this
        · have := hcell i (by omega)
          rw [Addr.add_lit] at this
          rw [this]
          have h1 : i < ss.length := by omega
          simp [List.getD, hi, List.getElem?_eq_getElem h1]
    · intro l hl'
      obtain ⟨s, hs, rfl⟩ := List.mem_map.1 hl'
      have h2 := hws s (List.mem_of_mem_take hs)
      exact Nat.le_trans (Nat.le_of_eq (Array.length_toList (xs := s.data))) h2

end Go.Proofs.Ythlkfbiclhgdoaa

end

section

/-
  THE CONTRACTS OF varint.Put, Size, Text AND OF THE DOCUMENT'S ANSWERS TO THEM: each returns what the plain mathematics says, and writes nothing that was there.
-/
namespace Go.Proofs.Ythlkfbiclhgdoaa
open Go.RowKit

end Go.Proofs.Ythlkfbiclhgdoaa

end

section

/-
  THE CONTRACTS OF varint.Get, Take AND OF THE DOCUMENT'S ANSWERS TO THEM.
-/
namespace Go.Proofs.Ythlkfbiclhgdoaa
open Go.RowKit

/-- Three results: number, place, error. -/
def triple (r : Nat × Nat × Nat) : Value := .tuple #[.int .u64 r.1, .int .i64 r.2.1, .int .i64 r.2.2]

/-- What holds at each jump back. -/
def GetJ (l : List UInt8) (q : Nat) (w : World) (a' : Act) (w' : World) : Prop := w' = w ∧ ∃ (i acc p sh : Nat) (u10 u11 u12 u13 u14 u15 u16 u17 u18 u19 u20 u21 u22 u23 u24 u25 u26 u27 u28 u29 u30 u31 u32 u33 u34 u35 u36 u37 u38 u39 u40 u41 u42 u43 u44 u45 u46 u47 u48 u49 u50 u51 u52 u53 u54 u55 u56 : Value), i ≤ 9 ∧ 1 ≤ i ∧ p ≤ l.length ∧ Hid (GetAt l q i acc p sh) ∧
      a' = { tmps := #[.string ⟨l.toArray⟩, .int .i64 q, undef, undef, .int .u64 0, .int .i64 0, .int .i64 0, .int .u64 acc, .int .u64 sh, .int .i64 p, u10, u11, u12, u13, u14, u15, u16, u17, u18, u19, u20, u21, u22, u23, u24, u25, u26, u27, u28, u29, u30, u31, u32, u33, u34, u35, u36, u37, u38, u39, u40, u41, u42, u43, u44, u45, u46, u47, u48, u49, u50, u51, u52, u53, u54, u55, u56], defers := [] }

def GetM (l : List UInt8) (a' : Act) (_ : World) : Nat := l.length - (intOf (a'.tmps.getD 9 undef)).toNat

end Go.Proofs.Ythlkfbiclhgdoaa

end

section

/-
  THE CONTRACT OF THE DOCUMENT'S ANSWER TO varint.Get.
-/
namespace Go.Proofs.Ythlkfbiclhgdoaa
open Go.RowKit

end Go.Proofs.Ythlkfbiclhgdoaa

end

section

/-
  THE CONTRACTS OF varint.Take AND OF THE DOCUMENT'S ANSWER TO IT.
-/
namespace Go.Proofs.Ythlkfbiclhgdoaa
open Go.RowKit

/-- Three results: text, place, error. -/
def tripleS (r : List UInt8 × Nat × Nat) : Value := .tuple #[.string ⟨r.1.toArray⟩, .int .i64 r.2.1, .int .i64 r.2.2]

end Go.Proofs.Ythlkfbiclhgdoaa

end

section

/-
  TABLES IN MEMORY: rows of five cells; '==' of rows, of changes; THE CONTRACTS OF THE DOCUMENT'S Few AND Same (of tables).
-/
namespace Go.Proofs.Ythlkfbiclhgdoaa
open Go.RowKit

/-- A row's cells. -/
def rowVals (r : Row) : List Value := [.string ⟨r.c.toArray⟩, .int .i64 r.v.sh, .int .i64 r.v.pr, .int .i64 r.v.si, .string ⟨r.v.st.toArray⟩]

def Cells5 (w : World) (b o : Nat) (r : Row) : Prop :=
  w.cell? ⟨b, o, none⟩ = some (.string ⟨r.c.toArray⟩) ∧ w.cell? ⟨b, o + 1, none⟩ = some (.int .i64 r.v.sh) ∧ w.cell? ⟨b, o + 2, none⟩ = some (.int .i64 r.v.pr) ∧
    w.cell? ⟨b, o + 3, none⟩ = some (.int .i64 r.v.si) ∧ w.cell? ⟨b, o + 4, none⟩ = some (.string ⟨r.v.st.toArray⟩)

theorem Cells5.later {w w' : World} {b o : Nat} {r : Row} (h : Cells5 w b o r) (hb : Below w.heap.size w w') (hlt : b < w.heap.size) : Cells5 w' b o r := by
  obtain ⟨h0, h1, h2, h3, h4⟩ := h
  have k : ∀ o, w'.cell? ⟨b, o, none⟩ = w.cell? ⟨b, o, none⟩ := fun o => hb.cell (p := ⟨b, o, none⟩) hlt
  exact ⟨(k _).trans h0, (k _).trans h1, (k _).trans h2, (k _).trans h3, (k _).trans h4⟩

/-- Which table a slice holds. -/
def Tab (w : World) (v : Value) (t : List Row) : Prop :=
  ∃ a cap, v = .slice a t.length cap ∧ t.length ≤ cap ∧ cap ≤ maxLen ∧ (a = none → cap = 0) ∧
    (t = [] ∨ ∃ b off, a = some ⟨b, off, none⟩ ∧ b < w.heap.size ∧ ∀ i, i < t.length → Cells5 w b (off + i * 5) (t.getD i Row.zero))

theorem Tab.later {w w' : World} {v : Value} {t : List Row} (h : Tab w v t) (hb : Below w.heap.size w w') : Tab w' v t := by
  obtain ⟨a, cap, h1, h2, h3, h4, h5⟩ := h
  refine ⟨a, cap, h1, h2, h3, h4, ?_⟩
  rcases h5 with h5 | ⟨b, off, e, hlt, hc⟩
  · exact .inl h5
  · exact .inr ⟨b, off, e, Nat.lt_of_lt_of_le hlt hb.size, fun i hi => (hc i hi).later hb hlt⟩

theorem tab_nil (w : World) : Tab w (.slice none 0 0) [] := ⟨none, 0, rfl, by simp, by simp, fun _ => rfl, .inl rfl⟩

/-- A row of a table, in a later world. -/
theorem Tab.row {w wr : World} {a : Option Addr} {n cap : Nat} {t : List Row} (h : Tab w (.slice a n cap) t) (hb : Below w.heap.size w wr) (k : Nat) (hk : k < t.length) :
    ∃ b off, a = some ⟨b, off, none⟩ ∧ Cells5 wr b (off + k * 5) (t.getD k Row.zero) := by
  obtain ⟨a', cap', e, _, _, _, h⟩ := h.later hb
  simp only [Value.slice.injEq] at e
  rcases h with h | ⟨b, off, e', _, hc⟩
  · rw [h] at hk; simp at hk
  · exact ⟨b, off, e.1.trans e', hc k hk⟩

theorem Tab.open' {w : World} {v : Value} {t : List Row} (h : Tab w v t) : ∃ a cap, v = .slice a t.length cap ∧ t.length ≤ 9223372036854775807 := by
  obtain ⟨a, cap, e, h1, h2, _⟩ := h
  unfold maxLen at h2
  exact ⟨a, cap, e, by omega⟩

/-- Texts that the contracts below serve. -/
def Short (t : List Row) : Prop := ∀ r ∈ t, r.c.length ≤ 4294967296 ∧ r.v.st.length ≤ 4294967296

theorem Short.get {t : List Row} (h : Short t) {k : Nat} (hk : k < t.length) : (t.getD k Row.zero).c.length ≤ 4294967296 ∧ (t.getD k Row.zero).v.st.length ≤ 4294967296 := by
  rw [← row_get hk]
  exact h _ (List.getElem_mem hk)

/-! ### '==' -/

theorem val_eqIn (d : Nat) (a b c a' b' c' : Int) (s s' : List UInt8) (w : World) :
    (Op.equalIn (d + 1 + 1) 31 (.agg #[.int .i64 a, .int .i64 b, .int .i64 c, .string ⟨s.toArray⟩]) (.agg #[.int .i64 a', .int .i64 b', .int .i64 c', .string ⟨s'.toArray⟩])).run Try.prog w = .ok (vSame ⟨a, b, c, s⟩ ⟨a', b', c', s'⟩) w := by
  have hS : Try.prog.underlying 31 = some (.struct (Try.prog.fieldsOf 31)) := by kernel_rfl
  have hp : Try.prog.stoodInHeld 31 = false := by kernel_rfl
  have u3 := Try.underlying3
  have u9 := Try.underlying9
  have a3 := Try.isAgg3
  have z3 := Try.sizeOf3
  have a9 := Try.isAgg9
  have z9 := Try.sizeOf9
  rw [run_equalIn_agg w (d + 1) 31 _ _ hS hp]
  simp only [Program.fieldsOf, Try.underlying31]
  go_simp
  unfold vSame
  by_cases h1 : a = a' <;> by_cases h2 : b = b' <;> by_cases h3 : c = c' <;> by_cases h4 : s = s' <;> simp [h1, h2, h3, h4]

theorem val_eql5 (a b c a' b' c' : Int) (s s' : List UInt8) (w : World) :
    (binOp .eql 31 (.agg #[.int .i64 a, .int .i64 b, .int .i64 c, .string ⟨s.toArray⟩]) (.agg #[.int .i64 a', .int .i64 b', .int .i64 c', .string ⟨s'.toArray⟩])).run Try.prog w = .ok (.bool (vSame ⟨a, b, c, s⟩ ⟨a', b', c', s'⟩)) w := by
  rw [run_eql_struct, show (10000 : Nat) = 9998 + 1 + 1 from rfl, val_eqIn 9998]
  rfl

theorem row_eqIn (d : Nat) (k k' : List UInt8) (a b c a' b' c' : Int) (s s' : List UInt8) (w : World) :
    (Op.equalIn (d + 1 + 1 + 1) 72 (.agg #[.string ⟨k.toArray⟩, .int .i64 a, .int .i64 b, .int .i64 c, .string ⟨s.toArray⟩]) (.agg #[.string ⟨k'.toArray⟩, .int .i64 a', .int .i64 b', .int .i64 c', .string ⟨s'.toArray⟩])).run Try.prog w = .ok (rSame ⟨k, a, b, c, s⟩ ⟨k', a', b', c', s'⟩) w := by
  have hS : Try.prog.underlying 72 = some (.struct (Try.prog.fieldsOf 72)) := by kernel_rfl
  have hp : Try.prog.stoodInHeld 72 = false := by kernel_rfl
  have u9 := Try.underlying9
  have a9 := Try.isAgg9
  have z9 := Try.sizeOf9
  have a35 := Try.isAgg31
  have z35 := Try.sizeOf31
  have hv := fun w => val_eqIn d a b c a' b' c' s s' w
  rw [run_equalIn_agg w (d + 1 + 1) 72 _ _ hS hp]
  simp only [Program.fieldsOf, Try.underlying72]
  clear hS hp
  go_simp
  unfold rSame
  by_cases hk : k = k'
  · subst hk
    cases vSame ⟨a, b, c, s⟩ ⟨a', b', c', s'⟩ <;> simp
  · have : (k == k') = false := by simpa using hk
    rw [if_neg hk]
    simp [this]

theorem row_neq5 (k k' : List UInt8) (a b c a' b' c' : Int) (s s' : List UInt8) (w : World) :
    (binOp .neq 72 (.agg #[.string ⟨k.toArray⟩, .int .i64 a, .int .i64 b, .int .i64 c, .string ⟨s.toArray⟩]) (.agg #[.string ⟨k'.toArray⟩, .int .i64 a', .int .i64 b', .int .i64 c', .string ⟨s'.toArray⟩])).run Try.prog w = .ok (.bool (!rSame ⟨k, a, b, c, s⟩ ⟨k', a', b', c', s'⟩)) w := by
  rw [run_neq_struct, show (10000 : Nat) = 9997 + 1 + 1 + 1 from rfl, row_eqIn 9997]
  rfl

theorem chg_eqIn (d : Nat) (k k' : List UInt8) (o o' : Bool) (a b c a' b' c' : Int) (s s' : List UInt8) (w : World) :
    (Op.equalIn (d + 1 + 1 + 1) 33 (.agg #[.string ⟨k.toArray⟩, .bool o, .int .i64 a, .int .i64 b, .int .i64 c, .string ⟨s.toArray⟩]) (.agg #[.string ⟨k'.toArray⟩, .bool o', .int .i64 a', .int .i64 b', .int .i64 c', .string ⟨s'.toArray⟩])).run Try.prog w = .ok (cSame ⟨k, o, a, b, c, s⟩ ⟨k', o', a', b', c', s'⟩) w := by
  have hS : Try.prog.underlying 33 = some (.struct (Try.prog.fieldsOf 33)) := by kernel_rfl
  have hp : Try.prog.stoodInHeld 33 = false := by kernel_rfl
  have u4 := Try.underlying4
  have a4 := Try.isAgg4
  have z4 := Try.sizeOf4
  have u9 := Try.underlying9
  have a9 := Try.isAgg9
  have z9 := Try.sizeOf9
  have a35 := Try.isAgg31
  have z35 := Try.sizeOf31
  have hv := fun w => val_eqIn d a b c a' b' c' s s' w
  rw [run_equalIn_agg w (d + 1 + 1) 33 _ _ hS hp]
  simp only [Program.fieldsOf, Try.underlying33]
  clear hS hp
  go_simp
  unfold cSame
  by_cases hk : k = k'
  · subst hk
    cases o <;> cases o' <;> cases vSame ⟨a, b, c, s⟩ ⟨a', b', c', s'⟩ <;> simp
  · have : (k == k') = false := by simpa using hk
    rw [if_neg hk]
    simp [this]

theorem chg_neq6 (k k' : List UInt8) (o o' : Bool) (a b c a' b' c' : Int) (s s' : List UInt8) (w : World) :
    (binOp .neq 33 (.agg #[.string ⟨k.toArray⟩, .bool o, .int .i64 a, .int .i64 b, .int .i64 c, .string ⟨s.toArray⟩]) (.agg #[.string ⟨k'.toArray⟩, .bool o', .int .i64 a', .int .i64 b', .int .i64 c', .string ⟨s'.toArray⟩])).run Try.prog w = .ok (.bool (!cSame ⟨k, o, a, b, c, s⟩ ⟨k', o', a', b', c', s'⟩)) w := by
  rw [run_neq_struct, show (10000 : Nat) = 9997 + 1 + 1 + 1 from rfl, chg_eqIn 9997]
  rfl

theorem chg_eql6 (k k' : List UInt8) (o o' : Bool) (a b c a' b' c' : Int) (s s' : List UInt8) (w : World) :
    (binOp .eql 33 (.agg #[.string ⟨k.toArray⟩, .bool o, .int .i64 a, .int .i64 b, .int .i64 c, .string ⟨s.toArray⟩]) (.agg #[.string ⟨k'.toArray⟩, .bool o', .int .i64 a', .int .i64 b', .int .i64 c', .string ⟨s'.toArray⟩])).run Try.prog w = .ok (.bool (cSame ⟨k, o, a, b, c, s⟩ ⟨k', o', a', b', c', s'⟩)) w := by
  rw [run_eql_struct, show (10000 : Nat) = 9997 + 1 + 1 + 1 from rfl, chg_eqIn 9997]
  rfl

/-! ### Few -/

def fewT (t : List Row) : Bool := decide (t.length ≤ 40) && t.all fun r => decide (r.c.length ≤ 60) && decide (r.v.st.length ≤ 100)

theorem fewT_yes {t : List Row} (h : fewT t = true) : t.length ≤ 40 ∧ ∀ r ∈ t, r.c.length ≤ 60 ∧ r.v.st.length ≤ 100 := by
  unfold fewT at h
  simp only [Bool.and_eq_true, decide_eq_true_eq, List.all_eq_true] at h
  exact h

theorem fewT_short {t : List Row} (h : fewT t = true) : Short t := fun r hr => by
  have := (fewT_yes h).2 r hr
  omega

theorem fewT_off {t : List Row} {k : Nat} (hk : k < t.length) (h : 60 < (t.getD k Row.zero).c.length ∨ 100 < (t.getD k Row.zero).v.st.length) : fewT t = false := by
  rw [Bool.eq_false_iff]
  intro h'
  have hm : t.getD k Row.zero ∈ t := by rw [← row_get hk]; exact List.getElem_mem hk
  have := (fewT_yes h').2 _ hm
  omega

theorem fewT_on {t : List Row} (h1 : t.length ≤ 40) (h2 : ∀ k, k < t.length → (t.getD k Row.zero).c.length ≤ 60 ∧ (t.getD k Row.zero).v.st.length ≤ 100) : fewT t = true := by
  unfold fewT
  simp only [Bool.and_eq_true, decide_eq_true_eq, List.all_eq_true]
  refine ⟨h1, fun r hr => ?_⟩
  obtain ⟨k, hk, rfl⟩ := List.getElem_of_mem hr
  rw [row_get hk]
  exact h2 k hk

set_option maxHeartbeats 400000 in
set_option maxRecDepth 100000 in
theorem fewt_any {w : World} {v : Value} {t : List Row} (hv : Tab w v t) :
    Calls Try.prog 10 #[v] w fun e w' => e = .returned (.bool (fewT t)) ∧ w = w' := by
  have HV := Lib.hid hv
  obtain ⟨a, cap, rfl, hm⟩ := hv.open'
  clear hv
  by_cases h : 40 < t.length
  · have HR : Hid (fewT t = false) := by show _ = _; unfold fewT; simp; omega
    go_enter Try.func10, Try.ntmps10
    go_wp2_with fail
    go_ret
    exact ⟨by rw [HR.out]; rfl, rfl⟩
  · go_enter Try.func10, Try.ntmps10
    go_wp2_with fail
    go_loop [3] (fun i => ∃ k : Nat, k ≤ t.length ∧ i = .int .i64 k ∧ Hid (∀ j, j < k → (t.getD j Row.zero).c.length ≤ 60 ∧ (t.getD j Row.zero).v.st.length ≤ 100)) (fun i => t.length - (intOf i).toNat)
    case atStart => exact ⟨0, by omega, rfl, fun j hj => absurd hj (by omega)⟩
    case round =>
      obtain ⟨k, hk, rfl, HA⟩ := hrel
      by_cases hlt : k < t.length
      · obtain ⟨b, off, rfl, h0, h1, h2, h3, h4⟩ := HV.out.row (Below.refl _ _) k hlt
        obtain ⟨r, hr⟩ : ∃ r, t.getD k Row.zero = r := ⟨_, rfl⟩
        rw [hr] at h0 h1 h2 h3 h4
        have HRr := Lib.hid hr
        clear hr
        by_cases hn : 60 < r.c.length
        · have HR : Hid (fewT t = false) := by show _ = _; exact fewT_off hlt (.inl (by rw [HRr.out]; exact hn))
          have t1 : decide (60 < r.c.length) = true := by simpa using hn
          go_wp2_with fail
          go_ret
          exact ⟨by rw [HR.out]; rfl, rfl⟩
        · by_cases hs : 100 < r.v.st.length
          · have HR : Hid (fewT t = false) := by show _ = _; exact fewT_off hlt (.inr (by rw [HRr.out]; exact hs))
            go_wp2_with fail
            go_ret
            exact ⟨by rw [HR.out]; rfl, rfl⟩
          · have HN : Hid (∀ j, j < k + 1 → (t.getD j Row.zero).c.length ≤ 60 ∧ (t.getD j Row.zero).v.st.length ≤ 100) := by
              show ∀ j, j < k + 1 → _
              intro j hj
              by_cases hjk : j = k
              · rw [hjk, HRr.out]; omega
              · exact HA.out j (by omega)
            go_wp2_with fail
            go_round
            case rel => exact ⟨k + 1, by omega, by go_num, HN⟩
            case measure => simp [intOf]; omega
      · obtain rfl : k = t.length := by omega
        have HR : Hid (fewT t = true) := by show _ = _; exact fewT_on (by omega) HA.out
        go_wp2_with fail
        go_ret
        exact ⟨by rw [HR.out]; rfl, rfl⟩

theorem fewt_eq {w : World} {v : Value} {t : List Row} (hv : Tab w v t) {r : Bool} (h : Hid (fewT t = r)) :
    Calls Try.prog 10 #[v] w fun e w' => e = .returned (.bool r) ∧ w = w' := by
  have := fewt_any hv
  rwa [h.out] at this

/-! ### Two tables -/

theorem tSame_next {t u : List Row} {k : Nat} (h : (List.range k).all (fun i => rSame (t.getD i Row.zero) (u.getD i Row.zero)) = true) (hk : rSame (t.getD k Row.zero) (u.getD k Row.zero) = true) :
    (List.range (k + 1)).all (fun i => rSame (t.getD i Row.zero) (u.getD i Row.zero)) = true := range_all_succ h hk

set_option maxHeartbeats 800000 in
set_option maxRecDepth 100000 in
theorem tsame_any {w : World} {v u : Value} {t s : List Row} (hv : Tab w v t) (hu : Tab w u s) :
    Calls Try.prog 23 #[v, u] w fun e w' => e = .returned (.bool (tSame t s)) ∧ Below w.heap.size w w' := by
  have HV := Lib.hid hv
  have HU := Lib.hid hu
  obtain ⟨a, cap, rfl, hm⟩ := hv.open'
  obtain ⟨a2, cap2, rfl, hm2⟩ := hu.open'
  clear hv hu
  by_cases hl : t.length = s.length
  · have HL := Lib.hid hl
    have t1 : ((t.length : Int) != (s.length : Int)) = false := by simp [hl]
    clear hl
    go_enter Try.func23, Try.ntmps23
    go_wp2_with fail
    go_loopw [5] (fun i wr => ∃ k : Nat, k ≤ t.length ∧ i = .int .i64 k ∧ Hid (Below w.heap.size w wr) ∧ Hid ((List.range k).all (fun i => rSame (t.getD i Row.zero) (s.getD i Row.zero)) = true)) (fun i _ => t.length - (intOf i).toNat)
    case atStart => exact ⟨0, by omega, rfl, Below.refl _ _, by show _ = _; simp⟩
    case round =>
      obtain ⟨k, hk, rfl, HN, HA⟩ := hrel
      by_cases hlt : k < t.length
      · obtain ⟨b, off, rfl, h0, h1, h2, h3, h4⟩ := HV.out.row HN.out k hlt
        obtain ⟨b2, off2, rfl, i0, i1, i2, i3, i4⟩ := HU.out.row HN.out k (by rw [← HL.out]; exact hlt)
        have hlt2 : k < s.length := by rw [← HL.out]; exact hlt
        obtain ⟨⟨c, ⟨x, y, z, st⟩⟩, hr⟩ : ∃ r, t.getD k Row.zero = r := ⟨_, rfl⟩
        obtain ⟨⟨c', ⟨x', y', z', st'⟩⟩, hr'⟩ : ∃ r, s.getD k Row.zero = r := ⟨_, rfl⟩
        rw [hr] at h0 h1 h2 h3 h4
        rw [hr'] at i0 i1 i2 i3 i4
        have hgd : Try.prog.eqGuardType Try.prog.depth 72 = false := by kernel_rfl
        have hne := row_neq5 c c' x y z x' y' z' st st'
        cases hs : rSame ⟨c, x, y, z, st⟩ ⟨c', x', y', z', st'⟩ with
        | false =>
          have HR : Hid (tSame t s = false) := by show _ = _; exact tSame_off hlt (by rw [hr, hr']; exact hs)
          rw [hs] at hne
          simp only at h0 h1 h2 h3 h4 i0 i1 i2 i3 i4
          clear hr hr' hs
          go_wp2_with fail
          go_region
          go_wp2_with fail
          go_ret
          exact ⟨by rw [HR.out]; rfl, HN.out.drew⟩
        | true =>
          have HA2 : Hid ((List.range (k + 1)).all (fun i => rSame (t.getD i Row.zero) (s.getD i Row.zero)) = true) := by show _ = _; exact tSame_next HA.out (by rw [hr, hr']; exact hs)
          rw [hs] at hne
          simp only at h0 h1 h2 h3 h4 i0 i1 i2 i3 i4
          clear hr hr' hs
          go_wp2_with fail
          go_region
          go_wp2_with fail
          go_roundw
          case rel => exact ⟨k + 1, by omega, by go_num, HN.out.drew, HA2⟩
          case measure => simp [intOf]; omega
      · obtain rfl : k = t.length := by omega
        have HR : Hid (tSame t s = true) := by show _ = _; exact tSame_on HL.out HA.out
        go_wp2_with fail
        go_ret
        exact ⟨by rw [HR.out]; rfl, HN.out⟩
  · have HR := Lib.hid (tSame_len hl)
    have t1 : ((t.length : Int) != (s.length : Int)) = true := by simp; omega
    clear hl
    go_enter Try.func23, Try.ntmps23
    go_wp2_with fail
    go_ret
    exact ⟨by rw [HR.out]; rfl, Below.refl _ _⟩

theorem tsame_eq {w : World} {v u : Value} {t s : List Row} (hv : Tab w v t) (hu : Tab w u s) {r : Bool} (h : Hid (tSame t s = r)) :
    Calls Try.prog 23 #[v, u] w fun e w' => e = .returned (.bool r) ∧ Below w.heap.size w w' := by
  have := tsame_any hv hu
  rwa [h.out] at this

end Go.Proofs.Ythlkfbiclhgdoaa

end

section

/-
  CONTRACTS OF GO'S OWN LIBRARY AT THIS PROGRAM, LAID WITHOUT A WALK: the tables of numbers and one application each (strings.Builder, strings.Compare, cmp.Compare, slices.Compact, slices.SortFunc).
-/
namespace Go.Proofs.Ythlkfbiclhgdoaa
open Go.Shelf Go.RowKit

def Try.lays169_ren : Go.Shelf.Ren := ⟨fun | 169 => 113 | n => n, fun | 70 => 140 | 9 => 9 | 0 => 0 | 72 => 143 | 37 => 141 | 127 => 159 | 3 => 3 | 5 => 5 | n => n, fun | n => n⟩

def Try.lays106_ren : Go.Shelf.Ren := ⟨fun | 106 => 94 | 213 => 108 | 265 => 119 | n => n, fun | 9 => 9 | 3 => 3 | n => n, fun | n => n⟩

theorem Try.lays106 : Go.Proofs.Lays.n106 Try.prog Try.lays106_ren := {
  mixed := by kernel_rfl
  f106 := Try.func94.trans (congrArg some (by kernel_rfl))
  f213 := Try.func108.trans (congrArg some (by kernel_rfl))
  f265 := Try.func119.trans (congrArg some (by kernel_rfl))
  t3 := Try.underlying3
  a3 := Try.isAgg3
  z3 := Try.sizeOf3
  v3 := Try.zeroValue3
  t9 := Try.underlying9
  a9 := Try.isAgg9
  z9 := Try.sizeOf9
  v9 := Try.zeroValue9 }

open Go.RowKit in
theorem Try.strings_Compare (a b : ByteArray) (w : World) :
    Calls Try.prog 94 #[.string a, .string b] w fun e w' => e = .returned (.int .i64 (Lib.compareBytes a.data.toList b.data.toList)) ∧ w' = w := Any.strings_Compare Try.lays106 a b w

def Try.lays122_ren : Go.Shelf.Ren := ⟨fun | 122 => 93 | 215 => 107 | n => n, fun | 3 => 3 | 4 => 4 | n => n, fun | n => n⟩

theorem Try.lays122 : Go.Proofs.Lays.n122 Try.prog Try.lays122_ren := {
  mixed := by kernel_rfl
  f122 := Try.func93.trans (congrArg some (by kernel_rfl))
  f215 := Try.func107.trans (congrArg some (by kernel_rfl))
  t3 := Try.underlying3
  a3 := Try.isAgg3
  z3 := Try.sizeOf3
  v3 := Try.zeroValue3
  t4 := Try.underlying4
  a4 := Try.isAgg4
  z4 := Try.sizeOf4
  v4 := Try.zeroValue4 }

open Go.RowKit in
theorem Try.cmp_Compare_int (x y : Int) (w : World) :
    Calls Try.prog 93 #[.int .i64 x, .int .i64 y] w fun e w' => e = .returned (.int .i64 (Lib.compareInt x y)) ∧ w' = w := Any.cmp_Compare_int Try.lays122 x y w

open Go.RowKit in
def Try.lays194_ren : Go.Shelf.Ren := ⟨fun | 194 => 85 | n => n, fun | 31 => 101 | 9 => 9 | 3 => 3 | 4 => 4 | 0 => 0 | n => n, fun | n => n⟩

theorem Try.lays194 : Go.Proofs.Lays.n194 Try.prog Try.lays194_ren := {
  mixed := by kernel_rfl
  f194 := Try.func85.trans (congrArg some (by kernel_rfl))
  t0 := Try.underlying0
  a0 := Try.isAgg0
  z0 := Try.sizeOf0
  v0 := Try.zeroValue0
  t3 := Try.underlying3
  a3 := Try.isAgg3
  z3 := Try.sizeOf3
  v3 := Try.zeroValue3
  t4 := Try.underlying4
  a4 := Try.isAgg4
  z4 := Try.sizeOf4
  v4 := Try.zeroValue4
  t9 := Try.underlying9
  a9 := Try.isAgg9
  z9 := Try.sizeOf9
  v9 := Try.zeroValue9
  t31 := Try.underlying101
  a31 := Try.isAgg101
  z31 := Try.sizeOf101
  v31 := Try.zeroValue101 }

open Go.RowKit Go.Lib Go.Sort in
theorem Try.slices_Compact_string_empty (a : Option Addr) (cap : Nat) (w : World) :
    Calls Try.prog 85 #[.slice a 0 cap] w fun e w' => e = .returned (.slice a 0 cap) ∧ w' = w := Any.slices_Compact_string_empty Try.lays194 a cap w

def Try.laysSlE43_f37_ren : Go.Shelf.Ren := ⟨fun | 43 => 85 | n => n, fun | 22 => 101 | 23 => 9 | 3 => 3 | 4 => 4 | 0 => 0 | n => n, fun | n => n⟩

theorem Try.laysSlE43_f37 : Go.Proofs.SlLaysE.n43 Try.prog Try.laysSlE43_f37_ren := {
  mixed := by kernel_rfl
  f43 := ⟨Try.f85.name, by decide, Try.func85.trans (congrArg some (by kernel_rfl))⟩
  t0 := Try.underlying0
  a0 := Try.isAgg0
  z0 := Try.sizeOf0
  v0 := Try.zeroValue0
  t3 := Try.underlying3
  a3 := Try.isAgg3
  z3 := Try.sizeOf3
  v3 := Try.zeroValue3
  t4 := Try.underlying4
  a4 := Try.isAgg4
  z4 := Try.sizeOf4
  v4 := Try.zeroValue4
  t22 := Try.underlying101
  a22 := Try.isAgg101
  z22 := Try.sizeOf101
  v22 := Try.zeroValue101
  a23 := Try.isAgg9
  z23 := Try.sizeOf9 }

open Go.RowKit Go.Lib Go.Sort in
theorem Try.slices_Compact {α : Type} [Inhabited α] [DecidableEq α] (enc : α → Value) (hO : OneCell enc) (heq : EqlAt Try.prog 9 enc (fun x y => decide (x = y))) (hne : NeqAt Try.prog 9 enc (fun x y => decide (x = y))) (zr : α) (v23 : ∀ w, (zeroValue 9).run Try.prog w = .ok (enc zr) w) (blk off cap : Nat) (d : Array α) (w : World) (hH : Holds enc w blk off d) (hsz : d.size ≤ 9223372036854775807) (hcap : d.size ≤ cap) :
    Calls Try.prog 85 #[.slice (some ⟨blk, off, none⟩) d.size cap] w fun e w' => e = .returned (.slice (some ⟨blk, off, none⟩) (compactUpTo d d.size).length cap) ∧ ∃ q, w' = putRow enc (Sort.ahead w q) blk off (compactUpTo d d.size ++ List.replicate (d.size - (compactUpTo d d.size).length) zr).toArray := AnyE.slices_Compact Try.laysSlE43_f37 enc hO heq hne zr v23 blk off cap d w hH hsz hcap

def Try.laysSlF6_f36_ren : Go.Shelf.Ren := ⟨fun | 6 => 83 | 15 => 91 | 14 => 90 | 28 => 105 | 29 => 106 | 20 => 97 | 21 => 98 | 22 => 99 | 23 => 100 | 24 => 101 | 25 => 102 | 26 => 103 | 27 => 104 | 46 => 114 | 47 => 115 | 48 => 116 | 49 => 117 | 50 => 118 | 57 => 122 | n => n, fun | 22 => 101 | 24 => 9 | 25 => 115 | 3 => 3 | 39 => 124 | 0 => 0 | 53 => 138 | 55 => 65 | 4 => 4 | 46 => 132 | 45 => 131 | 50 => 78 | 5 => 5 | 9 => 9 | 66 => 152 | 70 => 156 | 76 => 160 | 77 => 161 | n => n, fun | n => n⟩

theorem Try.laysSlF6_f36 : Go.Proofs.SlLaysF.n6 Try.prog Try.laysSlF6_f36_ren := {
  mixed := by kernel_rfl
  f6 := ⟨Try.f83.name, by decide, Try.func83.trans (congrArg some (by kernel_rfl))⟩
  f14 := ⟨Try.f90.name, by decide, Try.func90.trans (congrArg some (by kernel_rfl))⟩
  f15 := Try.func91.trans (congrArg some (by kernel_rfl))
  f20 := ⟨Try.f97.name, by decide, Try.func97.trans (congrArg some (by kernel_rfl))⟩
  f21 := ⟨Try.f98.name, by decide, Try.func98.trans (congrArg some (by kernel_rfl))⟩
  f22 := ⟨Try.f99.name, by decide, Try.func99.trans (congrArg some (by kernel_rfl))⟩
  f23 := ⟨Try.f100.name, by decide, Try.func100.trans (congrArg some (by kernel_rfl))⟩
  f24 := ⟨Try.f101.name, by decide, Try.func101.trans (congrArg some (by kernel_rfl))⟩
  f25 := ⟨Try.f102.name, by decide, Try.func102.trans (congrArg some (by kernel_rfl))⟩
  f26 := ⟨Try.f103.name, by decide, Try.func103.trans (congrArg some (by kernel_rfl))⟩
  f27 := ⟨Try.f104.name, by decide, Try.func104.trans (congrArg some (by kernel_rfl))⟩
  f28 := Try.func105.trans (congrArg some (by kernel_rfl))
  f29 := Try.func106.trans (congrArg some (by kernel_rfl))
  f46 := ⟨Try.f114.name, by decide, Try.func114.trans (congrArg some (by kernel_rfl))⟩
  f47 := Try.func115.trans (congrArg some (by kernel_rfl))
  f48 := Try.func116.trans (congrArg some (by kernel_rfl))
  f49 := ⟨Try.f117.name, by decide, Try.func117.trans (congrArg some (by kernel_rfl))⟩
  f50 := ⟨Try.f118.name, by decide, Try.func118.trans (congrArg some (by kernel_rfl))⟩
  f57 := ⟨Try.f122.name, by decide, Try.func122.trans (congrArg some (by kernel_rfl))⟩
  t0 := Try.underlying0
  a0 := Try.isAgg0
  z0 := Try.sizeOf0
  v0 := Try.zeroValue0
  t3 := Try.underlying3
  a3 := Try.isAgg3
  z3 := Try.sizeOf3
  v3 := Try.zeroValue3
  t4 := Try.underlying4
  a4 := Try.isAgg4
  z4 := Try.sizeOf4
  v4 := Try.zeroValue4
  t5 := Try.underlying5
  a5 := Try.isAgg5
  z5 := Try.sizeOf5
  v5 := Try.zeroValue5
  t9 := Try.underlying9
  a9 := Try.isAgg9
  z9 := Try.sizeOf9
  v9 := Try.zeroValue9
  t22 := Try.underlying101
  a22 := Try.isAgg101
  z22 := Try.sizeOf101
  v22 := Try.zeroValue101
  a24 := Try.isAgg9
  z24 := Try.sizeOf9
  t25 := Try.underlying115
  a25 := Try.isAgg115
  z25 := Try.sizeOf115
  v25 := Try.zeroValue115
  t39 := Try.underlying124
  a39 := Try.isAgg124
  z39 := Try.sizeOf124
  v39 := Try.zeroValue124
  t45 := Try.underlying131
  a45 := Try.isAgg131
  z45 := Try.sizeOf131
  v45 := Try.zeroValue131
  t46 := Try.underlying132
  a46 := Try.isAgg132
  z46 := Try.sizeOf132
  v46 := Try.zeroValue132
  t50 := Try.underlying78
  a50 := Try.isAgg78
  z50 := Try.sizeOf78
  v50 := Try.zeroValue78
  t53 := Try.underlying138
  a53 := Try.isAgg138
  z53 := Try.sizeOf138
  v53 := Try.zeroValue138
  t55 := Try.underlying65
  a55 := Try.isAgg65
  z55 := Try.sizeOf65
  v55 := Try.zeroValue65
  t66 := Try.underlying152
  a66 := Try.isAgg152
  z66 := Try.sizeOf152
  v66 := Try.zeroValue152
  t70 := Try.underlying156
  a70 := Try.isAgg156
  z70 := Try.sizeOf156
  v70 := Try.zeroValue156
  t76 := Try.underlying160
  a76 := Try.isAgg160
  z76 := Try.sizeOf160
  v76 := Try.zeroValue160
  t77 := Try.underlying161
  a77 := Try.isAgg161
  z77 := Try.sizeOf161
  v77 := Try.zeroValue161 }

def Try.laysSlF06_f36_ren : Go.Shelf.Ren := ⟨fun | 6 => 83 | 15 => 91 | 14 => 90 | 28 => 105 | 29 => 106 | 20 => 97 | 21 => 98 | 22 => 99 | 23 => 100 | 24 => 101 | 25 => 102 | 26 => 103 | 27 => 104 | 46 => 114 | 47 => 115 | 48 => 116 | 49 => 117 | 50 => 118 | 57 => 122 | n => n, fun | 22 => 101 | 24 => 9 | 25 => 115 | 3 => 3 | 39 => 124 | 0 => 0 | 53 => 138 | 55 => 65 | 4 => 4 | 46 => 132 | 45 => 131 | 50 => 78 | 5 => 5 | 9 => 9 | 66 => 152 | 70 => 156 | 76 => 160 | 77 => 161 | n => n, fun | n => n⟩

theorem Try.laysSlF06_f36 : Go.Proofs.SlLaysF0.n6 Try.prog Try.laysSlF06_f36_ren := {
  mixed := by kernel_rfl
  f6 := ⟨Try.f83.name, by decide, Try.func83.trans (congrArg some (by kernel_rfl))⟩
  f14 := ⟨Try.f90.name, by decide, Try.func90.trans (congrArg some (by kernel_rfl))⟩
  f15 := Try.func91.trans (congrArg some (by kernel_rfl))
  f20 := ⟨Try.f97.name, by decide, Try.func97.trans (congrArg some (by kernel_rfl))⟩
  f21 := ⟨Try.f98.name, by decide, Try.func98.trans (congrArg some (by kernel_rfl))⟩
  f22 := ⟨Try.f99.name, by decide, Try.func99.trans (congrArg some (by kernel_rfl))⟩
  f23 := ⟨Try.f100.name, by decide, Try.func100.trans (congrArg some (by kernel_rfl))⟩
  f24 := ⟨Try.f101.name, by decide, Try.func101.trans (congrArg some (by kernel_rfl))⟩
  f25 := ⟨Try.f102.name, by decide, Try.func102.trans (congrArg some (by kernel_rfl))⟩
  f26 := ⟨Try.f103.name, by decide, Try.func103.trans (congrArg some (by kernel_rfl))⟩
  f27 := ⟨Try.f104.name, by decide, Try.func104.trans (congrArg some (by kernel_rfl))⟩
  f28 := Try.func105.trans (congrArg some (by kernel_rfl))
  f29 := Try.func106.trans (congrArg some (by kernel_rfl))
  f46 := ⟨Try.f114.name, by decide, Try.func114.trans (congrArg some (by kernel_rfl))⟩
  f47 := Try.func115.trans (congrArg some (by kernel_rfl))
  f48 := Try.func116.trans (congrArg some (by kernel_rfl))
  f49 := ⟨Try.f117.name, by decide, Try.func117.trans (congrArg some (by kernel_rfl))⟩
  f50 := ⟨Try.f118.name, by decide, Try.func118.trans (congrArg some (by kernel_rfl))⟩
  f57 := ⟨Try.f122.name, by decide, Try.func122.trans (congrArg some (by kernel_rfl))⟩
  t0 := Try.underlying0
  a0 := Try.isAgg0
  z0 := Try.sizeOf0
  v0 := Try.zeroValue0
  t3 := Try.underlying3
  a3 := Try.isAgg3
  z3 := Try.sizeOf3
  v3 := Try.zeroValue3
  t4 := Try.underlying4
  a4 := Try.isAgg4
  z4 := Try.sizeOf4
  v4 := Try.zeroValue4
  t5 := Try.underlying5
  a5 := Try.isAgg5
  z5 := Try.sizeOf5
  v5 := Try.zeroValue5
  t9 := Try.underlying9
  a9 := Try.isAgg9
  z9 := Try.sizeOf9
  v9 := Try.zeroValue9
  t22 := Try.underlying101
  a22 := Try.isAgg101
  z22 := Try.sizeOf101
  v22 := Try.zeroValue101
  t25 := Try.underlying115
  a25 := Try.isAgg115
  z25 := Try.sizeOf115
  v25 := Try.zeroValue115
  t39 := Try.underlying124
  a39 := Try.isAgg124
  z39 := Try.sizeOf124
  v39 := Try.zeroValue124
  t45 := Try.underlying131
  a45 := Try.isAgg131
  z45 := Try.sizeOf131
  v45 := Try.zeroValue131
  t46 := Try.underlying132
  a46 := Try.isAgg132
  z46 := Try.sizeOf132
  v46 := Try.zeroValue132
  t50 := Try.underlying78
  a50 := Try.isAgg78
  z50 := Try.sizeOf78
  v50 := Try.zeroValue78
  t53 := Try.underlying138
  a53 := Try.isAgg138
  z53 := Try.sizeOf138
  v53 := Try.zeroValue138
  t55 := Try.underlying65
  a55 := Try.isAgg65
  z55 := Try.sizeOf65
  v55 := Try.zeroValue65
  t66 := Try.underlying152
  a66 := Try.isAgg152
  z66 := Try.sizeOf152
  v66 := Try.zeroValue152
  t70 := Try.underlying156
  a70 := Try.isAgg156
  z70 := Try.sizeOf156
  v70 := Try.zeroValue156
  t76 := Try.underlying160
  a76 := Try.isAgg160
  z76 := Try.sizeOf160
  v76 := Try.zeroValue160
  t77 := Try.underlying161
  a77 := Try.isAgg161
  z77 := Try.sizeOf161
  v77 := Try.zeroValue161 }

open Go.RowKit Go.Lib Go.Sort in
theorem Try.slices_SortFunc_none {α : Type} [Inhabited α] (p : Option Addr) (cap : Nat) (fv : Value) (w : World) :
    Calls Try.prog 83 #[.slice p 0 cap, fv] w fun e w' => e = .returned (.tuple #[]) ∧ w' = w := AnyF.slices_SortFunc_none Try.laysSlF06_f36 p cap fv w

open Go.RowKit Go.Lib Go.Sort in
theorem Try.slices_SortFunc_total {α : Type} [Inhabited α] (enc : α → Value) (h1 : OneCell enc) (cf : α → α → Int) (hO : SWO (ltOf cf)) (g : Nat) (cb : Array Value) (blk off cap : Nat) (d : Array α) (w : World) (eg : ∀ args w, (callFunc g args).run Try.prog w = .ok (.enter g args) w) (hcmp : CmpLays1 Try.prog g cb enc cf blk off d.size w) (hH : Holds enc w blk off d) (hblk : blk < w.heap.size) (hsz : d.size < 4611686018427387904) (hT : ∀ x y, (ltOf cf) x y = false → (ltOf cf) y x = false → x = y) :
    Calls Try.prog 83 #[.slice (some ⟨blk, off, none⟩) d.size cap, .func (.func g) #[] cb] w fun e w' =>
      e = .returned (.tuple #[]) ∧ ∃ n os, w' = sortWorld enc w blk off n (d.toList.mergeSort fun x y => !(ltOf cf) y x).toArray os := Any.slices_SortFunc_total Try.laysSlF6_f36 enc h1 cf hO g cb blk off cap d w eg hcmp hH hblk hsz hT

end Go.Proofs.Ythlkfbiclhgdoaa

end

section

/-
  THE CONTRACTS OF ident.compare, Less AND OF THE DOCUMENT'S ANSWER TO Less.
-/
namespace Go.Proofs.Ythlkfbiclhgdoaa
open Go.RowKit Go.Lib

theorem icmp (x y : Int) (w : World) : Calls Try.prog 93 #[.int .i64 x, .int .i64 y] w fun e w' => e = .returned (.int .i64 (compareInt x y)) ∧ w = w' :=
  (Try.cmp_Compare_int x y w).mono fun _ _ ⟨he, hw⟩ => ⟨he, hw.symm⟩

theorem scmp (a b : List UInt8) (w : World) : Calls Try.prog 94 #[.string ⟨a.toArray⟩, .string ⟨b.toArray⟩] w fun e w' => e = .returned (.int .i64 (compareBytes a b)) ∧ w = w' :=
  (Try.strings_Compare ⟨a.toArray⟩ ⟨b.toArray⟩ w).mono fun _ _ ⟨he, hw⟩ => ⟨by simpa using he, hw.symm⟩

/-- The first that is not nought. -/
def orI (x y : Int) : Int := if x = 0 then y else x

set_option maxHeartbeats 400000 in
set_option maxRecDepth 100000 in
theorem or_any (B : Nat) (x y : Int) (w : World) (k0 : w.cell? ⟨B, 0, none⟩ = some (.int .i64 x)) (k1 : w.cell? ⟨B, 1, none⟩ = some (.int .i64 y)) :
    Calls Try.prog 92 #[.slice (some ⟨B, 0, none⟩) 2 2] w fun e w' => e = .returned (.int .i64 (orI x y)) ∧ w = w' := by
  by_cases hx : x = 0
  · subst hx
    by_cases hy : y = 0
    · subst hy
      go_enter Try.func92, Try.ntmps92
      go_wp2_with fail
      refine wp_loop_rounds 3 ?_
      rw [rounds_succ]
      go_wp2_with fail
      rw [rounds_succ]
      go_wp2_with fail
      rw [rounds_succ]
      go_wp2_with fail
      go_ret
      exact ⟨rfl, rfl⟩
    · have t1 : (y != 0) = true := by simp [hy]
      clear hy
      go_enter Try.func92, Try.ntmps92
      go_wp2_with fail
      refine wp_loop_rounds 3 ?_
      rw [rounds_succ]
      go_wp2_with fail
      rw [rounds_succ]
      go_wp2_with fail
      go_ret
      exact ⟨rfl, rfl⟩
  · have t1 : (x != 0) = true := by simp [hx]
    have HX : Hid (orI x y = x) := if_neg hx
    clear hx
    go_enter Try.func92, Try.ntmps92
    go_wp2_with fail
    refine wp_loop_rounds 3 ?_
    rw [rounds_succ]
    go_wp2_with fail
    go_ret
    exact ⟨by rw [HX.out]; rfl, rfl⟩

theorem idCmp_or (a b : List UInt8) : idCmp a b = orI (compareInt a.length b.length) (compareBytes a b) := by
  unfold idCmp compareInt orI
  by_cases h1 : a.length < b.length
  · have : (a.length : Int) < b.length := by omega
    simp [h1, this]
  · by_cases h2 : b.length < a.length
    · have h1' : ¬ (a.length : Int) < b.length := by omega
      have h2' : (b.length : Int) < a.length := by omega
      simp [h1, h2, h1', h2']
    · have h1' : ¬ (a.length : Int) < b.length := by omega
      have h2' : ¬ (b.length : Int) < a.length := by omega
      simp [h1, h2, h1', h2']

set_option maxHeartbeats 400000 in
set_option maxRecDepth 100000 in
theorem compare_any (a b : List UInt8) (w : World) :
    Calls Try.prog 84 #[.string ⟨a.toArray⟩, .string ⟨b.toArray⟩] w fun e w' => e = .returned (.int .i64 (idCmp a b)) ∧ ∃ o, w' = w.alloc o := by
  have HI := Lib.hid (idCmp_or a b)
  have H1 := Lib.hid (icmp a.length b.length)
  have H2 := Lib.hid (scmp a b)
  obtain ⟨x, hx⟩ : ∃ x, compareInt a.length b.length = x := ⟨_, rfl⟩
  obtain ⟨y, hy⟩ : ∃ y, compareBytes a b = y := ⟨_, rfl⟩
  rw [hx] at H1 HI
  rw [hy] at H2 HI
  clear hx hy
  go_enter Try.func84, Try.ntmps84
  go_wp2_with fail
  refine (H1.out _).mono ?_
  rintro e w' ⟨rfl, rfl⟩
  go_wp2_with fail
  refine (H2.out _).mono ?_
  rintro e w' ⟨rfl, rfl⟩
  go_wp2_with fail
  refine (or_any _ x y _ (by simp) (by simp)).mono ?_
  rintro e w' ⟨rfl, rfl⟩
  go_wp2_with fail
  go_ret
  exact ⟨by rw [HI.out]; rfl, _, rfl⟩

theorem compare_eq (a b : List UInt8) {n : Int} (h : Hid (idCmp a b = n)) (w : World) :
    Calls Try.prog 84 #[.string ⟨a.toArray⟩, .string ⟨b.toArray⟩] w fun e w' => e = .returned (.int .i64 n) ∧ Below w.heap.size w w' := by
  have h1 := h.out
  subst h1
  exact (compare_any a b w).mono fun _ _ ⟨he, o, hw⟩ => ⟨he, by rw [hw]; exact (Below.refl _ _).alloc (Nat.le_refl _) _⟩

set_option maxHeartbeats 400000 in
set_option maxRecDepth 100000 in
theorem less_eq (a b : List UInt8) {r : Bool} (h : Hid (idLess a b = r)) (w : World) :
    Calls Try.prog 72 #[.string ⟨a.toArray⟩, .string ⟨b.toArray⟩] w fun e w' => e = .returned (.bool r) ∧ Below w.heap.size w w' := by
  obtain ⟨n, hn⟩ : ∃ n, Hid (idCmp a b = n) := ⟨_, rfl⟩
  have hr : Hid (decide (n < 0) = r) := by show _ = _; rw [← hn.out]; exact h.out
  go_enter Try.func72, Try.ntmps72
  go_wp2_with fail
  refine (compare_eq a b hn _).mono ?_
  rintro e w1 ⟨rfl, hb1⟩
  have B1 := Lib.hid hb1
  clear hb1
  go_wp2_with fail
  go_ret
  exact ⟨by rw [← hr.out]; rfl, B1.out⟩

set_option maxHeartbeats 400000 in
set_option maxRecDepth 100000 in
theorem rless_eq (a b : List UInt8) {r : Bool} (h : Hid (idLess a b = r)) (w : World) :
    Calls Try.prog 49 #[.string ⟨a.toArray⟩, .string ⟨b.toArray⟩] w fun e w' => e = .returned (.bool r) ∧ w = w' := by
  have hd := idLess_doc a b
  rw [h.out] at hd
  have HD := Lib.hid hd
  clear hd h
  by_cases h1 : a.length < b.length
  · have hr : Hid (r = true) := by show _ = _; rw [HD.out]; simp [h1]
    clear HD
    go_enter Try.func49, Try.ntmps49
    go_wp2_with fail
    go_ret
    exact ⟨by rw [hr.out]; rfl, rfl⟩
  · by_cases h2 : a.length = b.length
    · have hr : Hid (r = Op.bytesLess a b) := by show _ = _; rw [HD.out]; simp [h2]
      have t1 : ((a.length : Int) == (b.length : Int)) = true := by rw [h2]; simp
      have t2 : decide (a.length < b.length) = false := by simp; omega
      clear HD h1 h2
      go_enter Try.func49, Try.ntmps49
      go_wp2_with fail
      go_ret
      exact ⟨by rw [hr.out]; rfl, rfl⟩
    · have hr : Hid (r = false) := by show _ = _; rw [HD.out]; simp [h1, h2]
      have t1 : ((a.length : Int) == (b.length : Int)) = false := by simp; omega
      have t2 : decide (a.length < b.length) = false := by simp; omega
      clear HD h1 h2
      go_enter Try.func49, Try.ntmps49
      go_wp2_with fail
      go_ret
      exact ⟨by rw [hr.out]; rfl, rfl⟩

end Go.Proofs.Ythlkfbiclhgdoaa

end

section

/-
  THE CONTRACTS OF ident.Is (with isLetter, isInner), Put, Take AND OF THE DOCUMENT'S ANSWERS TO THEM.
-/
namespace Go.Proofs.Ythlkfbiclhgdoaa
open Go.RowKit

def runeLc (r : Int) : Bool := decide (97 ≤ r) && decide (r ≤ 122)
def runeIn (r : Int) : Bool := (decide (48 ≤ r) && decide (r ≤ 57)) || decide (r = 45)

set_option maxHeartbeats 400000 in
set_option maxRecDepth 100000 in
theorem letter_eq (r : Int) {b : Bool} (h : Hid (runeLc r = b)) (w : World) :
    Calls Try.prog 64 #[.int .i32 r] w fun e w' => e = .returned (.bool b) ∧ w = w' := by
  have h' := h.out
  unfold runeLc at h'
  clear h
  by_cases h1 : 97 ≤ r
  · by_cases h2 : r ≤ 122
    · obtain rfl : b = true := by rw [← h']; simp [h1, h2]
      clear h'
      go_enter Try.func64, Try.ntmps64
      go_wp2_with fail
      go_ret
      exact ⟨by first | rfl | simp_all, rfl⟩
    · obtain rfl : b = false := by rw [← h']; simp [h2]
      have h3 : 122 < r := by omega
      clear h' h2
      go_enter Try.func64, Try.ntmps64
      go_wp2_with fail
      go_ret
      exact ⟨by first | rfl | simp_all, rfl⟩
  · obtain rfl : b = false := by rw [← h']; simp [h1]
    have h3 : r < 97 := by omega
    clear h' h1
    go_enter Try.func64, Try.ntmps64
    go_wp2_with fail
    go_ret
    exact ⟨by first | rfl | simp_all, rfl⟩

set_option maxHeartbeats 400000 in
set_option maxRecDepth 100000 in
theorem inner_eq (r : Int) {b : Bool} (h : Hid (runeIn r = b)) (w : World) :
    Calls Try.prog 65 #[.int .i32 r] w fun e w' => e = .returned (.bool b) ∧ w = w' := by
  have h' := h.out
  unfold runeIn at h'
  clear h
  by_cases h0 : r = 45
  · subst h0
    obtain rfl : b = true := by rw [← h']; decide
    clear h'
    go_enter Try.func65, Try.ntmps65
    go_wp2_with fail
    go_ret
    exact ⟨rfl, rfl⟩
  · have t0 : (r == 45) = false := by simpa using h0
    by_cases h1 : 48 ≤ r
    · by_cases h2 : r ≤ 57
      · obtain rfl : b = true := by rw [← h']; simp [h1, h2]
        clear h' h0
        go_enter Try.func65, Try.ntmps65
        go_wp2_with fail
        go_ret
        exact ⟨rfl, rfl⟩
      · obtain rfl : b = false := by rw [← h']; simp [h2, h0]
        have h3 : decide (r ≤ 57) = false := by simp; omega
        clear h' h2 h0
        go_enter Try.func65, Try.ntmps65
        go_wp2_with fail
        go_ret
        exact ⟨rfl, rfl⟩
    · obtain rfl : b = false := by rw [← h']; simp [h1, h0]
      have h3 : r < 48 := by omega
      clear h' h1 h0
      go_enter Try.func65, Try.ntmps65
      go_wp2_with fail
      go_ret
      exact ⟨rfl, rfl⟩

theorem runeLc_byte (b : UInt8) : runeLc (b.toNat : Int) = lcOk b := by
  unfold runeLc lcOk
  rw [Bool.eq_iff_iff]
  simp
  omega

theorem runeIn_byte (b : UInt8) : runeIn (b.toNat : Int) = dgOk b := by
  unfold runeIn dgOk
  rw [Bool.eq_iff_iff]
  simp
  omega

theorem rune_high {r : Nat} (h : 128 ≤ r) : runeLc (r : Int) = false ∧ runeIn (r : Int) = false := by
  unfold runeLc runeIn
  constructor
  · rw [Bool.eq_false_iff]; simp; omega
  · rw [Bool.eq_false_iff]; simp; omega

theorem all_succ {l : List UInt8} {k : Nat} {b : UInt8} (hb : l[k]? = some b) (p : UInt8 → Bool) : (l.take (k + 1)).all p = ((l.take k).all p && p b) := by
  obtain ⟨h1, h2⟩ := List.getElem?_eq_some_iff.1 hb
  rw [List.take_succ_eq_append_getElem h1, h2, List.all_append]
  simp

theorem idIs_bad {l : List UInt8} {k : Nat} {b : UInt8} (hb : l[k]? = some b) (h : inOk b = false) : idIs l = false := by
  rw [Bool.eq_false_iff]
  intro h'
  have := List.all_eq_true.1 (idIs_parts h').2.2.2 b (List.mem_of_getElem? hb)
  rw [h] at this
  cases this

theorem idIs_first {l : List UInt8} {b : UInt8} (hb : l[0]? = some b) (h : lcOk b = false) : idIs l = false := by
  rw [Bool.eq_false_iff]
  intro h'
  have := (idIs_parts h').2.2.1
  rw [List.getD, hb] at this
  simp [h] at this

set_option maxHeartbeats 1600000 in
set_option maxRecDepth 100000 in
theorem is_any (l : List UInt8) (hl : l.length ≤ 4294967296) (w : World) :
    Calls Try.prog 37 #[.string ⟨l.toArray⟩] w fun e w' => e = .returned (.bool (idIs l)) ∧ Below w.heap.size w w' := by
  by_cases h0 : l = []
  · subst h0
    go_enter Try.func37, Try.ntmps37
    go_wp2_with fail
    go_ret
    exact ⟨rfl, Below.refl _ _⟩
  · have t0 : (l == []) = false := by simpa using h0
    have hpos : 1 ≤ l.length := by
      rcases l with _ | ⟨_, _⟩
      · exact absurd rfl h0
      · simp
    by_cases h16 : 16 < l.length
    · have HR := Lib.hid (idIs_long h16)
      have H0 := Lib.hid h0
      clear h0
      go_enter Try.func37, Try.ntmps37
      go_wp2_with fail
      go_ret
      exact ⟨by rw [HR.out]; rfl, Below.refl _ _⟩
    · have H0 := Lib.hid h0
      clear h0
      go_enter Try.func37, Try.ntmps37
      go_wp2_with fail
      go_loopw [] (fun wr => ∃ pos : Nat, pos ≤ l.length ∧ Hid (wr.heap[w.heap.size]? = some (.stringIter ⟨l.toArray⟩ pos)) ∧ Below w.heap.size w wr ∧ Hid (pos = 0 ∨ lcOk (l.getD 0 0) = true) ∧ Hid ((l.take pos).all inOk = true)) (fun wr => l.length - wr.iterPos w.heap.size)
      case atStart => exact ⟨0, by omega, World.iter_heap w _ 0, (Below.refl _ w).alloc (Nat.le_refl _) _, .inl rfl, by show _ = _; simp⟩
      case round =>
        obtain ⟨pos, hp, HI, hnx, HF, HA⟩ := hrel
        have HN := Lib.hid hnx
        have hpi : Hid (wr.iterPos w.heap.size = pos) := by show _ = _; simp only [World.iterPos, HI.out]
        by_cases hlt : pos < l.length
        · have hlt' : pos < (⟨l.toArray⟩ : ByteArray).size := by rw [size_bytes]; exact hlt
          obtain ⟨b, hb⟩ : ∃ b : UInt8, (⟨l.toArray⟩ : ByteArray)[pos]'hlt' = b := ⟨_, rfl⟩
          have HB : Hid (l[pos]? = some b) := by rw [← hb]; exact bytes_at l pos hlt'
          have hb256 := b.toNat_lt
          by_cases h128 : b.toNat < 128
          · have hnext := fun ty => Lib.run_next_ascii_at (P := Try.prog) wr w.heap.size ⟨l.toArray⟩ pos ty HI.out hlt' (by rw [hb]; exact h128)
            rw [hb] at hnext
            have HI2 := Lib.hid (Lib.iterAt_heap wr w.heap.size ⟨l.toArray⟩ pos (pos + 1) HI.out)
            have HN2 := Lib.hid (Lib.below_iterAt hnx (k := w.heap.size) (Nat.le_refl _) ⟨l.toArray⟩ (pos + 1))
            have hp2 : Hid ((wr.iterAt w.heap.size ⟨l.toArray⟩ (pos + 1)).iterPos w.heap.size = pos + 1) := by show _ = _; simp only [World.iterPos, HI2.out]
            clear hb hnx
            cases hl : lcOk b with
            | true =>
              have HL : Hid (runeLc (b.toNat : Int) = true) := by show _ = _; rw [runeLc_byte]; exact hl
              have HA2 : Hid ((l.take (pos + 1)).all inOk = true) := by show _ = _; rw [all_succ HB.out, HA.out]; simp [inOk, hl]
              have HF2 : Hid (pos + 1 = 0 ∨ lcOk (l.getD 0 0) = true) := by
                show _ ∨ _
                right
                rcases HF.out with h | h
                · subst h; rw [List.getD, HB.out]; exact hl
                · exact h
              clear hl
              go_wp2_with fail
              refine (letter_eq _ HL _).mono ?_
              rintro e w' ⟨rfl, rfl⟩
              go_wp2_with fail
              go_roundw
              case rel => exact ⟨pos + 1, by omega, HI2, HN2.out, HF2, HA2⟩
              case measure => rw [hp2.out, hpi.out]; omega
            | false =>
              have HL : Hid (runeLc (b.toNat : Int) = false) := by show _ = _; rw [runeLc_byte]; exact hl
              by_cases hz : pos = 0
              · have HR : Hid (idIs l = false) := by show _ = _; subst hz; exact idIs_first HB.out hl
                subst hz
                clear hl
                go_wp2_with fail
                refine (letter_eq _ HL _).mono ?_
                rintro e w' ⟨rfl, rfl⟩
                go_wp2_with fail
                go_ret
                exact ⟨by rw [HR.out]; rfl, HN2.out⟩
              · have hz' : 0 < pos := by omega
                clear hz
                cases hd : dgOk b with
                | true =>
                  have HD : Hid (runeIn (b.toNat : Int) = true) := by show _ = _; rw [runeIn_byte]; exact hd
                  have HA2 : Hid ((l.take (pos + 1)).all inOk = true) := by show _ = _; rw [all_succ HB.out, HA.out]; simp [inOk, hd]
                  have HF2 : Hid (pos + 1 = 0 ∨ lcOk (l.getD 0 0) = true) := by
                    show _ ∨ _
                    right
                    rcases HF.out with h | h
                    · omega
                    · exact h
                  clear hl hd
                  go_wp2_with fail
                  refine (letter_eq _ HL _).mono ?_
                  rintro e w' ⟨rfl, rfl⟩
                  go_wp2_with fail
                  refine (inner_eq _ HD _).mono ?_
                  rintro e w' ⟨rfl, rfl⟩
                  go_wp2_with fail
                  go_roundw
                  case rel => exact ⟨pos + 1, by omega, HI2, HN2.out, HF2, HA2⟩
                  case measure => rw [hp2.out, hpi.out]; omega
                | false =>
                  have HD : Hid (runeIn (b.toNat : Int) = false) := by show _ = _; rw [runeIn_byte]; exact hd
                  have HR : Hid (idIs l = false) := by show _ = _; exact idIs_bad HB.out (by simp [inOk, hl, hd])
                  clear hl hd
                  go_wp2_with fail
                  refine (letter_eq _ HL _).mono ?_
                  rintro e w' ⟨rfl, rfl⟩
                  go_wp2_with fail
                  refine (inner_eq _ HD _).mono ?_
                  rintro e w' ⟨rfl, rfl⟩
                  go_wp2_with fail
                  go_ret
                  exact ⟨by rw [HR.out]; rfl, HN2.out⟩
          · obtain ⟨hh1, _⟩ := decode_high ⟨l.toArray⟩ pos hlt' (by rw [hb]; omega)
            have hnext := fun ty => Lib.run_next_any_at (P := Try.prog) wr w.heap.size ⟨l.toArray⟩ pos ty HI.out hlt'
            have HN2 := Lib.hid (Lib.below_iterAt hnx (k := w.heap.size) (Nat.le_refl _) ⟨l.toArray⟩ (pos + (Utf8.decode ⟨l.toArray⟩ pos).2))
            have HR : Hid (idIs l = false) := by show _ = _; exact idIs_high (List.mem_of_getElem? HB.out) (by omega)
            obtain ⟨r, hr⟩ : ∃ r, (Utf8.decode ⟨l.toArray⟩ pos).1 = r := ⟨_, rfl⟩
            obtain ⟨q, hq⟩ : ∃ q, pos + (Utf8.decode ⟨l.toArray⟩ pos).2 = q := ⟨_, rfl⟩
            rw [hr, hq] at hnext
            rw [hq] at HN2
            rw [hr] at hh1
            have HL := Lib.hid (rune_high hh1).1
            have HD := Lib.hid (rune_high hh1).2
            clear hr hq hb hnx
            go_wp2_with fail
            refine (letter_eq _ HL _).mono ?_
            rintro e w' ⟨rfl, rfl⟩
            by_cases hz : pos = 0
            · subst hz
              go_wp2_with fail
              go_ret
              exact ⟨by rw [HR.out]; rfl, HN2.out⟩
            · have hz' : 0 < pos := by omega
              clear hz
              go_wp2_with fail
              refine (inner_eq _ HD _).mono ?_
              rintro e w' ⟨rfl, rfl⟩
              go_wp2_with fail
              go_ret
              exact ⟨by rw [HR.out]; rfl, HN2.out⟩
        · obtain rfl : pos = l.length := by omega
          have hnext := fun ty => Lib.run_next_end_at (P := Try.prog) wr w.heap.size ⟨l.toArray⟩ l.length ty HI.out (by rw [size_bytes]; omega)
          have HR : Hid (idIs l = true) := by
            show _ = _
            have ha := HA.out
            rw [List.take_length] at ha
            refine idIs_mk hpos (by omega) ?_ ha
            rcases HF.out with h | h
            · omega
            · exact h
          clear hnx
          go_wp2_with fail
          go_ret
          exact ⟨by rw [HR.out]; rfl, HN.out⟩

end Go.Proofs.Ythlkfbiclhgdoaa

end
