/-
  PLAIN MATHEMATICS OF LAYER 3 (ident): what a name is, its folding, the order of names, lists merged. No program in sight.
-/
import Derived.Test.YthfkfonfiejbmaaVarPure
import Derived.Lib.Bytealg
import Derived.Sort.Statements
import Derived.Shelf.SlSortCmp.Insertion
import Derived.Lib.SlicesCompact
namespace Go.Proofs.Ythfkfonfiejbmaa
open Go.Lib Go.Sort

/-! ### Names -/

def lcOk (b : UInt8) : Bool := decide (97 ≤ b.toNat) && decide (b.toNat ≤ 122)
def dgOk (b : UInt8) : Bool := (decide (48 ≤ b.toNat) && decide (b.toNat ≤ 57)) || decide (b.toNat = 45)
def inOk (b : UInt8) : Bool := lcOk b || dgOk b

def idIs (l : List UInt8) : Bool := decide (1 ≤ l.length) && (decide (l.length ≤ 16) && (lcOk (l.getD 0 0) && l.all inOk))

def low1 (b : UInt8) : UInt8 := if 65 ≤ b.toNat ∧ b.toNat ≤ 90 then u8of (b.toNat + 32) else b
def idLow (l : List UInt8) : List UInt8 := l.map low1

def idFold (l : List UInt8) : List UInt8 × Bool := if idIs (idLow l) = true then (idLow l, true) else ([], false)
def idPut (l : List UInt8) : List UInt8 × Bool := if idIs l = true then (vput l.length ++ l, true) else ([], false)
def idTake (l : List UInt8) (p : Int) : List UInt8 × Nat × Nat :=
  if (vtake l p 16).2.2 ≠ 0 then ([], 0, (vtake l p 16).2.2) else if idIs (vtake l p 16).1 = true then vtake l p 16 else ([], 0, 3)

theorem inOk_lt {b : UInt8} (h : inOk b = true) : b.toNat < 128 := by
  simp [inOk, lcOk, dgOk] at h
  omega

theorem low1_same {b : UInt8} (h : inOk b = true) : low1 b = b := by
  simp [inOk, lcOk, dgOk] at h
  unfold low1
  rw [if_neg (by omega)]

theorem idIs_parts {l : List UInt8} (h : idIs l = true) : 1 ≤ l.length ∧ l.length ≤ 16 ∧ lcOk (l.getD 0 0) = true ∧ l.all inOk = true := by
  unfold idIs at h
  simp only [Bool.and_eq_true, decide_eq_true_eq] at h
  exact ⟨h.1, h.2.1, h.2.2.1, h.2.2.2⟩

theorem idIs_mk {l : List UInt8} (h1 : 1 ≤ l.length) (h2 : l.length ≤ 16) (h3 : lcOk (l.getD 0 0) = true) (h4 : l.all inOk = true) : idIs l = true := by
  unfold idIs
  simp only [Bool.and_eq_true, decide_eq_true_eq]
  exact ⟨h1, h2, h3, h4⟩

theorem idLow_len (l : List UInt8) : (idLow l).length = l.length := by simp [idLow]

theorem idLow_same {l : List UInt8} (h : l.all inOk = true) : idLow l = l := by
  unfold idLow
  have e : l.map low1 = l.map id := List.map_congr_left (fun b hb => low1_same (List.all_eq_true.1 h b hb))
  rw [e, List.map_id]

theorem idIs_low {l : List UInt8} (h : idIs l = true) : idLow l = l := idLow_same (idIs_parts h).2.2.2

theorem idFold_name {l : List UInt8} (h : idIs l = true) : idFold l = (l, true) := by
  unfold idFold
  rw [idIs_low h, if_pos h]

theorem idIs_long {l : List UInt8} (h : 16 < l.length) : idIs l = false := by
  rw [Bool.eq_false_iff]
  intro h'
  have := (idIs_parts h').2.1
  omega

theorem idFold_long {l : List UInt8} (h : 16 < l.length) : idFold l = ([], false) := by
  unfold idFold
  rw [if_neg (by rw [idIs_long (by rw [idLow_len]; exact h)]; decide)]

theorem idFold_cases (l : List UInt8) : (idFold l = (idLow l, true) ∧ idIs (idLow l) = true) ∨ (idFold l = ([], false) ∧ idIs (idLow l) = false ∧ idIs l = false) := by
  unfold idFold
  by_cases h : idIs (idLow l) = true
  · rw [if_pos h]; exact .inl ⟨rfl, h⟩
  · rw [if_neg h]
    refine .inr ⟨rfl, by simpa using h, ?_⟩
    rw [Bool.eq_false_iff]
    intro h'
    rw [idIs_low h'] at h
    exact h h'

/-- A byte that no name has. -/
theorem idIs_high {l : List UInt8} {b : UInt8} (hb : b ∈ l) (h : 128 ≤ b.toNat) : idIs l = false := by
  rw [Bool.eq_false_iff]
  intro h'
  have := inOk_lt (List.all_eq_true.1 (idIs_parts h').2.2.2 b hb)
  omega

theorem low1_high {b : UInt8} (h : 128 ≤ b.toNat) : low1 b = b := by
  unfold low1
  rw [if_neg (by omega)]

theorem idFold_high {l : List UInt8} {b : UInt8} (hb : b ∈ l) (h : 128 ≤ b.toNat) : idFold l = ([], false) := by
  unfold idFold
  rw [if_neg (by
    rw [idIs_high (l := idLow l) (b := b) (by
      unfold idLow
      exact List.mem_map.2 ⟨b, hb, low1_high h⟩) h]
    decide)]

/-- Capital letters made small ones, and the other way round. -/
theorem low1_toggle (b : UInt8) : (97 ≤ b.toNat ∧ b.toNat ≤ 122 → low1 (u8of (b.toNat - 32)) = low1 b) ∧ (65 ≤ b.toNat ∧ b.toNat ≤ 90 → low1 (u8of (b.toNat + 32)) = low1 b) := by
  have hb := b.toNat_lt
  constructor
  · intro h
    unfold low1
    rw [u8of_toNat (by omega), if_pos (by omega), if_neg (by omega), show b.toNat - 32 + 32 = b.toNat by omega, u8of_of_toNat]
  · intro h
    unfold low1
    rw [u8of_toNat (by omega), if_neg (by omega), if_pos (by omega)]

theorem idLow_set {l : List UInt8} {k : Nat} {c : UInt8} (hk : k < l.length) (h : low1 c = low1 (l.getD k 0)) : idLow (l.set k c) = idLow l := by
  unfold idLow
  rw [List.map_set, h]
  apply List.ext_getElem
  · simp
  · intro i h1 h2
    rw [List.getElem_set]
    split
    · next e => subst e; simp [List.getD, List.getElem?_eq_getElem hk]
    · rfl

theorem idFold_low {a b : List UInt8} (h : idLow a = idLow b) : idFold a = idFold b := by
  unfold idFold
  rw [h]

/-- What is put is taken. -/
theorem idTake_put {t : List UInt8} (h : idIs t = true) (r : List UInt8) : idTake ((idPut t).1 ++ r) 0 = (t, (idPut t).1.length, 0) := by
  have hl := (idIs_parts h).2.1
  have hp : idPut t = (vput t.length ++ t, true) := by unfold idPut; rw [if_pos h]
  have e : vtake ((idPut t).1 ++ r) 0 16 = (t, (idPut t).1.length, 0) := by
    have := vtake_text [] t r 16 (by omega) (by omega)
    rw [hp]
    simpa using this
  unfold idTake
  rw [e]
  simp [h]

/-! ### The order of names -/

def idCmp (a b : List UInt8) : Int := if a.length < b.length then -1 else if b.length < a.length then 1 else compareBytes a b

def idLess (a b : List UInt8) : Bool := decide (idCmp a b < 0)

theorem cb_swap : ∀ a b : List UInt8, compareBytes b a = - compareBytes a b
  | [], [] => rfl
  | [], _ :: _ => rfl
  | _ :: _, [] => rfl
  | a :: xs, b :: ys => by
    unfold compareBytes
    by_cases h1 : a < b
    · have h2 : ¬ b < a := fun h => by rw [UInt8.lt_iff_toNat_lt] at *; omega
      rw [if_pos h1, if_neg h2, if_pos h1]; rfl
    · rw [if_neg h1]
      by_cases h2 : b < a
      · rw [if_pos h2, if_neg h1, if_pos h2]
      · rw [if_neg h2, if_neg h2, if_neg h1]
        exact cb_swap xs ys

theorem cb_zero : ∀ {a b : List UInt8}, compareBytes a b = 0 → a = b
  | [], [], _ => rfl
  | [], _ :: _, h => by simp [compareBytes] at h
  | _ :: _, [], h => by simp [compareBytes] at h
  | a :: xs, b :: ys, h => by
    unfold compareBytes at h
    by_cases h1 : a < b
    · rw [if_pos h1] at h; simp at h
    · rw [if_neg h1] at h
      by_cases h2 : b < a
      · rw [if_pos h2] at h; simp at h
      · rw [if_neg h2] at h
        have e : a = b := by
          rw [UInt8.lt_iff_toNat_lt] at h1 h2
          exact UInt8.toNat_inj.1 (by omega)
        rw [e, cb_zero h]

theorem cb_self : ∀ a : List UInt8, compareBytes a a = 0
  | [] => rfl
  | a :: xs => by
    unfold compareBytes
    have h : ¬ a < a := fun h => by rw [UInt8.lt_iff_toNat_lt] at h; omega
    rw [if_neg h, if_neg h]
    exact cb_self xs

theorem cb_trans : ∀ {a b c : List UInt8}, compareBytes a b ≤ 0 → compareBytes b c ≤ 0 → compareBytes a c ≤ 0 ∧ (compareBytes a b < 0 ∨ compareBytes b c < 0 → compareBytes a c < 0)
  | [], [], c, _, h2 => ⟨h2, fun h => by
      rcases h with h | h
      · simp [compareBytes] at h
      · exact h⟩
  | [], _ :: _, [], _, h2 => by simp [compareBytes] at h2
  | [], _ :: _, _ :: _, _, _ => by simp [compareBytes]
  | _ :: _, [], _, h1, _ => by simp [compareBytes] at h1
  | _ :: _, _ :: _, [], _, h2 => by simp [compareBytes] at h2
  | a :: xs, b :: ys, c :: zs, h1, h2 => by
    unfold compareBytes at h1 h2 ⊢
    simp only [UInt8.lt_iff_toNat_lt] at h1 h2 ⊢
    by_cases p1 : a.toNat < b.toNat
    · by_cases p2 : b.toNat < c.toNat
      · rw [if_pos (show a.toNat < c.toNat by omega)]; simp
      · rw [if_neg p2] at h2
        by_cases p3 : c.toNat < b.toNat
        · rw [if_pos p3] at h2; simp at h2
        · rw [if_pos (show a.toNat < c.toNat by omega)]; simp
    · rw [if_neg p1] at h1 ⊢
      by_cases p2 : b.toNat < a.toNat
      · rw [if_pos p2] at h1; simp at h1
      · rw [if_neg p2] at h1 ⊢
        by_cases p3 : b.toNat < c.toNat
        · rw [if_pos (show a.toNat < c.toNat by omega)]; simp
        · rw [if_neg p3] at h2 ⊢
          by_cases p4 : c.toNat < b.toNat
          · rw [if_pos p4] at h2; simp at h2
          · rw [if_neg p4] at h2 ⊢
            rw [if_neg (show ¬ a.toNat < c.toNat by omega), if_neg (show ¬ c.toNat < a.toNat by omega)]
            exact cb_trans h1 h2

theorem idCmp_swap (a b : List UInt8) : idCmp b a = - idCmp a b := by
  unfold idCmp
  by_cases h1 : a.length < b.length
  · rw [if_neg (by omega), if_pos h1, if_pos h1]; rfl
  · by_cases h2 : b.length < a.length
    · rw [if_pos h2, if_neg h1, if_pos h2]
    · rw [if_neg h2, if_neg h1, if_neg h1, if_neg h2]
      exact cb_swap a b

theorem idCmp_zero {a b : List UInt8} (h : idCmp a b = 0) : a = b := by
  unfold idCmp at h
  by_cases h1 : a.length < b.length
  · rw [if_pos h1] at h; simp at h
  · rw [if_neg h1] at h
    by_cases h2 : b.length < a.length
    · rw [if_pos h2] at h; simp at h
    · rw [if_neg h2] at h
      exact cb_zero h

theorem idCmp_self (a : List UInt8) : idCmp a a = 0 := by
  unfold idCmp
  rw [if_neg (by omega), if_neg (by omega)]
  exact cb_self a

theorem idCmp_trans {a b c : List UInt8} (h1 : idCmp a b ≤ 0) (h2 : idCmp b c ≤ 0) : idCmp a c ≤ 0 ∧ (idCmp a b < 0 ∨ idCmp b c < 0 → idCmp a c < 0) := by
  unfold idCmp at h1 h2 ⊢
  by_cases p1 : a.length < b.length
  · by_cases p3 : c.length < b.length
    · rw [if_neg (by omega), if_pos p3] at h2; simp at h2
    · rw [if_pos (show a.length < c.length by omega)]; simp
  · rw [if_neg p1] at h1 ⊢
    by_cases p2 : b.length < a.length
    · rw [if_pos p2] at h1; simp at h1
    · rw [if_neg p2] at h1 ⊢
      by_cases p3 : b.length < c.length
      · rw [if_pos (show a.length < c.length by omega)]; simp
      · rw [if_neg p3] at h2 ⊢
        by_cases p4 : c.length < b.length
        · rw [if_pos p4] at h2; simp at h2
        · rw [if_neg p4] at h2 ⊢
          rw [if_neg (show ¬ a.length < c.length by omega), if_neg (show ¬ c.length < a.length by omega)]
          exact cb_trans h1 h2

theorem idLess_trans {a b c : List UInt8} (h1 : idLess a b = true) (h2 : idLess b c = true) : idLess a c = true := by
  unfold idLess at *
  simp only [decide_eq_true_eq] at *
  exact (idCmp_trans (by omega) (by omega)).2 (.inl h1)

theorem idLess_irrefl (a : List UInt8) : idLess a a = false := by
  unfold idLess
  rw [idCmp_self]
  rfl

/-- Just one of the three. -/
theorem idLess_tri (a b : List UInt8) : (idLess a b = true ∧ idLess b a = false ∧ ¬ a = b) ∨ (idLess a b = false ∧ idLess b a = true ∧ ¬ a = b) ∨ (idLess a b = false ∧ idLess b a = false ∧ a = b) := by
  have hs := idCmp_swap a b
  by_cases h0 : idCmp a b = 0
  · have e := idCmp_zero h0
    subst e
    exact .inr (.inr ⟨idLess_irrefl _, idLess_irrefl _, rfl⟩)
  · have hne : ¬ a = b := fun e => h0 (by rw [e]; exact idCmp_self b)
    unfold idLess
    by_cases h : idCmp a b < 0
    · exact .inl ⟨by simpa using h, by simp; omega, hne⟩
    · exact .inr (.inl ⟨by simpa using h, by simp; omega, hne⟩)

theorem idSWO : SWO (ltOf idCmp) where
  irrefl x := idLess_irrefl x
  trans x y z h1 h2 := idLess_trans h1 h2
  ntrans x y z h1 h2 := by
    unfold ltOf at *
    have s1 := idCmp_swap x y
    have s2 := idCmp_swap y z
    have s3 := idCmp_swap x z
    simp only [decide_eq_false_iff_not] at *
    have := (idCmp_trans (a := z) (b := y) (c := x) (by omega) (by omega)).1
    omega

theorem idTot (x y : List UInt8) (h1 : ltOf idCmp x y = false) (h2 : ltOf idCmp y x = false) : x = y := by
  have s := idCmp_swap x y
  unfold ltOf at h1 h2
  simp only [decide_eq_false_iff_not] at h1 h2
  exact idCmp_zero (by omega)

/-- The document's own word for it. -/
theorem bytesLess_cb : ∀ a b : List UInt8, Op.bytesLess a b = decide (compareBytes a b < 0)
  | [], [] => rfl
  | [], _ :: _ => rfl
  | _ :: _, [] => rfl
  | a :: xs, b :: ys => by
    unfold Op.bytesLess compareBytes
    by_cases h1 : a < b
    · simp [h1]
    · by_cases h2 : b < a
      · have : ¬ a = b := fun e => h1 (by rw [e] at h2 ⊢; exact h2)
        simp [h1, h2, this]
      · have e : a = b := by
          rw [UInt8.lt_iff_toNat_lt] at h1 h2
          exact UInt8.toNat_inj.1 (by omega)
        rw [if_neg h1, if_neg h2]
        subst e
        simp [bytesLess_cb xs ys]

theorem idLess_doc (a b : List UInt8) : idLess a b = (decide (a.length < b.length) || (decide (a.length = b.length) && Op.bytesLess a b)) := by
  unfold idLess idCmp
  rw [bytesLess_cb]
  by_cases h1 : a.length < b.length
  · simp [h1]
  · by_cases h2 : b.length < a.length
    · have : ¬ a.length = b.length := by omega
      rw [if_neg h1, if_pos h2]
      simp [h1, this]
    · have : a.length = b.length := by omega
      rw [if_neg h1, if_neg h2]
      simp [this]

/-! ### Lists merged -/

/-- By Less, each once. -/
def Rising (l : List (List UInt8)) : Prop := l.Pairwise fun x y => idLess x y = true

theorem rising_unique : ∀ {a b : List (List UInt8)}, Rising a → Rising b → (∀ x, x ∈ a ↔ x ∈ b) → a = b
  | [], [], _, _, _ => rfl
  | [], y :: b, _, _, h => by have := (h y).2 (by simp); simp at this
  | x :: a, [], _, _, h => by have := (h x).1 (by simp); simp at this
  | x :: a, y :: b, ha, hb, h => by
    obtain ⟨ha1, ha2⟩ := List.pairwise_cons.1 ha
    obtain ⟨hb1, hb2⟩ := List.pairwise_cons.1 hb
    have e : x = y := by
      have h1 := (h x).1 (by simp)
      have h2 := (h y).2 (by simp)
      rcases List.mem_cons.1 h1 with e | h1
      · exact e
      · rcases List.mem_cons.1 h2 with e | h2
        · exact e.symm
        · have p := hb1 x h1
          have q := ha1 y h2
          have := idLess_trans p q
          rw [idLess_irrefl] at this
          cases this
    subst e
    have hx : ∀ {l : List (List UInt8)}, (∀ z ∈ l, idLess x z = true) → x ∉ l := fun hl hm => by
      have := hl x hm
      rw [idLess_irrefl] at this
      cases this
    have : a = b := rising_unique ha2 hb2 (fun z => by
      have hz := h z
      simp only [List.mem_cons] at hz
      constructor
      · intro hm
        rcases hz.1 (.inr hm) with e | h'
        · subst e; exact absurd hm (hx ha1)
        · exact h'
      · intro hm
        rcases hz.2 (.inr hm) with e | h'
        · subst e; exact absurd hm (hx hb1)
        · exact h')
    rw [this]

/-- A text laid into a list by Less, once. -/
def ins (x : List UInt8) : List (List UInt8) → List (List UInt8)
  | [] => [x]
  | y :: l => if idLess y x = true then y :: ins x l else if y = x then y :: l else x :: y :: l

def mrg (a : List (List UInt8)) : List (List UInt8) := a.foldl (fun out x => ins x out) []

theorem ins_mem (x z : List UInt8) : ∀ l, z ∈ ins x l ↔ z = x ∨ z ∈ l
  | [] => by simp [ins]
  | y :: l => by
    unfold ins
    by_cases h : idLess y x = true
    · rw [if_pos h]
      simp only [List.mem_cons, ins_mem x z l]
      constructor
      · rintro (h | h | h) <;> simp [h]
      · rintro (h | h | h) <;> simp [h]
    · rw [if_neg h]
      by_cases e : y = x
      · rw [if_pos e]
        subst e
        simp only [List.mem_cons]
        constructor
        · intro h; exact .inr h
        · rintro (h | h)
          · exact .inl h
          · exact h
      · rw [if_neg e]
        simp only [List.mem_cons]

theorem ins_rising (x : List UInt8) : ∀ l, Rising l → Rising (ins x l)
  | [], _ => by simp [ins, Rising]
  | y :: l, h => by
    obtain ⟨h1, h2⟩ := List.pairwise_cons.1 h
    unfold ins
    by_cases hl : idLess y x = true
    · rw [if_pos hl]
      refine List.pairwise_cons.2 ⟨fun z hz => ?_, ins_rising x l h2⟩
      rcases (ins_mem x z l).1 hz with e | hz
      · subst e; exact hl
      · exact h1 z hz
    · rw [if_neg hl]
      by_cases e : y = x
      · rw [if_pos e]; exact h
      · rw [if_neg e]
        have hxy : idLess x y = true := by
          rcases idLess_tri y x with ⟨p, _, _⟩ | ⟨_, p, _⟩ | ⟨_, _, p⟩
          · exact absurd p hl
          · exact p
          · exact absurd p e
        refine List.pairwise_cons.2 ⟨fun z hz => ?_, h⟩
        rcases List.mem_cons.1 hz with e | hz
        · subst e; exact hxy
        · exact idLess_trans hxy (h1 z hz)

theorem foldl_ins (l : List (List UInt8)) : ∀ acc, Rising acc → Rising (l.foldl (fun out x => ins x out) acc) ∧ ∀ z, z ∈ l.foldl (fun out x => ins x out) acc ↔ z ∈ acc ∨ z ∈ l := by
  induction l with
  | nil => intro acc h; exact ⟨h, fun z => by simp⟩
  | cons x l ih =>
    intro acc h
    have := ih (ins x acc) (ins_rising x acc h)
    refine ⟨this.1, fun z => ?_⟩
    rw [List.foldl_cons, this.2 z, ins_mem]
    simp only [List.mem_cons]
    constructor
    · rintro ((h | h) | h) <;> simp [h]
    · rintro (h | h | h) <;> simp [h]

theorem mrg_rising (l : List (List UInt8)) : Rising (mrg l) := (foldl_ins l [] (by simp [Rising])).1
theorem mrg_mem (l : List (List UInt8)) (z : List UInt8) : z ∈ mrg l ↔ z ∈ l := by
  have := (foldl_ins l [] (by simp [Rising])).2 z
  unfold mrg
  simpa using this

theorem mrg_unique {a l : List (List UInt8)} (h : Rising a) (hm : ∀ x, x ∈ a ↔ x ∈ l) : a = mrg l := rising_unique h (mrg_rising l) (fun x => (hm x).trans (mrg_mem l x).symm)

/-- A list of texts, none ahead of the one that it stands behind: each once. -/
theorem compact_rising (d : Array (List UInt8)) (hs : d.toList.Pairwise fun x y => idLess y x = false) : Rising (compactUpTo d d.size) ∧ ∀ x, x ∈ compactUpTo d d.size ↔ x ∈ d.toList := by
  have key : ∀ m, m ≤ d.size → Rising (compactUpTo d m) ∧ (∀ x, x ∈ compactUpTo d m ↔ ∃ j, j < m ∧ d[j]! = x) := by
    intro m
    induction m with
    | zero => intro _; exact ⟨by simp [compactUpTo, Rising], fun x => by simp [compactUpTo]⟩
    | succ m ih =>
      intro hm
      obtain ⟨h1, h2⟩ := ih (by omega)
      have e : compactUpTo d (m + 1) = compactUpTo d m ++ if keeps d m = true then [d[m]!] else [] := by
        unfold compactUpTo
        rw [List.range_succ, List.filter_append, List.map_append]
        by_cases hk : keeps d m = true <;> simp [hk]
      have hle : ∀ i j, i ≤ j → j < d.size → idLess d[j]! d[i]! = false := by
        intro i j hij hj
        by_cases e : i = j
        · subst e; exact idLess_irrefl _
        · have := List.pairwise_iff_getElem.1 hs i j (by simpa using (by omega : i < d.size)) (by simpa using hj) (by omega)
          rw [getElem!_pos d i (by omega), getElem!_pos d j hj]
          simpa using this
      by_cases hk : keeps d m = true
      · rw [e, if_pos hk]
        have hlt : ∀ i, i < m → idLess d[i]! d[m]! = true := by
          intro i hi
          have hm0 : ¬ m = 0 := by omega
          have hne : d[m]! ≠ d[m - 1]! := by
            unfold keeps at hk
            simp only [decide_eq_true_eq] at hk
            rcases hk with h | h
            · exact absurd h hm0
            · exact h
          have a := hle i (m - 1) (by omega) (by omega)
          have b := hle (m - 1) m (by omega) (by omega)
          have c := hle i m (by omega) (by omega)
          rcases idLess_tri d[i]! d[m]! with ⟨p, _, _⟩ | ⟨_, p, _⟩ | ⟨_, _, p⟩
          · exact p
          · rw [c] at p; cases p
          · exfalso
            rcases idLess_tri d[m - 1]! d[m]! with ⟨q, _, _⟩ | ⟨_, q, _⟩ | ⟨_, _, q⟩
            · rw [← p, a] at q; cases q
            · rw [b] at q; cases q
            · exact hne q.symm
        refine ⟨List.pairwise_append.2 ⟨h1, by simp, fun x hx y hy => ?_⟩, fun x => ?_⟩
        · obtain ⟨j, hj, rfl⟩ := (h2 x).1 hx
          simp only [List.mem_singleton] at hy
          subst hy
          exact hlt j hj
        · rw [List.mem_append, h2 x]
          simp only [List.mem_singleton]
          constructor
          · rintro (⟨j, hj, h⟩ | h)
            · exact ⟨j, by omega, h⟩
            · exact ⟨m, by omega, h.symm⟩
          · rintro ⟨j, hj, h⟩
            by_cases hjm : j = m
            · subst hjm; exact .inr h.symm
            · exact .inl ⟨j, by omega, h⟩
      · rw [e, if_neg hk, List.append_nil]
        refine ⟨h1, fun x => ?_⟩
        rw [h2 x]
        have hm0 : ¬ m = 0 ∧ d[m]! = d[m - 1]! := by
          unfold keeps at hk
          simp only [decide_eq_true_eq, not_or, ne_eq, Decidable.not_not] at hk
          exact hk
        constructor
        · rintro ⟨j, hj, h⟩
          exact ⟨j, by omega, h⟩
        · rintro ⟨j, hj, h⟩
          by_cases hjm : j = m
          · subst hjm; exact ⟨j - 1, by omega, by rw [← hm0.2]; exact h⟩
          · exact ⟨j, by omega, h⟩
  obtain ⟨h1, h2⟩ := key d.size (Nat.le_refl _)
  refine ⟨h1, fun x => ?_⟩
  rw [h2 x]
  constructor
  · rintro ⟨j, hj, rfl⟩
    rw [getElem!_pos d j hj]
    simp
  · intro hx
    obtain ⟨j, hj, h⟩ := List.mem_iff_getElem.1 hx
    have hj' : j < d.size := by simpa using hj
    exact ⟨j, hj', by rw [getElem!_pos d j hj']; simpa using h⟩

/-- Sorted, and each once: the lists merged. -/
theorem sort_compact (l : List (List UInt8)) : compactUpTo (l.mergeSort fun x y => !(ltOf idCmp) y x).toArray (l.mergeSort fun x y => !(ltOf idCmp) y x).toArray.size = mrg l := by
  have hp : (l.mergeSort fun x y => !(ltOf idCmp) y x).Pairwise fun x y => (!(ltOf idCmp) y x) = true := by
    apply List.pairwise_mergeSort
    · intro a b c h1 h2
      simp only [Bool.not_eq_true'] at *
      exact idSWO.ntrans _ _ _ h2 h1
    · intro a b
      simp only [Bool.or_eq_true, Bool.not_eq_true']
      rcases idLess_tri a b with ⟨_, p, _⟩ | ⟨p, _, _⟩ | ⟨p, _, _⟩
      · exact .inl p
      · exact .inr p
      · exact .inr p
  have h := compact_rising (l.mergeSort fun x y => !(ltOf idCmp) y x).toArray (by
    refine List.Pairwise.imp (fun {x y} h => ?_) hp
    show ltOf idCmp y x = false
    simpa using h)
  exact mrg_unique h.1 (fun x => by rw [h.2 x]; simp)

end Go.Proofs.Ythfkfonfiejbmaa
