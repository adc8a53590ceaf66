/-
  LAYER 9, PLAIN: sessions, their order, what may be; one put, one dropped; whose they are.
-/
import Derived.Test.YtkmbnpjnjlcjmaaOrd
import Derived.Test.YtkmbnpjnjlcjmaaIdPure
import Derived.Test.YtkmbnpjnjlcjmaaValPure
import Derived.Test.YtkmbnpjnjlcjmaaSesBase
namespace Go.Proofs.Ytkmbnpjnjlcjmaa

/-- May it be? -/
def seOne (s : Ses) : Bool := idIs s.u && (decide (0 ≤ s.id) && (decide (s.id < 4) && vaMay s.v))

/-- One's place is ahead of the other one's. -/
def seLt (a b : Ses) : Bool := idLess a.u b.u || (decide (a.u = b.u) && decide (a.id < b.id))

/-- The same User and Id. -/
def seIs (a b : Ses) : Bool := decide (a.u = b.u) && decide (a.id = b.id)

theorem seIs_iff {a b : Ses} : seIs a b = true ↔ a.u = b.u ∧ a.id = b.id := by unfold seIs; simp

theorem seOrd : OrdOK seLt seIs where
  irrefl a := by unfold seLt; rw [idLess_irrefl]; simp
  trans a b c h1 h2 := by
    unfold seLt at *
    simp only [Bool.or_eq_true, Bool.and_eq_true, decide_eq_true_eq] at *
    rcases h1 with h1 | ⟨e1, h1⟩
    · rcases h2 with h2 | ⟨e2, h2⟩
      · exact .inl (idLess_trans h1 h2)
      · rw [← e2]; exact .inl h1
    · rcases h2 with h2 | ⟨e2, h2⟩
      · rw [e1]; exact .inl h2
      · exact .inr ⟨e1.trans e2, by omega⟩
  tri a b := by
    unfold seLt seIs
    rcases idLess_tri a.u b.u with ⟨h1, h2, h3⟩ | ⟨h1, h2, h3⟩ | ⟨h1, h2, h3⟩
    · have h3' : ¬ b.u = a.u := fun e => h3 e.symm
      exact .inl ⟨by simp [h1], by simp [h2, h3'], by simp [h3]⟩
    · have h3' : ¬ b.u = a.u := fun e => h3 e.symm
      exact .inr (.inl ⟨by simp [h1, h3], by simp [h2], by simp [h3]⟩)
    · rcases Int.lt_trichotomy a.id b.id with h | h | h
      · exact .inl ⟨by simp [h3, h], by simp [h3, idLess_irrefl]; omega, by simp [h3]; omega⟩
      · exact .inr (.inr ⟨by simp [h3, idLess_irrefl, h], by simp [h3, idLess_irrefl, h], by simp [h3, h]⟩)
      · exact .inr (.inl ⟨by simp [h3, idLess_irrefl]; omega, by simp [h3, h], by simp [h3]; omega⟩)
  same a b x h := by
    obtain ⟨h1, h2⟩ := seIs_iff.1 h
    unfold seLt
    rw [h1, h2]
    exact ⟨rfl, rfl⟩

theorem sgetD {l : List Ses} {i : Nat} (h : i < l.length) : l.getD i Ses.zero = l[i] := by
  rw [List.getD_eq_getElem?_getD, List.getElem?_eq_getElem h]; rfl

/-- What May asks at a place. -/
def seAt (l : List Ses) (i : Nat) : Bool := seOne (l.getD i Ses.zero) && (decide (i = 0) || seLt (l.getD (i - 1) Ses.zero) (l.getD i Ses.zero))

def seMay (l : List Ses) : Bool := decide (l.length ≤ 32) && (List.range l.length).all (seAt l)

theorem all_next {p : Nat → Bool} {k : Nat} (h : (List.range k).all p = true) (hk : p k = true) : (List.range (k + 1)).all p = true := by
  rw [List.range_succ, List.all_append, h]
  simpa using hk

theorem all_off {p : Nat → Bool} {k n : Nat} (hk : k < n) (h : p k = false) : (List.range n).all p = false := by
  rw [List.all_eq_false]
  exact ⟨k, List.mem_range.2 hk, by rw [h]; simp⟩

theorem all_get {p : Nat → Bool} {n k : Nat} (h : (List.range n).all p = true) (hk : k < n) : p k = true := by
  rw [List.all_eq_true] at h
  exact h k (List.mem_range.2 hk)

theorem seMay_off {l : List Ses} {k : Nat} (hk : k < l.length) (h : seAt l k = false) : seMay l = false := by
  unfold seMay
  rw [all_off hk h]
  simp

theorem seMay_long {l : List Ses} (h : ¬ l.length ≤ 32) : seMay l = false := by
  unfold seMay
  simp [h]

theorem seMay_all {l : List Ses} (h : l.length ≤ 32) (ha : (List.range l.length).all (seAt l) = true) : seMay l = true := by
  unfold seMay
  rw [ha]
  simp [h]

theorem seMay_rise {l : List Ses} (h : seMay l = true) : l.length ≤ 32 ∧ RiseO seLt l ∧ ∀ s ∈ l, seOne s = true := by
  unfold seMay at h
  simp only [Bool.and_eq_true, decide_eq_true_eq] at h
  obtain ⟨h1, h2⟩ := h
  have hn : ∀ i (hi : i + 1 < l.length), seLt l[i] l[i + 1] = true := by
    intro i hi
    have := all_get h2 hi
    unfold seAt at this
    rw [sgetD hi, show i + 1 - 1 = i by omega, sgetD (by omega)] at this
    simp only [Bool.and_eq_true, Bool.or_eq_true, decide_eq_true_eq] at this
    rcases this.2 with h' | h'
    · omega
    · exact h'
  refine ⟨h1, ?_, fun s hs => ?_⟩
  · unfold RiseO
    rw [List.pairwise_iff_getElem]
    intro i j hi hj hij
    have : ∀ d (hd : i + d + 1 < l.length), seLt l[i] l[i + d + 1] = true := by
      intro d
      induction d with
      | zero => intro hd; exact hn i hd
      | succ d ih => intro hd; exact seOrd.trans _ _ _ (ih (by omega)) (hn (i + d + 1) hd)
    have := this (j - i - 1) (by omega)
    simpa [show i + (j - i - 1) + 1 = j by omega] using this
  · obtain ⟨i, hi, rfl⟩ := List.getElem_of_mem hs
    have := all_get h2 hi
    unfold seAt at this
    rw [sgetD hi] at this
    simp only [Bool.and_eq_true] at this
    exact this.1

theorem seMay_of {l : List Ses} (h1 : l.length ≤ 32) (h2 : RiseO seLt l) (h3 : ∀ s ∈ l, seOne s = true) : seMay l = true := by
  refine seMay_all h1 ?_
  rw [List.all_eq_true]
  intro i hi
  have hi := List.mem_range.1 hi
  unfold seAt
  rw [sgetD hi, h3 _ (List.getElem_mem hi), Bool.true_and]
  by_cases h0 : i = 0
  · simp [h0]
  · rw [sgetD (by omega), rise_get h2 hi (by omega)]
    simp

/-- P9.2. -/
def sePut (l : List Ses) (s : Ses) : List Ses × Nat :=
  if seMay l = true ∧ seOne s = true then
    (if (findO seIs l s).isSome = true ∨ l.length < 32 then (putO seLt seIs l s, 0) else (l, 5))
  else (l, 1)

/-- The key of a session. -/
def keyS (u : List UInt8) (id : Int) : Ses := ⟨u, id, Val.zero⟩

/-- P9.3. -/
def seDrop (l : List Ses) (u : List UInt8) (id : Int) : List Ses × Nat :=
  if seMay l = true then
    (if (findO seIs l (keyS u id)).isSome = true then (dropO seIs l (keyS u id), 0) else (l, 6))
  else (l, 1)

/-- P9.1. -/
def seOf (l : List Ses) (u : List UInt8) : List Ses := l.filter fun s => decide (s.u = u)
def seNames (l : List Ses) : List (List UInt8) := l.map Ses.u

theorem sePut_arg {l : List Ses} {s : Ses} (h : seMay l = false ∨ seOne s = false) : sePut l s = (l, 1) := by
  unfold sePut
  rw [if_neg]
  rintro ⟨h1, h2⟩
  rcases h with h | h
  · rw [h] at h1; cases h1
  · rw [h] at h2; cases h2

theorem sePut_set {l : List Ses} {s : Ses} (h1 : seMay l = true) (h2 : seOne s = true) {i : Nat} (h : findO seIs l s = some i) : sePut l s = (l.set i s, 0) := by
  unfold sePut
  rw [if_pos ⟨h1, h2⟩, if_pos (.inl (by rw [h]; rfl))]
  unfold putO
  rw [h]

theorem sePut_full {l : List Ses} {s : Ses} (h1 : seMay l = true) (h2 : seOne s = true) (h : findO seIs l s = none) (h3 : ¬ l.length < 32) : sePut l s = (l, 5) := by
  unfold sePut
  rw [if_pos ⟨h1, h2⟩, if_neg]
  rw [h]
  rintro (h4 | h4)
  · cases h4
  · exact h3 h4

theorem sePut_new {l : List Ses} {s : Ses} (h1 : seMay l = true) (h2 : seOne s = true) (h : findO seIs l s = none) (h3 : l.length < 32) : sePut l s = (putS l (placeO seLt l s) s, 0) := by
  unfold sePut
  rw [if_pos ⟨h1, h2⟩, if_pos (.inr h3)]
  unfold putO
  rw [h]

theorem seDrop_arg {l : List Ses} {u : List UInt8} {id : Int} (h : seMay l = false) : seDrop l u id = (l, 1) := by
  unfold seDrop
  rw [if_neg]
  rw [h]; simp

theorem seDrop_none {l : List Ses} {u : List UInt8} {id : Int} (h : seMay l = true) (hn : findO seIs l (keyS u id) = none) : seDrop l u id = (l, 6) := by
  unfold seDrop
  rw [if_pos h, if_neg]
  rw [hn]; simp

theorem seDrop_at {l : List Ses} {u : List UInt8} {id : Int} (h : seMay l = true) {i : Nat} (hn : findO seIs l (keyS u id) = some i) : seDrop l u id = (l.take i ++ l.drop (i + 1), 0) := by
  unfold seDrop
  rw [if_pos h, if_pos (by rw [hn]; rfl), dropO_at seOrd (seMay_rise h).2.1 hn]

/-- A key alone is asked for. -/
theorem find_key (l : List Ses) (s : Ses) : findO seIs l s = findO seIs l (keyS s.u s.id) := rfl

theorem sePut_ok {l : List Ses} {s : Ses} {m : List Ses} (h : sePut l s = (m, 0)) : seMay l = true ∧ seOne s = true ∧ m = putO seLt seIs l s ∧ ((findO seIs l s).isSome = true ∨ l.length < 32) := by
  unfold sePut at h
  split at h
  · next hc =>
    split at h
    · next hc2 => simp only [Prod.mk.injEq] at h; exact ⟨hc.1, hc.2, h.1.symm, hc2⟩
    · simp at h
  · simp at h

theorem sePut_err {l : List Ses} {s : Ses} {m : List Ses} {e : Nat} (h : sePut l s = (m, e)) (he : e ≠ 0) : m = l := by
  unfold sePut at h
  split at h
  · split at h
    · simp only [Prod.mk.injEq] at h; exact absurd h.2.symm he
    · simp only [Prod.mk.injEq] at h; exact h.1.symm
  · simp only [Prod.mk.injEq] at h; exact h.1.symm

theorem seDrop_ok {l : List Ses} {u : List UInt8} {id : Int} {m : List Ses} (h : seDrop l u id = (m, 0)) : seMay l = true ∧ m = dropO seIs l (keyS u id) ∧ (findO seIs l (keyS u id)).isSome = true := by
  unfold seDrop at h
  split at h
  · next hc =>
    split at h
    · next hc2 => simp only [Prod.mk.injEq] at h; exact ⟨hc, h.1.symm, hc2⟩
    · simp at h
  · simp at h

/-- What may be stays so. -/
theorem put_may {l : List Ses} {s : Ses} {m : List Ses} (h : sePut l s = (m, 0)) : seMay m = true := by
  obtain ⟨h1, h2, rfl, h3⟩ := sePut_ok h
  obtain ⟨g1, g2, g3⟩ := seMay_rise h1
  refine seMay_of ?_ (rise_putO seOrd g2 s) (fun y hy => ?_)
  · rw [putO_len]
    split
    · exact g1
    · next hc => rcases h3 with h3 | h3
                 · exact absurd h3 hc
                 · omega
  · rcases (mem_putO seOrd g2 s y).1 hy with rfl | h'
    · exact h2
    · exact g3 y h'.1

theorem drop_may {l : List Ses} (h1 : seMay l = true) (x : Ses) : seMay (dropO seIs l x) = true := by
  obtain ⟨g1, g2, g3⟩ := seMay_rise h1
  refine seMay_of (Nat.le_trans (List.length_filter_le _ _) g1) (rise_dropO g2 x) (fun y hy => g3 y ((mem_dropO l x y).1 hy).1)

/-- Behind a Put a Drop of the same one. -/
theorem put_drop {l : List Ses} {s : Ses} {m : List Ses} (h : sePut l s = (m, 0)) : ∃ i, findO seIs m (keyS s.u s.id) = some i ∧ m[i]? = some s ∧ seDrop m s.u s.id = (dropO seIs l s, 0) ∧ (dropO seIs l s).length = m.length - 1 := by
  have hm := put_may h
  obtain ⟨h1, h2, rfl, h3⟩ := sePut_ok h
  obtain ⟨g1, g2, g3⟩ := seMay_rise h1
  obtain ⟨i, hi, hg⟩ := findO_put seOrd g2 s
  rw [find_key] at hi
  refine ⟨i, hi, hg, ?_, ?_⟩
  · rw [seDrop_at hm hi, ← dropO_at seOrd (rise_putO seOrd g2 s) hi]
    congr 1
    exact (dropO_congr seOrd (y := s) (seIs_iff.2 ⟨rfl, rfl⟩)).trans (drop_put seOrd g2 s)
  · have := dropO_len seOrd (rise_putO seOrd g2 s) (x := keyS s.u s.id) hi
    rw [dropO_congr seOrd (x := keyS s.u s.id) (y := s) (seIs_iff.2 ⟨rfl, rfl⟩), drop_put seOrd g2 s] at this
    exact this

/-- Another user's. -/
theorem of_put {l : List Ses} {s : Ses} (hr : RiseO seLt l) {o : List UInt8} (ho : o ≠ s.u) : seOf (putO seLt seIs l s) o = seOf l o := by
  refine rise_unique seOrd (List.Pairwise.filter _ (rise_putO seOrd hr s)) (List.Pairwise.filter _ hr) (fun y => ?_)
  unfold seOf
  rw [List.mem_filter, List.mem_filter, mem_putO seOrd hr]
  simp only [decide_eq_true_eq]
  constructor
  · rintro ⟨rfl | h, h2⟩
    · exact absurd h2.symm ho
    · exact ⟨h.1, h2⟩
  · rintro ⟨h, h2⟩
    refine ⟨.inr ⟨h, ?_⟩, h2⟩
    rw [Bool.eq_false_iff]
    intro h3
    exact ho (h2.symm.trans (seIs_iff.1 h3).1)

theorem of_drop {l : List Ses} {s : Ses} {o : List UInt8} (ho : o ≠ s.u) : seOf (dropO seIs l s) o = seOf l o := by
  unfold seOf dropO
  rw [List.filter_filter]
  congr 1
  funext y
  by_cases h : y.u = o
  · have : seIs y s = false := by
      rw [Bool.eq_false_iff]
      intro h3
      exact ho (h.symm.trans (seIs_iff.1 h3).1)
    simp [h, this]
  · simp [h]

theorem mem_of {l : List Ses} {u : List UInt8} {s : Ses} : s ∈ seOf l u ↔ s ∈ l ∧ s.u = u := by
  unfold seOf
  rw [List.mem_filter]
  simp

end Go.Proofs.Ytkmbnpjnjlcjmaa
