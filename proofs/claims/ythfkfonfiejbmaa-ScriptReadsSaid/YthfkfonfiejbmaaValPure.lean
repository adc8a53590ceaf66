/-
  PLAIN MATHEMATICS OF LAYER 4 (value): what may be, its bytes, and how they are read. No program in sight.
-/
import Derived.Test.YthfkfonfiejbmaaVarPure
namespace Go.Proofs.Ythfkfonfiejbmaa

/-- A value as its fields. -/
structure Val where
  sh : Int
  pr : Int
  si : Int
  st : List UInt8

def Val.zero : Val := ⟨0, 0, 0, []⟩

/-- A byte that can be shown. -/
def chOk (b : UInt8) : Bool := decide (32 ≤ b.toNat) && decide (b.toNat ≤ 126)

def stOk (l : List UInt8) : Bool := decide (l.length ≤ 32) && l.all chOk

def numsOk (a b c : Int) : Bool := decide (1 ≤ a ∧ a ≤ 4 ∧ -128 ≤ b ∧ b ≤ 127 ∧ 0 ≤ c ∧ c ≤ 1099511627776)

/-- May it be? -/
def vaMay (v : Val) : Bool := numsOk v.sh v.pr v.si && stOk v.st

/-- Its bytes. -/
def vaBytes (v : Val) : List UInt8 := [u8of v.sh.toNat, u8of (v.pr + 128).toNat] ++ (vput v.si.toNat ++ (vput v.st.length ++ v.st))

def vaTwo (l : List UInt8) (p : Int) (n : Nat) (t : List UInt8) : Val := ⟨(l.getD p.toNat 0).toNat, (l.getD (p.toNat + 1) 0).toNat - 128, n, t⟩

/-- The value at a place of bytes: value, place behind it, error. -/
def vaTake (l : List UInt8) (p : Int) : Val × Nat × Nat :=
  if p < 0 ∨ (l.length : Int) < p then (Val.zero, 0, 1)
  else if (l.length : Int) - p < 2 then (Val.zero, 0, 2)
  else if (vget l (p + 2)).2.2 ≠ 0 then (Val.zero, 0, (vget l (p + 2)).2.2)
  else if (vtake l (vget l (p + 2)).2.1 32).2.2 ≠ 0 then (Val.zero, 0, (vtake l (vget l (p + 2)).2.1 32).2.2)
  else if vaMay (vaTwo l p (vget l (p + 2)).1 (vtake l (vget l (p + 2)).2.1 32).1) = false then (Val.zero, 0, 3)
  else (vaTwo l p (vget l (p + 2)).1 (vtake l (vget l (p + 2)).2.1 32).1, (vtake l (vget l (p + 2)).2.1 32).2.1, 0)

theorem vaMay_parts {v : Val} (h : vaMay v = true) : 1 ≤ v.sh ∧ v.sh ≤ 4 ∧ -128 ≤ v.pr ∧ v.pr ≤ 127 ∧ 0 ≤ v.si ∧ v.si ≤ 1099511627776 ∧ v.st.length ≤ 32 := by
  unfold vaMay numsOk stOk at h
  simp at h
  omega

/-- The bytes of a number, at a place. -/
theorem vget_bytes {l : List UInt8} {p : Nat} {n f : Nat} (h : vget l p = (n, f, 0)) : p ≤ f ∧ f ≤ l.length ∧ vput n = (l.drop p).take (f - p) := by
  have hf := vget_facts h
  have hp := (hf.2.2 rfl).2
  have hle : p ≤ l.length := by simp at hp; omega
  unfold vget at h
  rw [if_neg (by omega)] at h
  simp only [Int.toNat_natCast] at h hp
  by_cases he : (vgetF 0 (l.drop p)).2.2 = 0
  · rw [if_pos he] at h
    simp only [Prod.mk.injEq] at h
    have := vputF_vgetF (l.drop p) 9 0 rfl he
    refine ⟨by omega, hf.2.1, ?_⟩
    rw [← h.1]
    unfold vput
    rw [this.1]
    congr 1
    omega
  · rw [if_neg he] at h
    simp only [Prod.mk.injEq] at h
    exact absurd h.2.2 he

/-- The bytes of a text behind its length, at a place. -/
theorem vtake_bytes {l : List UInt8} {p : Nat} {m : Int} {t : List UInt8} {f : Nat} (h : vtake l p m = (t, f, 0)) : p ≤ f ∧ f ≤ l.length ∧ vput t.length ++ t = (l.drop p).take (f - p) ∧ (t.length : Int) ≤ m := by
  obtain ⟨n, g, e, hg⟩ : ∃ n g e, vget l p = (n, g, e) := ⟨_, _, _, rfl⟩
  unfold vtake at h
  rw [hg] at h
  simp only at h
  by_cases he : e = 0
  · subst he
    rw [if_neg (by simp)] at h
    have hb := vget_bytes hg
    by_cases h1 : m < 0 ∨ m < (n : Int)
    · rw [if_pos h1] at h; simp at h
    · rw [if_neg h1] at h
      by_cases h2 : l.length - g < n
      · rw [if_pos h2] at h; simp at h
      · rw [if_neg h2] at h
        simp only [Prod.mk.injEq] at h
        obtain ⟨rfl, rfl, _⟩ := h
        have hl : ((l.drop g).take n).length = n := by simp; omega
        refine ⟨by omega, by omega, ?_, by rw [hl]; omega⟩
        rw [hl, hb.2.2]
        have e1 : g + n - p = (g - p) + n := by omega
        have e2 : l.drop g = (l.drop p).drop (g - p) := by rw [List.drop_drop]; congr 1; omega
        rw [e1, e2, List.take_add]
  · rw [if_pos he] at h
    simp only [Prod.mk.injEq] at h
    exact absurd h.2.2 he

theorem u8of_lit {b : UInt8} : u8of ((b.toNat : Int)).toNat = b := by simp [u8of_of_toNat]

/-- What is put is taken, wherever it stands. -/
theorem vaTake_put {v : Val} (hv : vaMay v = true) (a r : List UInt8) : vaTake (a ++ (vaBytes v ++ r)) (a.length : Int) = (v, a.length + (vaBytes v).length, 0) := by
  obtain ⟨h1, h2, h3, h4, h5, h6, h7⟩ := vaMay_parts hv
  obtain ⟨sh, pr, si, st⟩ := v
  simp only at h1 h2 h3 h4 h5 h6 h7
  obtain ⟨n, rfl⟩ := Int.eq_ofNat_of_zero_le h5
  have e1 : a ++ (vaBytes ⟨sh, pr, n, st⟩ ++ r) = (a ++ [u8of sh.toNat, u8of (pr + 128).toNat]) ++ (vput n ++ (vput st.length ++ st ++ r)) := by
    simp [vaBytes]
  have e2 : ((a.length : Int) + 2) = (((a ++ [u8of sh.toNat, u8of (pr + 128).toNat]).length : Nat) : Int) := by simp
  have g := vget_vput n (by omega) (a ++ [u8of sh.toNat, u8of (pr + 128).toNat]) (vput st.length ++ st ++ r)
  have e3 : (a ++ [u8of sh.toNat, u8of (pr + 128).toNat]).length + (vput n).length = ((a ++ [u8of sh.toNat, u8of (pr + 128).toNat]) ++ vput n).length := (List.length_append ..).symm
  have t := vtake_text ((a ++ [u8of sh.toNat, u8of (pr + 128).toNat]) ++ vput n) st r 32 (by omega) (by omega)
  rw [List.append_assoc _ (vput n)] at t
  rw [e3] at g
  have b1 : ((a ++ [u8of sh.toNat, u8of (pr + 128).toNat]) ++ (vput n ++ (vput st.length ++ st ++ r))).getD a.length 0 = u8of sh.toNat := by simp [List.getD]
  have b2 : ((a ++ [u8of sh.toNat, u8of (pr + 128).toNat]) ++ (vput n ++ (vput st.length ++ st ++ r))).getD (a.length + 1) 0 = u8of (pr + 128).toNat := by
    have : a.length + 1 - a.length = 1 := by omega
    simp [List.getD, this]
  have htwo : vaTwo ((a ++ [u8of sh.toNat, u8of (pr + 128).toNat]) ++ (vput n ++ (vput st.length ++ st ++ r))) a.length n st = ⟨sh, pr, n, st⟩ := by
    unfold vaTwo
    simp only [Int.toNat_natCast]
    rw [b1, b2, u8of_toNat (by omega), u8of_toNat (by omega)]
    rw [show ((sh.toNat : Nat) : Int) = sh by omega, show (((pr + 128).toNat : Nat) : Int) - 128 = pr by omega]
  unfold vaTake
  rw [e1, if_neg (by simp; omega), if_neg (by simp; omega), e2, g]
  simp only [ne_eq, not_true_eq_false, if_false]
  rw [t]
  simp only [not_true_eq_false, if_false]
  rw [htwo, hv]
  simp only [Bool.true_eq_false, if_false]
  simp [vaBytes]
  omega

/-- What is taken is what was put. -/
theorem vaPut_take {l : List UInt8} {p : Nat} {v : Val} {f : Nat} (h : vaTake l p = (v, f, 0)) : vaMay v = true ∧ p ≤ f ∧ f ≤ l.length ∧ vaBytes v = (l.drop p).take (f - p) := by
  unfold vaTake at h
  by_cases h1 : (p : Int) < 0 ∨ (l.length : Int) < p
  · rw [if_pos h1] at h; simp at h
  rw [if_neg h1] at h
  by_cases h2 : (l.length : Int) - p < 2
  · rw [if_pos h2] at h; simp at h
  rw [if_neg h2] at h
  obtain ⟨n, g, e, hg⟩ : ∃ n g e, vget l ((p : Int) + 2) = (n, g, e) := ⟨_, _, _, rfl⟩
  rw [hg] at h
  simp only at h
  by_cases he : e = 0
  · subst he
    simp only [ne_eq, not_true_eq_false, if_false] at h
    obtain ⟨t, k, e', ht⟩ : ∃ t k e', vtake l g 32 = (t, k, e') := ⟨_, _, _, rfl⟩
    rw [ht] at h
    simp only at h
    by_cases he' : e' = 0
    · subst he'
      simp only [not_true_eq_false, if_false] at h
      by_cases hm : vaMay (vaTwo l p n t) = false
      · rw [if_pos hm] at h; simp at h
      · rw [if_neg hm] at h
        simp only [Prod.mk.injEq] at h
        obtain ⟨rfl, rfl, _⟩ := h
        have hg' : vget l ((p + 2 : Nat) : Int) = (n, g, 0) := by rw [← hg]; rfl
        obtain ⟨a1, a2, a3⟩ := vget_bytes hg'
        obtain ⟨b1, b2, b3, b4⟩ := vtake_bytes ht
        refine ⟨by simpa using hm, by omega, b2, ?_⟩
        unfold vaBytes vaTwo
        simp only [Int.toNat_natCast]
        rw [show ((((l.getD (p + 1) 0).toNat : Nat) : Int) - 128 + 128).toNat = (l.getD (p + 1) 0).toNat by omega, u8of_of_toNat, u8of_of_toNat, a3, b3]
        have e1 : k - p = 2 + ((g - (p + 2)) + (k - g)) := by omega
        have e2 : (l.drop p).take 2 = [l.getD p 0, l.getD (p + 1) 0] := by
          rw [List.drop_eq_getElem_cons (show p < l.length by omega), List.drop_eq_getElem_cons (show p + 1 < l.length by omega)]
          rw [show l.getD p 0 = l[p]'(by omega) by simp [List.getD, List.getElem?_eq_getElem (show p < l.length by omega)], show l.getD (p + 1) 0 = l[p + 1]'(by omega) by simp [List.getD, List.getElem?_eq_getElem (show p + 1 < l.length by omega)]]
          rfl
        rw [e1, List.take_add, e2, List.take_add, List.drop_drop, List.drop_drop]
        congr 4
        omega
    · rw [if_pos he'] at h
      simp only [Prod.mk.injEq] at h
      exact absurd h.2.2 he'
  · rw [if_pos he] at h
    simp only [Prod.mk.injEq] at h
    exact absurd h.2.2 he

/-- With an error all else is zero. -/
theorem vaTake_err (l : List UInt8) (p : Int) : (vaTake l p).2.2 = 0 ∨ ((vaTake l p).1 = Val.zero ∧ (vaTake l p).2.1 = 0) := by
  unfold vaTake
  split
  · exact .inr ⟨rfl, rfl⟩
  split
  · exact .inr ⟨rfl, rfl⟩
  split
  · exact .inr ⟨rfl, rfl⟩
  split
  · exact .inr ⟨rfl, rfl⟩
  split
  · exact .inr ⟨rfl, rfl⟩
  · exact .inl rfl

theorem vaBytes_inj {v w : Val} (hv : vaMay v = true) (hw : vaMay w = true) (h : vaBytes v = vaBytes w) : v = w := by
  have a := vaTake_put hv [] []
  have b := vaTake_put hw [] []
  rw [h, b] at a
  exact (Prod.mk.injEq .. ▸ a).1.symm

theorem vaBytes_prefix {v w : Val} (hv : vaMay v = true) (hw : vaMay w = true) (h : (vaBytes v).length < (vaBytes w).length) : (vaBytes w).take (vaBytes v).length ≠ vaBytes v := by
  intro he
  have e : vaBytes w = vaBytes v ++ (vaBytes w).drop (vaBytes v).length := by
    conv => lhs; rw [← List.take_append_drop (vaBytes v).length (vaBytes w), he]
  have a := vaTake_put hv [] ((vaBytes w).drop (vaBytes v).length)
  have b := vaTake_put hw [] []
  rw [← e] at a
  rw [List.append_nil] at b
  rw [b] at a
  simp only [Prod.mk.injEq, List.length_nil] at a
  omega

/-- A length below 128 takes one byte. -/
theorem vput_small_len {n : Nat} (h : n < 128) : (vput n).length = 1 := by rw [vput_lt h]; rfl

theorem vaBytes_len {v : Val} (hv : vaMay v = true) : (vaBytes v).length = 3 + (vput v.si.toNat).length + v.st.length := by
  have h := (vaMay_parts hv).2.2.2.2.2.2
  have := vput_small_len (show v.st.length < 128 by omega)
  unfold vaBytes
  simp only [List.length_append, List.length_cons, List.length_nil]
  omega

theorem vaBytes_head (v : Val) : (vaBytes v).take (2 + (vput v.si.toNat).length) = [u8of v.sh.toNat, u8of (v.pr + 128).toNat] ++ vput v.si.toNat := by
  unfold vaBytes
  rw [← List.append_assoc, List.take_append_of_le_length (by simp; omega), List.take_of_length_le (by simp; omega)]

theorem vaBytes_tail {v : Val} (hv : vaMay v = true) : (vaBytes v).drop (3 + (vput v.si.toNat).length) = v.st := by
  have h := (vaMay_parts hv).2.2.2.2.2.2
  have := vput_small_len (show v.st.length < 128 by omega)
  unfold vaBytes
  rw [← List.append_assoc, ← List.append_assoc, List.drop_append_of_le_length (by simp; omega), List.drop_of_length_le (by simp; omega)]
  simp

/-- The words of the shows. -/
def shows : List (List UInt8) := [[111, 102, 102], [103, 111, 110, 101], [97, 119, 97, 121], [98, 117, 115, 121], [111, 110, 108, 105, 110, 101]]

def vaSay (n : Int) : List UInt8 × Bool := if n < 0 ∨ 4 < n then ([], false) else (shows.getD n.toNat [], true)

def vaHear (l : List UInt8) : Nat × Bool :=
  if l = [111, 102, 102] then (0, true) else if l = [103, 111, 110, 101] then (1, true) else if l = [97, 119, 97, 121] then (2, true)
  else if l = [98, 117, 115, 121] then (3, true) else if l = [111, 110, 108, 105, 110, 101] then (4, true) else (0, false)

theorem vaSay_hear (n : Int) : ((vaSay n).2 = true ∧ vaHear (vaSay n).1 = (n.toNat, true) ∧ 0 ≤ n ∧ n ≤ 4) ∨ (vaSay n = ([], false) ∧ vaHear [] = (0, false)) := by
  unfold vaSay
  by_cases h : n < 0 ∨ 4 < n
  · rw [if_pos h]; exact .inr ⟨rfl, by decide⟩
  · rw [if_neg h]
    have : n = 0 ∨ n = 1 ∨ n = 2 ∨ n = 3 ∨ n = 4 := by omega
    rcases this with rfl | rfl | rfl | rfl | rfl <;> exact .inl (by decide)

/-- Are two values the same? -/
def vaEq (x y : Val) : Bool := (x.sh == y.sh && (x.pr == y.pr && (x.si == y.si && x.st == y.st)))

theorem vaEq_iff {x y : Val} : vaEq x y = true ↔ x = y := by
  obtain ⟨a, b, c, s⟩ := x
  obtain ⟨a', b', c', s'⟩ := y
  simp [vaEq]

end Go.Proofs.Ythfkfonfiejbmaa
