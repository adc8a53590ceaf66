/-
  PLAIN MATHEMATICS OF LAYER 23 (script): events as bytes, one by one, and many at once. No program in sight.
-/
import Derived.Test.YthfkfonfiejbmaaEvP
import Derived.Test.YthfkfonfiejbmaaIdPure
import Derived.Test.YthfkfonfiejbmaaCrcPure
namespace Go.Proofs.Ythfkfonfiejbmaa

/-- What events of a kind have, as bits. -/
def scHas (k : Int) : Int := if 1 ≤ k ∧ k ≤ 6 then 1 else if k = 7 then 6 else if k = 8 then 2 else 0

def oOk (k : Int) (o : List UInt8) : Bool := if 1 ≤ k ∧ k ≤ 6 then idIs o else decide (o = [])
def iOk (k id : Int) : Bool := if k = 7 ∨ k = 8 then decide (0 ≤ id ∧ id < 4) else decide (id = 0)
def vOk (k : Int) (v : Val) : Bool := if k = 7 then vaMay v else vaEq v Val.zero

/-- May it be? -/
def scMay (e : Ev) : Bool := decide (1 ≤ e.k ∧ e.k ≤ 8) && (idIs e.u && (oOk e.k e.o && (iOk e.k e.id && vOk e.k e.v)))

def scTail (e : Ev) : List UInt8 := if e.k ≤ 6 then vput e.o.length ++ e.o else u8of e.id.toNat :: (if e.k = 7 then vaBytes e.v else [])

/-- Its bytes, without a seal. -/
def scBytes (e : Ev) : List UInt8 := u8of e.k.toNat :: (vput e.u.length ++ e.u ++ scTail e)

def scEnc (e : Ev) : List UInt8 × Nat := if scMay e = true then (cseal (scBytes e), 0) else ([], 1)

/-- What stands behind the User. -/
def scPart (l : List UInt8) (k : Nat) (u : List UInt8) (p : Nat) : Ev × Bool :=
  if 1 ≤ k ∧ k ≤ 6 then (if (idTake l p).2.2 ≠ 0 then (Ev.zero, false) else (⟨k, u, (idTake l p).1, 0, Val.zero⟩, decide ((idTake l p).2.1 = l.length)))
  else if k = 7 then
    (if p < l.length then (if (vaTake l ((p + 1 : Nat) : Int)).2.2 ≠ 0 then (Ev.zero, false) else (⟨k, u, [], (l.getD p 0).toNat, (vaTake l ((p + 1 : Nat) : Int)).1⟩, decide ((vaTake l ((p + 1 : Nat) : Int)).2.1 = l.length)))
     else (Ev.zero, false))
  else if k = 8 then (if p < l.length then (⟨k, u, [], (l.getD p 0).toNat, Val.zero⟩, decide (p + 1 = l.length)) else (Ev.zero, false))
  else (⟨k, u, [], 0, Val.zero⟩, decide (p = l.length))

/-- The event of bytes without a seal, and whether it is all of them. -/
def scTake (l : List UInt8) : Ev × Bool :=
  if l = [] then (Ev.zero, false)
  else if (idTake l 1).2.2 ≠ 0 then (Ev.zero, false)
  else scPart l (l.getD 0 0).toNat (idTake l 1).1 (idTake l 1).2.1

/-- The document's reading. -/
def scRead (l : List UInt8) : Ev :=
  if l = [] then Ev.zero
  else if (idTake l 1).2.2 ≠ 0 then Ev.zero
  else if (l.getD 0 0).toNat ≤ 6 then ⟨(l.getD 0 0).toNat, (idTake l 1).1, (idTake l (idTake l 1).2.1).1, 0, Val.zero⟩
  else if l.length ≤ (idTake l 1).2.1 then Ev.zero
  else ⟨(l.getD 0 0).toNat, (idTake l 1).1, [], (l.getD (idTake l 1).2.1 0).toNat, if (l.getD 0 0).toNat = 7 then (vaTake l (((idTake l 1).2.1 + 1 : Nat) : Int)).1 else Val.zero⟩

def scDec (s : List UInt8) : Ev × Nat :=
  if (copen s).2 ≠ 0 then (Ev.zero, (copen s).2)
  else if ((scTake (copen s).1).2 && scMay (scTake (copen s).1).1) = true then ((scTake (copen s).1).1, 0) else (Ev.zero, 3)

theorem vaEq_zero {v : Val} : vaEq v Val.zero = true ↔ v = Val.zero := vaEq_iff

theorem idTake_at {t : List UInt8} (h : idIs t = true) (a r : List UInt8) : idTake (a ++ (vput t.length ++ t ++ r)) (a.length : Int) = (t, a.length + (vput t.length).length + t.length, 0) := by
  have hl := (idIs_parts h).2.1
  unfold idTake
  rw [vtake_text a t r 16 (by omega) (by omega)]
  simp [h]

theorem idTake_ok {l : List UInt8} {p : Int} {t : List UInt8} {f : Nat} (h : idTake l p = (t, f, 0)) : idIs t = true ∧ vtake l p 16 = (t, f, 0) := by
  unfold idTake at h
  by_cases h1 : (vtake l p 16).2.2 = 0
  · rw [if_neg (by simpa using h1)] at h
    by_cases h2 : idIs (vtake l p 16).1 = true
    · rw [if_pos h2] at h
      rw [h] at h2
      exact ⟨h2, h⟩
    · rw [if_neg h2] at h; simp at h
  · rw [if_pos h1] at h
    simp only [Prod.mk.injEq] at h
    exact absurd h.2.2 h1

theorem idTake_bytes {l : List UInt8} {p : Nat} {t : List UInt8} {f : Nat} (h : idTake l p = (t, f, 0)) : idIs t = true ∧ p ≤ f ∧ f ≤ l.length ∧ vput t.length ++ t = (l.drop p).take (f - p) := by
  obtain ⟨h1, h2⟩ := idTake_ok h
  obtain ⟨h3, h4, h5, _⟩ := vtake_bytes h2
  exact ⟨h1, h3, h4, h5⟩

theorem scMay_parts {e : Ev} (h : scMay e = true) : (1 ≤ e.k ∧ e.k ≤ 8) ∧ idIs e.u = true ∧ oOk e.k e.o = true ∧ iOk e.k e.id = true ∧ vOk e.k e.v = true := by
  unfold scMay at h
  simp only [Bool.and_eq_true, decide_eq_true_eq] at h
  exact h

/-- The three kinds of events that may be. -/
theorem scMay_kinds {e : Ev} (h : scMay e = true) :
    (1 ≤ e.k ∧ e.k ≤ 6 ∧ idIs e.u = true ∧ idIs e.o = true ∧ e.id = 0 ∧ e.v = Val.zero) ∨
    (e.k = 7 ∧ idIs e.u = true ∧ e.o = [] ∧ 0 ≤ e.id ∧ e.id < 4 ∧ vaMay e.v = true) ∨
    (e.k = 8 ∧ idIs e.u = true ∧ e.o = [] ∧ 0 ≤ e.id ∧ e.id < 4 ∧ e.v = Val.zero) := by
  obtain ⟨⟨h1, h8⟩, hu, ho, hi, hv⟩ := scMay_parts h
  unfold oOk at ho
  unfold iOk at hi
  unfold vOk at hv
  by_cases h6 : e.k ≤ 6
  · rw [if_pos ⟨h1, h6⟩] at ho
    rw [if_neg (by omega)] at hi
    rw [if_neg (by omega)] at hv
    exact .inl ⟨h1, h6, hu, ho, by simpa using hi, vaEq_zero.1 hv⟩
  · rw [if_neg (by omega)] at ho
    rw [if_pos (by omega)] at hi
    by_cases h7 : e.k = 7
    · rw [if_pos h7] at hv
      have := of_decide_eq_true hi
      exact .inr (.inl ⟨h7, hu, of_decide_eq_true ho, this.1, this.2, hv⟩)
    · rw [if_neg h7] at hv
      have := of_decide_eq_true hi
      exact .inr (.inr ⟨by omega, hu, of_decide_eq_true ho, this.1, this.2, vaEq_zero.1 hv⟩)

theorem u8of_nat {b : UInt8} : u8of b.toNat = b := u8of_of_toNat b

theorem take_drop_join {l : List UInt8} {p q : Nat} (h : p ≤ q) : (l.drop p).take (q - p) ++ l.drop q = l.drop p := by
  have e : l.drop q = (l.drop p).drop (q - p) := by rw [List.drop_drop]; congr 1; omega
  rw [e, List.take_append_drop]

/-- What is taken whole is what was put. -/
theorem scTake_ok {l : List UInt8} (h1 : (scTake l).2 = true) (h2 : scMay (scTake l).1 = true) : scBytes (scTake l).1 = l := by
  unfold scTake at h1 h2 ⊢
  by_cases h0 : l = []
  · rw [if_pos h0] at h1; simp at h1
  rw [if_neg h0] at h1 h2 ⊢
  obtain ⟨b, r, rfl⟩ : ∃ b r, l = b :: r := by cases l with
    | nil => exact absurd rfl h0
    | cons b r => exact ⟨b, r, rfl⟩
  obtain ⟨u, p, er, hu⟩ : ∃ u p er, idTake (b :: r) 1 = (u, p, er) := ⟨_, _, _, rfl⟩
  rw [hu] at h1 h2 ⊢
  by_cases he : er = 0
  case neg => rw [if_pos (by simpa using he)] at h1; simp at h1
  subst he
  rw [if_neg (by simp)] at h1 h2 ⊢
  obtain ⟨u1, u2, u3, u4⟩ := idTake_bytes (p := 1) hu
  have e0 : (b :: r).getD 0 0 = b := rfl
  rw [e0] at h1 h2 ⊢
  generalize hb : b.toNat = k at h1 h2 ⊢
  have hkb : u8of k = b := by rw [← hb]; exact u8of_of_toNat b
  simp only at h1 h2 ⊢
  have hr1 : (b :: r).drop 1 = r := rfl
  unfold scPart at h1 h2 ⊢
  by_cases c6 : 1 ≤ k ∧ k ≤ 6
  · rw [if_pos c6] at h1 h2 ⊢
    obtain ⟨o, q, er, ho⟩ : ∃ o q er, idTake (b :: r) p = (o, q, er) := ⟨_, _, _, rfl⟩
    rw [ho] at h1 h2 ⊢
    by_cases he : er = 0
    case neg => rw [if_pos (by simpa using he)] at h1; simp at h1
    subst he
    rw [if_neg (by simp)] at h1 h2 ⊢
    obtain ⟨o1, o2, o3, o4⟩ := idTake_bytes ho
    simp only [decide_eq_true_eq] at h1
    subst h1
    unfold scBytes scTail
    simp only
    rw [if_pos (by omega), u4, o4, Int.toNat_natCast, hkb]
    have : List.take ((b :: r).length - p) (List.drop p (b :: r)) = List.drop p (b :: r) := List.take_of_length_le (by simp)
    rw [this, take_drop_join u2, hr1]
  rw [if_neg c6] at h1 h2 ⊢
  by_cases c7 : k = 7
  · rw [if_pos c7] at h1 h2 ⊢
    by_cases hp : p < (b :: r).length
    case neg => rw [if_neg hp] at h1; simp at h1
    rw [if_pos hp] at h1 h2 ⊢
    obtain ⟨v, q, er, hv⟩ : ∃ v q er, vaTake (b :: r) ((p + 1 : Nat) : Int) = (v, q, er) := ⟨_, _, _, rfl⟩
    rw [hv] at h1 h2 ⊢
    by_cases he : er = 0
    case neg => rw [if_pos (by simpa using he)] at h1; simp at h1
    subst he
    rw [if_neg (by simp)] at h1 h2 ⊢
    obtain ⟨v1, v2, v3, v4⟩ := vaPut_take hv
    simp only [decide_eq_true_eq] at h1
    subst h1
    unfold scBytes scTail
    simp only
    rw [if_neg (by omega), if_pos (by omega), u4, v4, Int.toNat_natCast, hkb, Int.toNat_natCast, u8of_nat]
    have e2 : List.take ((b :: r).length - (p + 1)) (List.drop (p + 1) (b :: r)) = List.drop (p + 1) (b :: r) := List.take_of_length_le (by simp)
    have e3 : (b :: r).getD p 0 :: List.drop (p + 1) (b :: r) = List.drop p (b :: r) := by
      rw [List.drop_eq_getElem_cons hp, List.getD_eq_getElem?_getD, List.getElem?_eq_getElem hp]
      rfl
    rw [e2, e3, take_drop_join u2, hr1]
  rw [if_neg c7] at h1 h2 ⊢
  by_cases c8 : k = 8
  · rw [if_pos c8] at h1 h2 ⊢
    by_cases hp : p < (b :: r).length
    case neg => rw [if_neg hp] at h1; simp at h1
    rw [if_pos hp] at h1 h2 ⊢
    simp only [decide_eq_true_eq] at h1
    unfold scBytes scTail
    simp only
    rw [if_neg (by omega), if_neg (by omega), u4, Int.toNat_natCast, hkb, Int.toNat_natCast, u8of_nat]
    have e3 : [(b :: r).getD p 0] = List.drop p (b :: r) := by
      rw [List.drop_eq_getElem_cons hp, List.getD_eq_getElem?_getD, List.getElem?_eq_getElem hp, List.drop_of_length_le (by omega)]
      rfl
    rw [e3, take_drop_join u2, hr1]
  · rw [if_neg c8] at h2
    obtain ⟨h, _⟩ := scMay_parts h2
    simp only at h
    omega

theorem scBytes_take {e : Ev} (h : scMay e = true) : idTake (scBytes e) 1 = (e.u, 1 + (vput e.u.length).length + e.u.length, 0) ∧ (scBytes e).getD 0 0 = u8of e.k.toNat ∧ scBytes e ≠ [] := by
  have hu := (scMay_parts h).2.1
  have := idTake_at hu [u8of e.k.toNat] (scTail e)
  exact ⟨this, rfl, by simp [scBytes]⟩

theorem scBytes_len (e : Ev) : (scBytes e).length = 1 + (vput e.u.length).length + e.u.length + (scTail e).length := by
  simp [scBytes]
  omega

theorem scBytes_drop (e : Ev) : scBytes e = (u8of e.k.toNat :: (vput e.u.length ++ e.u)) ++ scTail e := by simp [scBytes]

/-- What is put is taken whole. -/
theorem scTake_put {e : Ev} (h : scMay e = true) : scTake (scBytes e) = (e, true) := by
  obtain ⟨t1, t2, t3⟩ := scBytes_take h
  have hk := (scMay_parts h).1
  have hl := scBytes_len e
  have hpl : (u8of e.k.toNat :: (vput e.u.length ++ e.u)).length = 1 + (vput e.u.length).length + e.u.length := by simp; omega
  unfold scTake
  rw [if_neg t3, t1, if_neg (by simp), t2, u8of_toNat (by omega)]
  simp only
  unfold scPart
  rcases scMay_kinds h with ⟨k1, k6, hu, ho, hi, hv⟩ | ⟨k7, hu, ho, i0, i4, hv⟩ | ⟨k8, hu, ho, i0, i4, hv⟩
  · rw [if_pos (by omega)]
    have ht : scTail e = vput e.o.length ++ e.o ++ [] := by unfold scTail; rw [if_pos k6, List.append_nil]
    have e1 := idTake_at ho (u8of e.k.toNat :: (vput e.u.length ++ e.u)) []
    rw [← ht, ← scBytes_drop, hpl] at e1
    rw [e1, if_neg (by simp)]
    obtain ⟨k, u, o, id, v⟩ := e
    simp only at hi hv k1
    subst hi hv
    simp only [Prod.mk.injEq, decide_eq_true_eq]
    refine ⟨by rw [show ((k.toNat : Nat) : Int) = k by omega], ?_⟩
    rw [hl, ht]
    simp
    omega
  · rw [if_neg (by omega), if_pos (by omega)]
    have ht : scTail e = u8of e.id.toNat :: vaBytes e.v := by unfold scTail; rw [if_neg (by omega), if_pos k7]
    have hp : 1 + (vput e.u.length).length + e.u.length < (scBytes e).length := by rw [hl, ht]; simp
    rw [if_pos hp]
    have e1 := vaTake_put hv (u8of e.k.toNat :: (vput e.u.length ++ e.u) ++ [u8of e.id.toNat]) []
    have e2 : (u8of e.k.toNat :: (vput e.u.length ++ e.u) ++ [u8of e.id.toNat]) ++ (vaBytes e.v ++ []) = scBytes e := by rw [scBytes_drop, ht]; simp
    have e3 : (u8of e.k.toNat :: (vput e.u.length ++ e.u) ++ [u8of e.id.toNat]).length = 1 + (vput e.u.length).length + e.u.length + 1 := by rw [List.length_append, hpl]; rfl
    rw [e2, e3] at e1
    rw [e1, if_neg (by simp)]
    have e4 : (scBytes e).getD (1 + (vput e.u.length).length + e.u.length) 0 = u8of e.id.toNat := by
      rw [scBytes_drop, List.getD_eq_getElem?_getD, List.getElem?_append_right (by rw [hpl]; exact Nat.le_refl _), hpl, ht, Nat.sub_self]
      rfl
    rw [e4, u8of_toNat (by omega)]
    obtain ⟨k, u, o, id, v⟩ := e
    simp only at ho k7 i0
    subst ho
    simp only [Prod.mk.injEq, decide_eq_true_eq]
    refine ⟨by rw [show ((k.toNat : Nat) : Int) = k by omega, show ((id.toNat : Nat) : Int) = id by omega], ?_⟩
    rw [hl, ht]
    simp
    omega
  · rw [if_neg (by omega), if_neg (by omega), if_pos (by omega)]
    have ht : scTail e = [u8of e.id.toNat] := by unfold scTail; rw [if_neg (by omega), if_neg (by omega)]
    have hp : 1 + (vput e.u.length).length + e.u.length < (scBytes e).length := by rw [hl, ht]; simp
    rw [if_pos hp]
    have e4 : (scBytes e).getD (1 + (vput e.u.length).length + e.u.length) 0 = u8of e.id.toNat := by
      rw [scBytes_drop, List.getD_eq_getElem?_getD, List.getElem?_append_right (by rw [hpl]; exact Nat.le_refl _), hpl, ht, Nat.sub_self]
      rfl
    rw [e4, u8of_toNat (by omega)]
    obtain ⟨k, u, o, id, v⟩ := e
    simp only at ho k8 i0 hv
    subst ho hv
    simp only [Prod.mk.injEq, decide_eq_true_eq]
    refine ⟨by rw [show ((k.toNat : Nat) : Int) = k by omega, show ((id.toNat : Nat) : Int) = id by omega], ?_⟩
    rw [hl, ht]
    simp

/-- The document's reading is the same wherever the event may be. -/
theorem scRead_put {e : Ev} (h : scMay e = true) : scRead (scBytes e) = e := by
  obtain ⟨t1, t2, t3⟩ := scBytes_take h
  have hp := scTake_put h
  have hk := (scMay_parts h).1
  unfold scTake at hp
  unfold scRead
  rw [if_neg t3, t1, if_neg (by simp), t2, u8of_toNat (by omega)] at hp ⊢
  simp only at hp ⊢
  unfold scPart at hp
  rcases scMay_kinds h with ⟨k1, k6, hu, ho, hi, hv⟩ | ⟨k7, hu, ho, i0, i4, hv⟩ | ⟨k8, hu, ho, i0, i4, hv⟩
  · rw [if_pos (by omega)] at hp ⊢
    split at hp
    · simp at hp
    · simp only [Prod.mk.injEq] at hp
      exact hp.1
  · rw [if_neg (by omega), if_pos (by omega)] at hp
    rw [if_neg (by omega)]
    split at hp
    · rename_i hlt
      rw [if_neg (by omega), if_pos (by omega)]
      split at hp
      · simp at hp
      · simp only [Prod.mk.injEq] at hp
        exact hp.1
    · simp at hp
  · rw [if_neg (by omega), if_neg (by omega), if_pos (by omega)] at hp
    rw [if_neg (by omega)]
    split at hp
    · rename_i hlt
      rw [if_neg (by omega), if_neg (by omega)]
      simp only [Prod.mk.injEq] at hp
      exact hp.1
    · simp at hp

theorem cseal_inj {a b : List UInt8} (h : cseal a = cseal b) : a = b := by
  have h1 := copen_seal a
  rw [h, copen_seal] at h1
  exact (Prod.mk.injEq .. ▸ h1).1.symm

/-- The document's Decode. -/
theorem scDec_doc {s : List UInt8} (h : (copen s).2 = 0) : scDec s = if scMay (scRead (copen s).1) = true ∧ cseal (scBytes (scRead (copen s).1)) = s then (scRead (copen s).1, 0) else (Ev.zero, 3) := by
  have hs : cseal (copen s).1 = s := copen_ok (by rw [← h])
  generalize (copen s).1 = t at hs
  unfold scDec
  rw [if_neg (by simpa using h)]
  have ht : (copen s).1 = t := by rw [← hs, copen_seal]
  rw [ht]
  by_cases hc : scMay (scRead t) = true ∧ cseal (scBytes (scRead t)) = s
  · rw [if_pos hc]
    have e1 : scBytes (scRead t) = t := cseal_inj (hc.2.trans hs.symm)
    have e2 := scTake_put hc.1
    rw [e1] at e2
    rw [e2]
    simp [hc.1]
  · rw [if_neg hc, if_neg]
    intro hx
    simp only [Bool.and_eq_true] at hx
    have e1 := scTake_ok hx.1 hx.2
    have e2 := scRead_put hx.2
    rw [e1] at e2
    exact hc ⟨by rw [e2]; exact hx.2, by rw [e2, e1, hs]⟩

/-- What is encoded is decoded. -/
theorem scDec_enc {e : Ev} (h : scMay e = true) : scDec (cseal (scBytes e)) = (e, 0) := by
  unfold scDec
  rw [copen_seal, scTake_put h]
  simp [h]

theorem scDec_ok {s : List UInt8} {e : Ev} (h : scDec s = (e, 0)) : scMay e = true ∧ cseal (scBytes e) = s := by
  unfold scDec at h
  by_cases h1 : (copen s).2 = 0
  · rw [if_neg (by simpa using h1)] at h
    by_cases h2 : ((scTake (copen s).1).2 && scMay (scTake (copen s).1).1) = true
    · rw [if_pos h2] at h
      simp only [Prod.mk.injEq, and_true] at h
      simp only [Bool.and_eq_true] at h2
      have e1 := scTake_ok h2.1 h2.2
      rw [h] at h2 e1
      exact ⟨h2.2, by rw [e1]; exact copen_ok (by rw [← h1])⟩
    · rw [if_neg h2] at h; simp at h
  · rw [if_pos h1] at h
    simp only [Prod.mk.injEq] at h
    exact absurd h.2 h1

theorem scDec_err {s : List UInt8} {e : Ev} {n : Nat} (h : scDec s = (e, n)) (hn : n ≠ 0) : e = Ev.zero := by
  unfold scDec at h
  split at h
  · exact (Prod.mk.injEq .. ▸ h).1.symm
  · split at h
    · simp only [Prod.mk.injEq] at h; exact absurd h.2.symm hn
    · exact (Prod.mk.injEq .. ▸ h).1.symm

theorem scBytes_short {e : Ev} (h : scMay e = true) : (cseal (scBytes e)).length ≤ 120 := by
  have hl := scBytes_len e
  have h1 := vput_len_le e.u.length
  have h2 := (idIs_parts (scMay_parts h).2.1).2.1
  have hs : (cseal (scBytes e)).length = (scBytes e).length + 4 := by simp [cseal, low4]
  have ht : (scTail e).length ≤ 60 := by
    unfold scTail
    rcases scMay_kinds h with ⟨k1, k6, hu, ho, hi, hv⟩ | ⟨k7, hu, ho, i0, i4, hv⟩ | ⟨k8, hu, ho, i0, i4, hv⟩
    · rw [if_pos k6]
      have := vput_len_le e.o.length
      have := (idIs_parts ho).2.1
      simp
      omega
    · rw [if_neg (by omega), if_pos k7]
      have := vaBytes_len hv
      have := vput_len_le e.v.si.toNat
      have := (vaMay_parts hv).2.2.2.2.2.2
      simp
      omega
    · rw [if_neg (by omega), if_neg (by omega)]
      simp
  omega

/-- Events, one behind the other, each sealed, behind its length. -/
def scCat (l : List Ev) : List UInt8 := tflat (l.map fun e => cseal (scBytes e))

def scBatch (l : List Ev) : List UInt8 × Nat := if (decide (l.length ≤ 100) && l.all scMay) = true then (scCat l, 0) else ([], 1)

theorem scCat_nil : scCat [] = [] := rfl
theorem scCat_cons (e : Ev) (l : List Ev) : scCat (e :: l) = vput (cseal (scBytes e)).length ++ cseal (scBytes e) ++ scCat l := by simp [scCat, tflat]
theorem scCat_append (l m : List Ev) : scCat (l ++ m) = scCat l ++ scCat m := by simp [scCat, tflat]
theorem scCat_one (e : Ev) : scCat [e] = vput (cseal (scBytes e)).length ++ cseal (scBytes e) := by rw [scCat_cons, scCat_nil, List.append_nil]

theorem scCat_len : ∀ (l : List Ev), l.all scMay = true → (scCat l).length ≤ 130 * l.length
  | [], _ => by simp [scCat_nil]
  | e :: l, h => by
    simp only [List.all_cons, Bool.and_eq_true] at h
    have h1 := scBytes_short h.1
    have h2 := vput_len_le (cseal (scBytes e)).length
    have h3 := scCat_len l h.2
    rw [scCat_cons]
    simp only [List.length_append, List.length_cons]
    omega

/-- The events of which a text is made. -/
def UnIs (s : List UInt8) (m : List Ev) (er : Nat) : Prop :=
  (er = 0 ∧ m.length ≤ 100 ∧ m.all scMay = true ∧ s = scCat m) ∨ (er = 3 ∧ m = [] ∧ ∀ x : List Ev, x.length ≤ 100 → x.all scMay = true → s ≠ scCat x)

theorem scCat_inj : ∀ {l m : List Ev}, l.all scMay = true → m.all scMay = true → ∀ {r : List UInt8}, scCat l ++ r = scCat m → ∃ x, m = l ++ x ∧ r = scCat x
  | [], m, _, _, r, h => ⟨m, rfl, by simpa [scCat_nil] using h⟩
  | e :: l, [], h1, _, r, h => by
    have h3 : (scCat (e :: l) ++ r).length = 0 := congrArg List.length h
    have h2 := vput_len_pos (cseal (scBytes e)).length
    rw [scCat_cons, List.length_append, List.length_append, List.length_append] at h3
    omega
  | e :: l, f :: m, h1, h2, r, h => by
    simp only [List.all_cons, Bool.and_eq_true] at h1 h2
    have le := scBytes_short h1.1
    have lf := scBytes_short h2.1
    have t1 := vtake_text [] (cseal (scBytes e)) (scCat l ++ r) 300 (by omega) (by omega)
    have t2 := vtake_text [] (cseal (scBytes f)) (scCat m) 300 (by omega) (by omega)
    simp only [List.nil_append, List.length_nil] at t1 t2
    rw [scCat_cons, scCat_cons, List.append_assoc] at h
    rw [h, t2] at t1
    have he : cseal (scBytes f) = cseal (scBytes e) := (Prod.mk.injEq .. ▸ t1).1
    have d1 := scDec_enc h1.1
    have d2 := scDec_enc h2.1
    rw [he, d1] at d2
    have hef : e = f := (Prod.mk.injEq .. ▸ d2).1
    subst hef
    obtain ⟨x, hx, hr⟩ := scCat_inj h1.2 h2.2 (List.append_cancel_left h)
    exact ⟨x, by rw [hx]; rfl, hr⟩

theorem unIs_one {s : List UInt8} {m m' : List Ev} {er er' : Nat} (h : UnIs s m er) (h' : UnIs s m' er') : m = m' ∧ er = er' := by
  rcases h with ⟨rfl, hl, ha, hs⟩ | ⟨rfl, rfl, hn⟩ <;> rcases h' with ⟨rfl, hl', ha', hs'⟩ | ⟨rfl, rfl, hn'⟩
  · obtain ⟨x, hx, hr⟩ := scCat_inj (r := []) ha ha' (by rw [List.append_nil, ← hs, hs'])
    have : x = [] := by
      cases x with
      | nil => rfl
      | cons e x =>
        have h2 := vput_len_pos (cseal (scBytes e)).length
        have h3 : 0 = (scCat (e :: x)).length := congrArg List.length hr
        rw [scCat_cons, List.length_append, List.length_append] at h3
        omega
    subst this
    exact ⟨by rw [hx, List.append_nil], rfl⟩
  · exact absurd hs (hn' _ hl ha)
  · exact absurd hs' (hn _ hl' ha')
  · exact ⟨rfl, rfl⟩

/-- What was read of a text so far. -/
def UnAt (s : List UInt8) (l : List Ev) (p : Nat) : Prop := p ≤ s.length ∧ l.all scMay = true ∧ s.take p = scCat l

theorem unAt_start (s : List UInt8) : UnAt s [] 0 := ⟨Nat.zero_le _, rfl, by simp [scCat_nil]⟩

theorem unAt_len {s : List UInt8} {l : List Ev} {p : Nat} (h : UnAt s l p) : l.length ≤ p := by
  have h1 : (scCat l).length = p := by rw [← h.2.2, List.length_take]; have := h.1; omega
  have h2 := tflat_pos (l.map fun e => cseal (scBytes e))
  unfold scCat at h1
  rw [List.length_map] at h2
  omega

/-- One more. -/
theorem unAt_next {s : List UInt8} {l : List Ev} {p : Nat} (h : UnAt s l p) {m : Int} {t : List UInt8} {q : Nat} (ht : vtake s (p : Int) m = (t, q, 0)) {e : Ev} (he : scDec t = (e, 0)) : UnAt s (l ++ [e]) q ∧ p < q := by
  obtain ⟨h1, h2, h3, _⟩ := vtake_bytes ht
  obtain ⟨d1, d2⟩ := scDec_ok he
  subst d2
  have hlt : p < q := by
    have := congrArg List.length h3
    have h5 := vput_len_pos (cseal (scBytes e)).length
    simp at this
    omega
  refine ⟨⟨h2, by simp [h.2.1, d1], ?_⟩, hlt⟩
  rw [scCat_append, ← h.2.2, scCat_one, h3, ← List.drop_take]
  have e1 : s.take p = (s.take q).take p := by rw [List.take_take, Nat.min_eq_left h1]
  rw [e1]
  exact (List.take_append_drop _ _).symm

/-- Nothing is made of a text at which there is no more event. -/
theorem unAt_stuck {s : List UInt8} {l : List Ev} {p : Nat} (h : UnAt s l p) (hp : p < s.length) {m : Int} (hm : 300 ≤ m ∨ (s.length : Int) ≤ m) {t : List UInt8} {q er : Nat} (ht : vtake s (p : Int) m = (t, q, er)) {e : Ev} {n : Nat} (he : scDec t = (e, n)) (hbad : er ≠ 0 ∨ n ≠ 0) :
    ∀ x : List Ev, x.all scMay = true → s ≠ scCat x := by
  intro x hx hs
  have e1 : scCat l ++ s.drop p = scCat x := by rw [← h.2.2, List.take_append_drop, hs]
  obtain ⟨y, hy, hr⟩ := scCat_inj h.2.1 hx e1
  cases y with
  | nil =>
    have := congrArg List.length hr
    rw [scCat_nil] at this
    simp at this
    omega
  | cons f y =>
    rw [hy, List.all_append, List.all_cons] at hx
    simp only [Bool.and_eq_true] at hx
    have lf := scBytes_short hx.2.1
    have hm2 : ((cseal (scBytes f)).length : Int) ≤ m := by
      rcases hm with h1 | h1
      · omega
      · have h2 := congrArg List.length hr
        rw [scCat_cons, List.length_append, List.length_append, List.length_drop] at h2
        omega
    have t1 := vtake_text (s.take p) (cseal (scBytes f)) (scCat y) m (by omega) hm2
    rw [← scCat_cons, ← hr, List.take_append_drop, List.length_take, Nat.min_eq_left h.1, ht] at t1
    simp only [Prod.mk.injEq] at t1
    obtain ⟨rfl, _, rfl⟩ := t1
    rw [scDec_enc hx.2.1] at he
    simp only [Prod.mk.injEq] at he
    rcases hbad with hb | hb
    · exact hb rfl
    · exact hb he.2.symm

/-- More than a hundred. -/
theorem unAt_many {s : List UInt8} {l : List Ev} {p : Nat} (h : UnAt s l p) (hl : 100 ≤ l.length) (hp : p < s.length ∨ 100 < l.length) : ∀ x : List Ev, x.length ≤ 100 → x.all scMay = true → s ≠ scCat x := by
  intro x hxl hx hs
  have e1 : scCat l ++ s.drop p = scCat x := by rw [← h.2.2, List.take_append_drop, hs]
  obtain ⟨y, hy, hr⟩ := scCat_inj h.2.1 hx e1
  have hxy := congrArg List.length hy
  rw [List.length_append] at hxy
  have : y = [] := List.length_eq_zero_iff.1 (by omega)
  subst this
  have := congrArg List.length hr
  rw [scCat_nil] at this
  simp at this
  omega

theorem unAt_end {s : List UInt8} {l : List Ev} {p : Nat} (h : UnAt s l p) (hl : l.length ≤ 100) (hp : s.length ≤ p) : UnIs s l 0 :=
  .inl ⟨rfl, hl, h.2.1, by rw [← h.2.2, List.take_of_length_le hp]⟩

theorem unIs_none {s : List UInt8} (h : ∀ x : List Ev, x.length ≤ 100 → x.all scMay = true → s ≠ scCat x) : UnIs s [] 3 := .inr ⟨rfl, rfl, h⟩

/-- Two limits of a text's length are one, of texts that are decoded. -/
theorem vtake_limit {s : List UInt8} {p : Int} {m : Int} (_hm : 300 ≤ m) {t : List UInt8} {q : Nat} (h : vtake s p m = (t, q, 0)) (ht : t.length ≤ 300) : vtake s p 300 = (t, q, 0) := by
  unfold vtake at h ⊢
  by_cases h1 : (vget s p).2.2 = 0
  · rw [if_neg (by simpa using h1)] at h ⊢
    by_cases h2 : m < 0 ∨ m < ((vget s p).1 : Int)
    · rw [if_pos h2] at h; simp at h
    · rw [if_neg h2] at h
      by_cases h3 : s.length - (vget s p).2.1 < (vget s p).1
      · rw [if_pos h3] at h; simp at h
      · rw [if_neg h3] at h
        have := (Prod.mk.injEq .. ▸ h).1
        have hlen : t.length = (vget s p).1 := by
          rw [← this, List.length_take, List.length_drop]
          omega
        rw [if_neg (by omega), if_neg h3]
        exact h
  · rw [if_pos h1] at h
    simp only [Prod.mk.injEq] at h
    exact absurd h.2.2 h1

end Go.Proofs.Ythfkfonfiejbmaa
