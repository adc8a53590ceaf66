/-
  TEXTS OF THE PROOF, one behind the other: IdRef, SubPure, RosPure, RosMay, SubMap.
-/
import Derived.Test.YtfkadkopolenbaaGR01
import Derived.Laws.IdiomStrings
import Derived.Lib.Hide
import Derived.Test.YtfkadkopolenbaaRows
import Derived.Maps.OwnSet

section

/-
  THE CONTRACTS OF THE DOCUMENT'S ANSWERS Is, Fold, Put, Take OF LAYER 3.
-/
namespace Go.Proofs.Ytfkadkopolenbaa
open Go.RowKit

set_option maxHeartbeats 800000 in
set_option maxRecDepth 100000 in
theorem ris_any (l : List UInt8) (hl : l.length ≤ 4294967296) (w : World) :
    Calls Try.prog 53 #[.string ⟨l.toArray⟩] w fun e w' => e = .returned (.bool (idIs l)) ∧ w = w' := by
  by_cases h0 : l.length < 1
  · obtain rfl : l = [] := List.length_eq_zero_iff.1 (by omega)
    clear h0
    go_enter Try.func53, Try.ntmps53
    go_wp2_with fail
    go_ret
    exact ⟨rfl, rfl⟩
  · have hpos : 1 ≤ l.length := by omega
    clear h0
    by_cases h16 : 16 < l.length
    · have HR := Lib.hid (idIs_long h16)
      go_enter Try.func53, Try.ntmps53
      go_wp2_with fail
      go_ret
      exact ⟨by rw [HR.out]; rfl, rfl⟩
    · have hq : 0 < (⟨l.toArray⟩ : ByteArray).size := by rw [size_bytes]; omega
      obtain ⟨x, hx⟩ : ∃ x : UInt8, (⟨l.toArray⟩ : ByteArray)[0]'hq = x := ⟨_, rfl⟩
      have hx256 := x.toNat_lt
      have HX : Hid (l[0]? = some x) := by show _ = _; rw [← hx]; exact bytes_at l 0 hq
      by_cases hlow : x.toNat < 97
      · have HR : Hid (idIs l = false) := idIs_first HX.out (by unfold lcOk; simp; omega)
        go_enter Try.func53, Try.ntmps53
        go_wp2_with fail
        go_ret
        exact ⟨by rw [HR.out]; rfl, rfl⟩
      · by_cases hhi : 122 < x.toNat
        · have HR : Hid (idIs l = false) := idIs_first HX.out (by unfold lcOk; simp; omega)
          go_enter Try.func53, Try.ntmps53
          go_wp2_with fail
          go_ret
          exact ⟨by rw [HR.out]; rfl, rfl⟩
        · have HF : Hid (lcOk (l.getD 0 0) = true) := by show _ = _; rw [List.getD, HX.out]; unfold lcOk; simp; omega
          go_enter Try.func53, Try.ntmps53
          go_wp2_with fail
          clear hx
          go_loop [3] (fun i => ∃ k : Nat, k ≤ l.length ∧ i = .int .i64 k ∧ Hid ((l.take k).all inOk = true)) (fun i => l.length - (intOf i).toNat)
          case atStart => exact ⟨0, by omega, rfl, by show _ = _; simp⟩
          case round =>
            obtain ⟨k, hk, rfl, HA⟩ := hrel
            by_cases hlt : k < l.length
            · have hlt' : k < (⟨l.toArray⟩ : ByteArray).size := by rw [size_bytes]; exact hlt
              obtain ⟨b, hb⟩ : ∃ b : UInt8, (⟨l.toArray⟩ : ByteArray)[k]'hlt' = b := ⟨_, rfl⟩
              have HB : Hid (l[k]? = some b) := by show _ = _; rw [← hb]; exact bytes_at l k hlt'
              have hb256 := b.toNat_lt
              have hcase : (97 ≤ b.toNat ∧ b.toNat ≤ 122) ∨ (48 ≤ b.toNat ∧ b.toNat ≤ 57) ∨ b.toNat = 45 ∨ (b.toNat < 48 ∧ ¬ b.toNat = 45) ∨ (57 < b.toNat ∧ b.toNat < 97) ∨ 122 < b.toNat := by omega
              have HC := Lib.hid hcase
              clear hcase hpos h16 hlow hhi
              rcases HC.out with ⟨h1, h2⟩ | ⟨h1, h2⟩ | h1 | ⟨h1, h2⟩ | ⟨h1, h2⟩ | h1
              · have HN : Hid ((l.take (k + 1)).all inOk = true) := by show _ = _; rw [all_succ HB.out, HA.out]; simp [inOk, lcOk, dgOk]; omega
                go_wp2_with fail
                go_round
                case rel => exact ⟨k + 1, by omega, by go_num, HN⟩
                case measure => simp [intOf]; omega
              · have HN : Hid ((l.take (k + 1)).all inOk = true) := by show _ = _; rw [all_succ HB.out, HA.out]; simp [inOk, lcOk, dgOk]; omega
                go_wp2_with fail
                go_round
                case rel => exact ⟨k + 1, by omega, by go_num, HN⟩
                case measure => simp [intOf]; omega
              · have HN : Hid ((l.take (k + 1)).all inOk = true) := by show _ = _; rw [all_succ HB.out, HA.out]; simp [inOk, lcOk, dgOk]; omega
                have t5 : ((b.toNat : Int) != 45) = false := by rw [h1]; rfl
                go_wp2_with fail
                go_round
                case rel => exact ⟨k + 1, by omega, by go_num, HN⟩
                case measure => simp [intOf]; omega
              all_goals
                have HR : Hid (idIs l = false) := idIs_bad HB.out (by simp [inOk, lcOk, dgOk]; omega)
                have t5 : ((b.toNat : Int) != 45) = true := by simp; omega
                go_wp2_with fail
                go_ret
                exact ⟨by rw [HR.out]; rfl, rfl⟩
            · obtain rfl : k = l.length := by omega
              have HR : Hid (idIs l = true) := idIs_mk hpos (by omega) HF.out (by have := HA.out; rwa [List.take_length] at this)
              go_wp2_with fail
              go_ret
              exact ⟨by rw [HR.out]; rfl, rfl⟩

theorem ris_eq (l : List UInt8) (hl : l.length ≤ 4294967296) {r : Bool} (h : Hid (idIs l = r)) (w : World) :
    Calls Try.prog 53 #[.string ⟨l.toArray⟩] w fun e w' => e = .returned (.bool r) ∧ w = w' := by
  have := ris_any l hl w
  rwa [h.out] at this

/-- l, folded up to k. -/
def lowAt (l : List UInt8) (k : Nat) : List UInt8 := idLow (l.take k) ++ l.drop k

theorem lowAt_len (l : List UInt8) (k : Nat) : (lowAt l k).length = l.length := by
  unfold lowAt
  rw [List.length_append, idLow_len, ← List.length_append, List.take_append_drop]

theorem lowAt_get {l : List UInt8} {k : Nat} {b : UInt8} (hb : l[k]? = some b) : (lowAt l k).getD k 0 = b := by
  obtain ⟨p1, p2⟩ := List.getElem?_eq_some_iff.1 hb
  unfold lowAt
  rw [List.getD, List.getElem?_append_right (by rw [idLow_len, List.length_take]; omega), idLow_len, List.length_take, List.getElem?_drop, show k + (k - min k l.length) = k by omega, hb]
  rfl

theorem lowAt_set {l : List UInt8} {k : Nat} {b : UInt8} (hb : l[k]? = some b) : (lowAt l k).set k (low1 b) = lowAt l (k + 1) := by
  obtain ⟨p1, p2⟩ := List.getElem?_eq_some_iff.1 hb
  unfold lowAt
  rw [List.set_append_right _ _ (by rw [idLow_len, List.length_take]; omega), idLow_len, List.length_take, show k - min k l.length = 0 by omega, List.drop_eq_getElem_cons p1, p2, List.take_succ_eq_append_getElem p1, p2]
  simp [idLow]

theorem lowAt_same {l : List UInt8} {k : Nat} {b : UInt8} (hb : l[k]? = some b) (h : low1 b = b) : lowAt l k = lowAt l (k + 1) := by
  obtain ⟨p1, p2⟩ := List.getElem?_eq_some_iff.1 hb
  unfold lowAt
  rw [List.drop_eq_getElem_cons p1, p2, List.take_succ_eq_append_getElem p1, p2]
  simp [idLow, h]

theorem lowAt_end (l : List UInt8) : lowAt l l.length = idLow l := by simp [lowAt]
theorem lowAt_start (l : List UInt8) : lowAt l 0 = l := by simp [lowAt, idLow]

/-- A row of bytes in memory that may be written. -/
def RowB (w : World) (B : Nat) (u : List UInt8) : Prop := ∀ j, j < u.length → w.cell? ⟨B, j, none⟩ = some (.int .u8 (u.getD j 0).toNat) ∧ w.frozen? ⟨B, j, none⟩ = false

theorem RowB.drew {w : World} {B : Nat} {u : List UInt8} (h : RowB w B u) : RowB w.drew B u := h

theorem RowB.set {w : World} {B : Nat} {u : List UInt8} (h : RowB w B u) (j : Nat) (b : UInt8) (hj : j < u.length) : RowB (w.setCell ⟨B, j, none⟩ (.int .u8 b.toNat)) B (u.set j b) := by
  intro i hi
  have hi' : i < u.length := by simpa using hi
  refine ⟨?_, (World.frozen?_setCell w _ _ _).trans (h i hi').2⟩
  by_cases hij : i = j
  · subst hij
    rw [World.cell?_setCell_same _ _ _ (h i hj).1]
    simp [List.getD, hj]
  · rw [World.cell?_setCell_other _ _ _ _ (by simp), (h i hi').1]
    simp [List.getD, show ¬ j = i by omega]

end Go.Proofs.Ytfkadkopolenbaa

end

section

/-
  LAYER 7, PLAIN: items that face one another, and what is done to them.
-/
namespace Go.Proofs.Ytfkadkopolenbaa

structure It where
  to : Bool
  fr : Bool
  out : Bool
  inn : Bool
  bl : Bool
deriving DecidableEq

def It.zero : It := ⟨false, false, false, false, false⟩

def suMay (a b : It) : Bool := (a.to == b.fr) && ((a.fr == b.to) && ((a.out == b.inn) && ((a.inn == b.out) && (!(a.to && a.out) && !(b.to && b.out)))))
def suSees (a b : It) : Bool := a.to && (!a.bl && !b.bl)
def suEmpty (a : It) : Bool := !a.to && (!a.fr && (!a.out && (!a.inn && !a.bl)))
def suName (a : It) : List UInt8 :=
  if a.to = true then (if a.fr = true then [98, 111, 116, 104] else [116, 111]) else (if a.fr = true then [102, 114, 111, 109] else [110, 111, 110, 101])

/-- What is done of items that may be. -/
def suDo (a b : It) (k : Int) : It × It × Nat :=
  if k = 1 then (if (a.bl || b.bl) = true then (a, b, 8) else if (a.to || a.out) = true then (a, b, 7) else (⟨a.to, a.fr, true, a.inn, a.bl⟩, ⟨b.to, b.fr, b.out, true, b.bl⟩, 0))
  else if k = 2 then (if (a.bl || b.bl) = true then (a, b, 8) else if a.inn = false then (a, b, 7) else (⟨a.to, true, a.out, false, a.bl⟩, ⟨true, b.fr, false, b.inn, b.bl⟩, 0))
  else if k = 3 then (if (a.to || a.out) = false then (a, b, 7) else (⟨false, a.fr, false, a.inn, a.bl⟩, ⟨b.to, false, b.out, false, b.bl⟩, 0))
  else if k = 4 then (if (a.fr || a.inn) = false then (a, b, 7) else (⟨a.to, false, a.out, false, a.bl⟩, ⟨false, b.fr, false, b.inn, b.bl⟩, 0))
  else if k = 5 then (if a.bl = true then (a, b, 7) else (⟨a.to, a.fr, a.out, a.inn, true⟩, b, 0))
  else (if a.bl = false then (a, b, 7) else (⟨a.to, a.fr, a.out, a.inn, false⟩, b, 0))

def suAct (a b : It) (k : Int) : It × It × Nat :=
  if suMay a b = true ∧ 1 ≤ k ∧ k ≤ 6 then suDo a b k else (a, b, 1)

theorem suEmpty_iff {a : It} : suEmpty a = true ↔ a = It.zero := by
  obtain ⟨a1, a2, a3, a4, a5⟩ := a
  revert a1 a2 a3 a4 a5; decide

theorem suMay_comm (a b : It) : suMay a b = suMay b a := by
  obtain ⟨a1, a2, a3, a4, a5⟩ := a
  obtain ⟨b1, b2, b3, b4, b5⟩ := b
  cases a1 <;> cases a2 <;> cases a3 <;> cases a4 <;> cases b1 <;> cases b2 <;> cases b3 <;> cases b4 <;> rfl

theorem k_cases {k : Int} (h1 : 1 ≤ k) (h6 : k ≤ 6) : k = 1 ∨ k = 2 ∨ k = 3 ∨ k = 4 ∨ k = 5 ∨ k = 6 := by omega

/-- Beside an error nothing has turned. -/
theorem suAct_err {a b x y : It} {k : Int} {e : Nat} (h : suAct a b k = (x, y, e)) (he : e ≠ 0) : x = a ∧ y = b := by
  unfold suAct at h
  split at h
  · unfold suDo at h
    repeat' split at h
    all_goals (simp only [Prod.mk.injEq] at h; obtain ⟨h1, h2, h3⟩ := h; first | exact ⟨h1.symm, h2.symm⟩ | exact absurd h3.symm he)
  · simp only [Prod.mk.injEq] at h
    exact ⟨h.1.symm, h.2.1.symm⟩

theorem suAct_ok {a b x y : It} {k : Int} (h : suAct a b k = (x, y, 0)) : suMay a b = true ∧ 1 ≤ k ∧ k ≤ 6 ∧ suDo a b k = (x, y, 0) := by
  unfold suAct at h
  split at h
  · next hc => exact ⟨hc.1, hc.2.1, hc.2.2, h⟩
  · simp at h

/-- What may be stays so; what was done can't be done again. -/
theorem suDo_may : ∀ a1 a2 a3 a4 a5 b1 b2 b3 b4 b5 : Bool, suMay ⟨a1, a2, a3, a4, a5⟩ ⟨b1, b2, b3, b4, b5⟩ = true → ∀ k : Fin 6,
    let r := suDo ⟨a1, a2, a3, a4, a5⟩ ⟨b1, b2, b3, b4, b5⟩ ((k.val : Int) + 1)
    r.2.2 = 0 → suMay r.1 r.2.1 = true ∧ (suDo r.1 r.2.1 ((k.val : Int) + 1)).2.2 ≠ 0 := by decide +kernel

theorem suAct_may {a b x y : It} {k : Int} (h : suAct a b k = (x, y, 0)) : suMay x y = true ∧ (suAct x y k).2.2 ≠ 0 := by
  obtain ⟨h1, h2, h3, h4⟩ := suAct_ok h
  obtain ⟨a1, a2, a3, a4, a5⟩ := a
  obtain ⟨b1, b2, b3, b4, b5⟩ := b
  obtain ⟨n, rfl⟩ : ∃ n : Fin 6, k = (n.val : Int) + 1 := ⟨⟨(k - 1).toNat, by omega⟩, by simp; omega⟩
  have := suDo_may a1 a2 a3 a4 a5 b1 b2 b3 b4 b5 h1 n
  rw [h4] at this
  obtain ⟨g1, g2⟩ := this rfl
  refine ⟨g1, ?_⟩
  unfold suAct
  rw [if_pos ⟨g1, h2, h3⟩]
  exact g2

/-- Block and Unblock undo one another. -/
theorem suDo_back : ∀ a1 a2 a3 a4 a5 b1 b2 b3 b4 b5 : Bool, suMay ⟨a1, a2, a3, a4, a5⟩ ⟨b1, b2, b3, b4, b5⟩ = true →
    (let r := suDo ⟨a1, a2, a3, a4, a5⟩ ⟨b1, b2, b3, b4, b5⟩ 5
     r.2.2 = 0 → suAct r.1 r.2.1 6 = (⟨a1, a2, a3, a4, a5⟩, ⟨b1, b2, b3, b4, b5⟩, 0)) ∧
    (let r := suDo ⟨a1, a2, a3, a4, a5⟩ ⟨b1, b2, b3, b4, b5⟩ 6
     r.2.2 = 0 → suAct r.1 r.2.1 5 = (⟨a1, a2, a3, a4, a5⟩, ⟨b1, b2, b3, b4, b5⟩, 0)) ∧
    (let r := suDo ⟨a1, a2, a3, a4, a5⟩ ⟨b1, b2, b3, b4, b5⟩ 3
     r.2.2 = 0 → suAct ⟨b1, b2, b3, b4, b5⟩ ⟨a1, a2, a3, a4, a5⟩ 4 = (r.2.1, r.1, 0)) ∧
    (let r := suDo ⟨a1, a2, a3, a4, a5⟩ ⟨b1, b2, b3, b4, b5⟩ 4
     r.2.2 = 0 → suAct ⟨b1, b2, b3, b4, b5⟩ ⟨a1, a2, a3, a4, a5⟩ 3 = (r.2.1, r.1, 0)) := by decide +kernel

theorem suAct_back {a b x y : It} : (suAct a b 5 = (x, y, 0) → suAct x y 6 = (a, b, 0)) ∧ (suAct a b 6 = (x, y, 0) → suAct x y 5 = (a, b, 0)) ∧
    (suAct a b 3 = (x, y, 0) → suAct b a 4 = (y, x, 0)) ∧ (suAct a b 4 = (x, y, 0) → suAct b a 3 = (y, x, 0)) := by
  obtain ⟨a1, a2, a3, a4, a5⟩ := a
  obtain ⟨b1, b2, b3, b4, b5⟩ := b
  refine ⟨fun h => ?_, fun h => ?_, fun h => ?_, fun h => ?_⟩
  all_goals
    obtain ⟨h1, _, _, h4⟩ := suAct_ok h
    obtain ⟨g1, g2, g3, g4⟩ := suDo_back a1 a2 a3 a4 a5 b1 b2 b3 b4 b5 h1
  · rw [h4] at g1; exact g1 rfl
  · rw [h4] at g2; exact g2 rfl
  · rw [h4] at g3; exact g3 rfl
  · rw [h4] at g4; exact g4 rfl

end Go.Proofs.Ytfkadkopolenbaa

end

section

/-
  LAYER 8, PLAIN: entries of rosters, their order, where one belongs; what may be.
-/
namespace Go.Proofs.Ytfkadkopolenbaa

structure Ent where
  o : List UInt8
  c : List UInt8
  it : It

def Ent.zero : Ent := ⟨[], [], It.zero⟩

/-- One entry's place is ahead of the other one's. -/
def entLt (a b : Ent) : Bool := idLess a.o b.o || (decide (a.o = b.o) && idLess a.c b.c)

/-- The same Owner and Contact. -/
def entIs (a b : Ent) : Bool := decide (a.o = b.o) && decide (a.c = b.c)

theorem entLt_irrefl (a : Ent) : entLt a a = false := by
  unfold entLt
  rw [idLess_irrefl, idLess_irrefl]
  simp

theorem entLt_trans {a b c : Ent} (h1 : entLt a b = true) (h2 : entLt b c = true) : entLt a c = true := by
  unfold entLt at *
  simp only [Bool.or_eq_true, Bool.and_eq_true, decide_eq_true_eq] at *
  rcases h1 with h1 | ⟨e1, h1⟩
  · rcases h2 with h2 | ⟨e2, h2⟩
    · exact .inl (idLess_trans h1 h2)
    · rw [← e2]; exact .inl h1
  · rcases h2 with h2 | ⟨e2, h2⟩
    · rw [e1]; exact .inl h2
    · exact .inr ⟨e1.trans e2, idLess_trans h1 h2⟩

/-- Just one of the three. -/
theorem entLt_tri (a b : Ent) : (entLt a b = true ∧ entLt b a = false ∧ entIs a b = false) ∨ (entLt a b = false ∧ entLt b a = true ∧ entIs a b = false) ∨ (entLt a b = false ∧ entLt b a = false ∧ entIs a b = true) := by
  unfold entLt entIs
  rcases idLess_tri a.o b.o with ⟨h1, h2, h3⟩ | ⟨h1, h2, h3⟩ | ⟨h1, h2, h3⟩
  · have h3' : ¬ b.o = a.o := fun e => h3 e.symm
    exact .inl ⟨by simp [h1], by simp [h2, h3'], by simp [h3]⟩
  · have h3' : ¬ b.o = a.o := fun e => h3 e.symm
    exact .inr (.inl ⟨by simp [h1, h3], by simp [h2], by simp [h3]⟩)
  · rcases idLess_tri a.c b.c with ⟨g1, g2, g3⟩ | ⟨g1, g2, g3⟩ | ⟨g1, g2, g3⟩
    · exact .inl ⟨by simp [h3, g1], by simp [h3, idLess_irrefl, g2], by simp [h3, g3]⟩
    · exact .inr (.inl ⟨by simp [h3, idLess_irrefl, g1], by simp [h3, g2], by simp [h3, g3]⟩)
    · exact .inr (.inr ⟨by simp [h3, idLess_irrefl, g1], by simp [h3, idLess_irrefl, g2], by simp [h3, g3]⟩)

theorem entIs_iff {a b : Ent} : entIs a b = true ↔ a.o = b.o ∧ a.c = b.c := by
  unfold entIs
  simp

theorem entLt_same {a b x : Ent} (h : entIs a b = true) : entLt a x = entLt b x ∧ entLt x a = entLt x b := by
  obtain ⟨h1, h2⟩ := entIs_iff.1 h
  unfold entLt
  rw [h1, h2]
  exact ⟨rfl, rfl⟩

/-- Entries rise. -/
def Rise (l : List Ent) : Prop := l.Pairwise fun a b => entLt a b = true

/-- How many stand ahead of x. -/
def entPlace (l : List Ent) (x : Ent) : Nat := (l.takeWhile fun e => entLt e x).length

theorem entPlace_le (l : List Ent) (x : Ent) : entPlace l x ≤ l.length := by
  unfold entPlace
  exact (List.takeWhile_sublist _).length_le

/-- In entries that rise just those ahead of its place are less. -/
theorem entPlace_spec : ∀ {l : List Ent} (_ : Rise l) (x : Ent) {h : Nat} (_ : h < l.length), entLt (l.getD h Ent.zero) x = decide (h < entPlace l x)
  | [], _, _, _, hh => by simp at hh
  | e :: l, hr, x, h, hh => by
    obtain ⟨h1, h2⟩ := List.pairwise_cons.1 hr
    unfold entPlace
    rw [List.takeWhile_cons]
    by_cases he : entLt e x = true
    · rw [if_pos he]
      cases h with
      | zero => simp [he]
      | succ h =>
        have ih := entPlace_spec h2 x (h := h) (by simpa using hh)
        simp only [List.getD_cons_succ, List.length_cons]
        rw [ih]
        unfold entPlace
        simp
    · rw [if_neg he]
      simp only [List.length_nil, Nat.not_lt_zero, decide_false]
      cases h with
      | zero => simpa using he
      | succ h =>
        simp only [List.getD_cons_succ]
        rw [Bool.eq_false_iff]
        intro hx
        have hh' : h < l.length := by simpa using hh
        have hm : l.getD h Ent.zero ∈ l := by
          rw [List.getD_eq_getElem?_getD, List.getElem?_eq_getElem hh']
          exact List.getElem_mem hh'
        exact he (entLt_trans (h1 _ hm) hx)

/-- One of that Owner and Contact is there just if it stands at its place. -/
theorem entPlace_there {l : List Ent} (hr : Rise l) (x : Ent) : (decide (entPlace l x < l.length) && entIs (l.getD (entPlace l x) Ent.zero) x) = l.any fun e => entIs e x := by
  rw [Bool.eq_iff_iff]
  simp only [Bool.and_eq_true, decide_eq_true_eq, List.any_eq_true]
  constructor
  · rintro ⟨h1, h2⟩
    refine ⟨_, ?_, h2⟩
    rw [List.getD_eq_getElem?_getD, List.getElem?_eq_getElem h1]
    exact List.getElem_mem h1
  · rintro ⟨e, he, hx⟩
    obtain ⟨i, hi, rfl⟩ := List.getElem_of_mem he
    have g : ∀ j (hj : j < l.length), l.getD j Ent.zero = l[j] := fun j hj => by rw [List.getD_eq_getElem?_getD, List.getElem?_eq_getElem hj]; rfl
    have hi1 := entPlace_spec hr x hi
    rw [g i hi] at hi1
    rw [(entLt_same hx).1, entLt_irrefl] at hi1
    have hle : entPlace l x ≤ i := by
      have := decide_eq_false_iff_not.1 hi1.symm
      omega
    have hp : entPlace l x < l.length := by omega
    refine ⟨hp, ?_⟩
    rw [g _ hp]
    by_cases e : entPlace l x = i
    · simp only [e]; exact hx
    · exfalso
      have hlt : entPlace l x < i := by omega
      have h3 := (List.pairwise_iff_getElem.1 hr) _ _ hp hi hlt
      have h4 := entPlace_spec hr x hp
      rw [g _ hp, ← (entLt_same hx).2, h3] at h4
      simp at h4

end Go.Proofs.Ytfkadkopolenbaa

end

section

/-
  LAYER 8, PLAIN: an Owner has more entries than may be just if one stands sixteen places behind one of the same Owner.
-/
namespace Go.Proofs.Ytfkadkopolenbaa

def ofOwner (o : List UInt8) (e : Ent) : Bool := decide (e.o = o)

/-- The Contacts of that Owner. -/
def roOf (l : List Ent) (o : List UInt8) : List (List UInt8) := (l.filter (ofOwner o)).map fun e => e.c

theorem roOf_len (l : List Ent) (o : List UInt8) : (roOf l o).length = (l.filter (ofOwner o)).length := by simp [roOf]

/-- One more than its Owner may have. -/
def roOver (l : List Ent) (i : Nat) : Bool := decide (16 ≤ i) && decide ((l.getD (i - 16) Ent.zero).o = (l.getD i Ent.zero).o)

/-- Owners don't go back. -/
theorem entLt_owner {a b : Ent} (h : entLt a b = true) : idLess b.o a.o = false := by
  unfold entLt at h
  simp only [Bool.or_eq_true, Bool.and_eq_true, decide_eq_true_eq] at h
  rcases h with h | ⟨h, _⟩
  · rcases idLess_tri a.o b.o with ⟨_, g, _⟩ | ⟨g, _, _⟩ | ⟨g, _, _⟩
    · exact g
    · rw [h] at g; cases g
    · rw [h] at g; cases g
  · rw [h]; exact idLess_irrefl _

theorem idLess_le_trans {a b c : List UInt8} (h1 : idLess b a = false) (h2 : idLess c b = false) : idLess c a = false := by
  rw [Bool.eq_false_iff]
  intro h
  rcases idLess_tri a b with ⟨g, _, _⟩ | ⟨_, g, _⟩ | ⟨_, _, g⟩
  · have := idLess_trans h g
    rw [h2] at this; cases this
  · rw [h1] at g; cases g
  · rw [g, h2] at h; cases h

/-- What stands between two of one Owner is that Owner's. -/
theorem between {a b c : Ent} (h1 : entLt a b = true) (h2 : entLt b c = true) (h : a.o = c.o) : b.o = c.o := by
  have g1 := entLt_owner h1
  have g2 := entLt_owner h2
  rw [h] at g1
  rcases idLess_tri b.o c.o with ⟨g, _, _⟩ | ⟨_, g, _⟩ | ⟨_, _, g⟩
  · rw [g1] at g; cases g
  · rw [g2] at g; cases g
  · exact g

/-- Behind an entry of that Owner, its entries stand together. -/
theorem filter_while {o : List UInt8} : ∀ {e : Ent} {l : List Ent}, Rise (e :: l) → e.o = o → l.filter (ofOwner o) = l.takeWhile (ofOwner o)
  | _, [], _, _ => rfl
  | e, x :: l, hr, he => by
    obtain ⟨h1, h2⟩ := List.pairwise_cons.1 hr
    rw [List.filter_cons, List.takeWhile_cons]
    by_cases hx : x.o = o
    · have : ofOwner o x = true := by simp [ofOwner, hx]
      rw [if_pos this, if_pos this, filter_while h2 hx]
    · have : ¬ ofOwner o x = true := by simp [ofOwner, hx]
      rw [if_neg this, if_neg this, List.filter_eq_nil_iff]
      intro y hy hyo
      have hyo' : y.o = o := by simpa [ofOwner] using hyo
      have hex := h1 x (by simp)
      have hxy := (List.pairwise_cons.1 h2).1 y hy
      exact hx ((between hex hxy (he.trans hyo'.symm)).trans hyo')

theorem takeWhile_get {p : Ent → Bool} : ∀ {l : List Ent} {i : Nat}, i < (l.takeWhile p).length → p (l.getD i Ent.zero) = true
  | [], _, h => by simp at h
  | x :: l, i, h => by
    rw [List.takeWhile_cons] at h
    by_cases hx : p x = true
    · rw [if_pos hx] at h
      cases i with
      | zero => exact hx
      | succ i => exact takeWhile_get (l := l) (i := i) (by simpa using h)
    · rw [if_neg hx] at h; simp at h

/-- More than sixteen: one stands sixteen places behind. -/
theorem over_of_many (o : List UInt8) : ∀ {l : List Ent}, Rise l → 16 < (l.filter (ofOwner o)).length → ∃ i, i < l.length ∧ (l.getD i Ent.zero).o = o ∧ roOver l i = true
  | [], _, h => by simp at h
  | e :: l, hr, h => by
    rw [List.filter_cons] at h
    by_cases he : e.o = o
    · have hp : ofOwner o e = true := by simp [ofOwner, he]
      rw [if_pos hp, filter_while hr he] at h
      have h15 : 15 < (l.takeWhile (ofOwner o)).length := by rw [List.length_cons] at h; omega
      have hg := takeWhile_get h15
      have hlen := (List.takeWhile_sublist (ofOwner o) (l := l)).length_le
      refine ⟨16, by simp only [List.length_cons]; omega, by simpa [ofOwner] using hg, ?_⟩
      unfold roOver
      have : (l.getD 15 Ent.zero).o = o := by simpa [ofOwner] using hg
      show (decide (16 ≤ 16) && decide (e.o = (l.getD 15 Ent.zero).o)) = true
      rw [this, he]
      simp
    · have hp : ¬ ofOwner o e = true := by simp [ofOwner, he]
      rw [if_neg hp] at h
      obtain ⟨i, h1, h2, h3⟩ := over_of_many o (List.pairwise_cons.1 hr).2 h
      refine ⟨i + 1, by simp only [List.length_cons]; omega, h2, ?_⟩
      unfold roOver at h3 ⊢
      simp only [Bool.and_eq_true, decide_eq_true_eq] at h3 ⊢
      refine ⟨by omega, ?_⟩
      rw [show i + 1 - 16 = (i - 16) + 1 by omega]
      exact h3.2

theorem getD_at {l : List Ent} {i : Nat} (h : i < l.length) : l.getD i Ent.zero = l[i] := by
  rw [List.getD_eq_getElem?_getD, List.getElem?_eq_getElem h]; rfl

/-- .. and the other way round. -/
theorem many_of_over {l : List Ent} (hr : Rise l) {i : Nat} (hi : i < l.length) (h : roOver l i = true) : 16 < (l.filter (ofOwner (l.getD i Ent.zero).o)).length := by
  unfold roOver at h
  simp only [Bool.and_eq_true, decide_eq_true_eq] at h
  obtain ⟨h16, ho⟩ := h
  have hp := List.pairwise_iff_getElem.1 hr
  have hall : ∀ j, i - 16 ≤ j → j ≤ i → (l.getD j Ent.zero).o = (l.getD i Ent.zero).o := by
    intro j h1 h2
    by_cases e1 : j = i
    · rw [e1]
    · by_cases e2 : j = i - 16
      · rw [e2]; exact ho
      · have hj : j < l.length := by omega
        have hk : i - 16 < l.length := by omega
        have a := hp (i - 16) j hk hj (by omega)
        have b := hp j i hj hi (by omega)
        rw [getD_at hk, getD_at hi] at ho
        rw [getD_at hj, getD_at hi]
        exact between a b ho
  have hsub : ((l.drop (i - 16)).take 17).Sublist l := (List.take_sublist _ _).trans (List.drop_sublist _ _)
  have hf := hsub.filter (ofOwner (l.getD i Ent.zero).o)
  have hs : ((l.drop (i - 16)).take 17).filter (ofOwner (l.getD i Ent.zero).o) = (l.drop (i - 16)).take 17 := by
    rw [List.filter_eq_self]
    intro e he
    obtain ⟨j, hj, rfl⟩ := List.getElem_of_mem he
    have hj' : j < 17 ∧ i - 16 + j < l.length := by
      rw [List.length_take, List.length_drop] at hj
      omega
    have := hall (i - 16 + j) (by omega) (by omega)
    rw [getD_at hj'.2] at this
    simp only [ofOwner, List.getElem_take, List.getElem_drop, decide_eq_true_eq]
    exact this
  rw [hs] at hf
  have := hf.length_le
  rw [List.length_take, List.length_drop] at this
  omega

/-- No Owner has more than may be just if nothing stands sixteen places behind one of the same Owner. -/
theorem over_iff {l : List Ent} (hr : Rise l) : (∀ i, i < l.length → (roOf l (l.getD i Ent.zero).o).length ≤ 16) ↔ ∀ i, i < l.length → roOver l i = false := by
  constructor
  · intro h i hi
    rw [Bool.eq_false_iff]
    intro ho
    have h1 := many_of_over hr hi ho
    have h2 := h i hi
    rw [roOf_len] at h2
    omega
  · intro h i hi
    rw [roOf_len]
    apply Nat.le_of_not_lt
    intro hm
    obtain ⟨j, h1, _, h3⟩ := over_of_many _ hr hm
    rw [h j h1] at h3
    cases h3

end Go.Proofs.Ytfkadkopolenbaa

end

section

/-
  A MAP FROM NUMBERS TO FUNCTIONS THAT THE CALL HAS MADE; THE CONTRACT OF subs.kinds.
-/
namespace Go.Proofs.Ytfkadkopolenbaa
open Go.RowKit Go.ChangeMaps Go.MapKept

def fnVal : Option (Int × Nat) → Value
  | some x => .func (.func x.2) #[] #[]
  | none => .nilFunc

def fnData : Option (Int × Nat) → DataW Unit
  | some x => .lit (.int .i64 x.2)
  | none => .lit (.bool false)

def fnElem : Value → Option (DataW Unit × List MemPlace)
  | .func (.func f) ⟨[]⟩ ⟨[]⟩ => some (.lit (.int .i64 f), [])
  | .nilFunc => some (.lit (.bool false), [])
  | _ => none

theorem fnElem_inv {v : Value} {z : DataW Unit × List MemPlace} (h : fnElem v = some z) (o : Option (Int × Nat)) (hz : z.1 = fnData o) : v = fnVal o := by
  unfold fnElem at h
  split at h
  · rename_i f
    obtain rfl := (Option.some.inj h).symm
    cases o with
    | none => simp [fnData] at hz
    | some x =>
      obtain ⟨k, g⟩ := x
      simp [fnData] at hz
      obtain rfl := Int.ofNat.inj hz
      rfl
  · obtain rfl := (Option.some.inj h).symm
    cases o with
    | none => rfl
    | some x => simp [fnData] at hz
  · cases h

/-- Block B is a map that holds these functions, the latest one first. -/
def FnMap (w : World) (B : Nat) (l : List (Int × Nat)) : Prop :=
  ∃ D : DataW Unit, w.ownsMap Try.prog 3 fnElem B l.length D ∧
    ∀ k : Int, Maps.has D (.int .i64 k) = l.any (fun x => x.1 == k) ∧ D.atKey (.int .i64 k) (.lit (.bool false)) = fnData (l.find? fun x => x.1 == k)

theorem fnMap_made (w : World) : FnMap (w.alloc (.map #[] 0)) w.heap.size [] :=
  ⟨.map [], World.ownsMap_made w _ _ _, fun _ => ⟨rfl, rfl⟩⟩

theorem FnMap.lt {w : World} {B : Nat} {l : List (Int × Nat)} (h : FnMap w B l) : B < w.heap.size := by
  obtain ⟨_, h, _⟩ := h
  exact h.lt

theorem FnMap.later {w w' : World} {B : Nat} {l : List (Int × Nat)} (h : FnMap w B l) (hb : Below w.heap.size w w') : FnMap w' B l := by
  have hlt := h.lt
  obtain ⟨D, ⟨es, clock, h2, h3, h4, h5⟩, h6⟩ := h
  exact ⟨D, ⟨es, clock, (hb.block B hlt).trans h2, h3, h4, h5⟩, h6⟩

theorem zeroFn (w : World) : (zeroValue 85).run Try.prog w = .ok .nilFunc w := by kernel_rfl

theorem FnMap.look {w : World} {B : Nat} {l : List (Int × Nat)} (h : FnMap w B l) (k : Int) (hk : (Lit.int .i64 k).wf = true) :
    (Instr.lookup 87 (.map (some B)) (.int .i64 k) true).run Try.prog w = .ok (.tuple #[fnVal (l.find? fun x => x.1 == k), .bool (l.any fun x => x.1 == k)]) w := by
  obtain ⟨D, h2, h3⟩ := h
  obtain ⟨v, ps, hrun, hv⟩ := h2.look_ok (Maps.int_keyed Try.underlying3) Try.underlying87 (zeroFn w) (show fnElem .nilFunc = some (.lit (.bool false), []) from rfl) (Maps.keyOf_int_mk Try.underlying3 hk)
  rw [(h3 k).2] at hv
  rw [fnElem_inv hv _ rfl, (h3 k).1] at hrun
  exact hrun

/-- 'm[k] = f'. -/
theorem wpList_fn {w : World} {ops : Array Oper} {rest : List Oper} {o : Oper} {a : Act} {Q : Exit → Act → World → Prop}
    (hg : o.guard = none) (m x v : Operand) (hop : o.op = Op.insert 87 m x v) (B : Nat) (l : List (Int × Nat)) (hm : a.eval m = .map (some B)) (hown : FnMap w B l) (hl : l.length ≤ 100)
    (k : Int) (hk : (Lit.int .i64 k).wf = true) (f : Nat) (hx : a.eval x = .int .i64 k) (hv : a.eval v = .func (.func f) #[] #[])
    (hK : ∀ w', FnMap w' B ((k, f) :: l) → w.grownBy w' (some B) → wpList Try.prog ops Q rest (a.put o.dst undef) w') :
    wpList Try.prog ops Q (o :: rest) a w := by
  obtain ⟨D, h2, h3⟩ := hown
  refine wpList_plain hg fun K' hK' => ?_
  obtain ⟨w', hrun, h6, h7⟩ := h2.update (Maps.int_keyed Try.underlying3) Try.underlying87 (by unfold maxLen; omega) (Maps.keyOf_int_mk Try.underlying3 hk) (show fnElem (.func (.func f) #[] #[]) = some (.lit (.int .i64 f), []) from rfl)
  unfold Oper.wp
  simp [execOp, hop, hm, hx, hv, hrun, Result.andThen]
  refine hK' _ _ ?_
  have hT := h2.tidy (Maps.int_keyed Try.underlying3)
  refine hK w' ⟨_, h6, fun y => ?_⟩ h7
  by_cases e : y = k
  · subst e
    rw [Maps.has_put_same hT.isMap (show WideAt.IsKeyLit (.int .i64 y) from True.intro), Maps.atKey_put_same hT.isMap (show WideAt.IsKeyLit (.int .i64 y) from True.intro)]
    simp [fnData]
  · have hne : (Lit.int .i64 y) ≠ .int .i64 k := fun h => e (by injection h)
    rw [Maps.has_put_other hne, Maps.atKey_put_other hne, (h3 y).1, (h3 y).2]
    have e' : (k == y) = false := by simpa using fun h => e h.symm
    simp [e']

def kindFns : List (Int × Nat) := [(6, 93), (5, 92), (4, 91), (3, 90), (2, 89), (1, 88)]

set_option maxHeartbeats 800000 in
set_option maxRecDepth 100000 in
theorem kinds_any (w : World) : Calls Try.prog 73 #[] w fun e w' => e = .returned (.map (some w.heap.size)) ∧ FnMap w' w.heap.size kindFns ∧ Below w.heap.size w w' := by
  have hmm := fun w => run_makeMap (P := Try.prog) 87 w
  have H0 := Lib.hid (fnMap_made w)
  have B0 : Hid (Below w.heap.size w (w.alloc (.map #[] 0))) := Lib.hid ((Below.refl _ _).alloc (Nat.le_refl _) _)
  go_enter Try.func73, Try.ntmps73
  go_wp2_with (first
    | (refine wpList_fn rfl _ _ _ rfl w.heap.size [] rfl H0.out (by decide) 1 (by decide) 88 rfl rfl ?_; intro w1 h g; (have H1 := Lib.hid h); (have B1 : Hid (Below w.heap.size w w1) := Lib.hid (B0.out.grown g B0.out.size (by intro k hk; injection hk with hk; omega))); clear h g H0)
    | (refine wpList_fn rfl _ _ _ rfl w.heap.size [(1, 88)] rfl H1.out (by decide) 2 (by decide) 89 rfl rfl ?_; intro w2 h g; (have H2 := Lib.hid h); (have B2 : Hid (Below w.heap.size w w2) := Lib.hid (B1.out.grown g B1.out.size (by intro k hk; injection hk with hk; omega))); clear h g H1)
    | (refine wpList_fn rfl _ _ _ rfl w.heap.size [(2, 89), (1, 88)] rfl H2.out (by decide) 3 (by decide) 90 rfl rfl ?_; intro w3 h g; (have H3 := Lib.hid h); (have B3 : Hid (Below w.heap.size w w3) := Lib.hid (B2.out.grown g B2.out.size (by intro k hk; injection hk with hk; omega))); clear h g H2)
    | (refine wpList_fn rfl _ _ _ rfl w.heap.size [(3, 90), (2, 89), (1, 88)] rfl H3.out (by decide) 4 (by decide) 91 rfl rfl ?_; intro w4 h g; (have H4 := Lib.hid h); (have B4 : Hid (Below w.heap.size w w4) := Lib.hid (B3.out.grown g B3.out.size (by intro k hk; injection hk with hk; omega))); clear h g H3)
    | (refine wpList_fn rfl _ _ _ rfl w.heap.size [(4, 91), (3, 90), (2, 89), (1, 88)] rfl H4.out (by decide) 5 (by decide) 92 rfl rfl ?_; intro w5 h g; (have H5 := Lib.hid h); (have B5 : Hid (Below w.heap.size w w5) := Lib.hid (B4.out.grown g B4.out.size (by intro k hk; injection hk with hk; omega))); clear h g H4)
    | (refine wpList_fn rfl _ _ _ rfl w.heap.size [(5, 92), (4, 91), (3, 90), (2, 89), (1, 88)] rfl H5.out (by decide) 6 (by decide) 93 rfl rfl ?_; intro w6 h g; (have H6 := Lib.hid h); (have B6 : Hid (Below w.heap.size w w6) := Lib.hid (B5.out.grown g B5.out.size (by intro k hk; injection hk with hk; omega))); clear h g H5))
  go_ret
  exact ⟨rfl, H6.out, B6.out⟩

end Go.Proofs.Ytfkadkopolenbaa

end
