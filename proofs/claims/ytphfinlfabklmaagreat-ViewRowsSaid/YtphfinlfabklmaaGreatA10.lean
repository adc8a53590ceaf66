/-
  TEXTS OF THE PROOF, one behind the other: Aid, SeqS, RosRow, EntIns, RosHas, RosGet, RosFirst, RosFirstC.
-/
import Derived.Test.YtphfinlfabklmaaGreatA01
import Derived.Test.YtphfinlfabklmaaGreatA09
import Derived.Lib.Hide
import Derived.Maps.OwnSet
import Derived.Deep.RegionHeld
import Derived.Deep.AppendLies
import Derived.WalkSpells
import Derived.StillTailTactics

section

/-
  SMALL WORDS ON WORLDS, for contracts over slices of structs.
-/
namespace Go.Proofs.YtphfinlfabklmaaGreat
open Go.RowKit

theorem below2Z {w a b : World} (h1 : Below w.heap.size w a) (h2 : Below a.heap.size a b) : Below w.heap.size w b := h1.trans (h2.mono h1.size)

theorem bl_allocZ {w a : World} (h : Below w.heap.size w a) (o : Obj) : Below w.heap.size w (a.alloc o) := h.alloc h.size o

theorem bl_newZ (w : World) (o : Obj) : Below w.heap.size w (w.alloc o) := (Below.refl _ _).alloc (Nat.le_refl _) o

theorem cellLaterZ {w w' : World} {a : Addr} {v : Value} (h : w.cell? a = some v) (hb : Below w.heap.size w w') : w'.cell? a = some v :=
  (hb.cell (World.block_lt_of_cell? w _ h)).trans h

theorem regrownZ {w w' : World} (h : ∃ p : Regrown, w' = Sort.grow (redrawn w p.d) p.os) : Below w.heap.size w w' := by
  obtain ⟨p, rfl⟩ := h
  exact below_regrown _ _ _

/-- A new block's cells. -/
theorem cellsAt_made {w : World} {cs : Array Value} {vs : List Value} (h : cs.toList = vs) (T : TypeId) {B : Nat} (hB : B = w.heap.size) : CellsAt (w.alloc (.cells cs T)) B 0 vs := by
  subst hB
  intro j u hu
  rw [Nat.zero_add, World.cell?_alloc_at _ _ _ _ rfl, ← hu, ← h]
  simp

end Go.Proofs.YtphfinlfabklmaaGreat

end

section

/-
  A SLICE OF A SLICE OF STRUCTS.
-/
namespace Go.Proofs.YtphfinlfabklmaaGreat
open Go.RowKit

theorem run_slice_from_S {α : Type} {P : Program} {vals : α → List Value} {sz : Nat} {zero : α} {T S : TypeId} {Z : Value} {bytes : Nat} (D : RowOK P vals sz zero T S Z bytes) (w : World) (ad : Addr) (n cap l : Nat) (I : Int) (hI : I = (l : Int)) (h : l ≤ n) :
    (Instr.slice S (.slice (some ad) n cap) (some (.int .i64 I)) none none).run P w = .ok (.slice (some (if cap = l then ad else ad.add (l * sz))) (n - l) (cap - l)) w := by
  obtain ⟨i, hi, hz, hsize, hby⟩ := info_parts D.info
  subst hI
  have he : P.elem S = T := by unfold Program.elem; rw [D.under]
  rw [run_slice_l w S (some ad) n cap (by rw [he]; exact D.under) .i64 (l : Int) (by omega) (by omega), he, run_sizeOf w hi]
  simp only [Result.andThen, sliced, Int.toNat_natCast]
  have hc : P.cellsOf T = sz := by unfold Program.cellsOf; rw [hi]; exact hsize
  rw [hc]
  split <;> rfl

/-- What is left of a slice behind its first p elements. -/
theorem RdS.tail {α : Type} {vals : α → List Value} {sz : Nat} {zero : α} {w : World} {ad : Addr} {n cap : Nat} {l : List α} (h : RdS vals sz zero w (.slice (some ad) n cap) l) (_hsz : 0 < sz) (p : Nat) (hp : p ≤ l.length) :
    RdS vals sz zero w (.slice (some (if cap = p then ad else ad.add (p * sz))) (n - p) (cap - p)) (l.drop p) := by
  obtain ⟨a', cap', e, h1, h2, h3, h4⟩ := h
  simp only [Value.slice.injEq] at e
  obtain ⟨rfl, rfl, rfl⟩ := e
  refine ⟨_, _, by rw [List.length_drop], by rw [List.length_drop]; omega, by omega, fun e => by simp at e, ?_⟩
  rcases h4 with rfl | ⟨b, off, e, hlt, hc⟩
  · exact .inl (by simp)
  · by_cases hd : l.drop p = []
    · exact .inl hd
    · have hpl : p < l.length := by
        rcases Nat.lt_or_ge p l.length with hh | hh
        · exact hh
        · exact absurd (List.drop_eq_nil_of_le hh) hd
      obtain rfl : ad = ⟨b, off, none⟩ := by simpa using e
      refine .inr ⟨b, off + p * sz, ?_, hlt, fun i hi => ?_⟩
      · rw [if_neg (by omega), Addr.add_lit]
      · rw [List.length_drop] at hi
        have := hc (p + i) (by omega)
        have e2 : (l.drop p).getD i zero = l.getD (p + i) zero := by
          rw [List.getD_eq_getElem?_getD, List.getD_eq_getElem?_getD, List.getElem?_drop]
        rw [e2, show off + p * sz + i * sz = off + (p + i) * sz by rw [Nat.add_mul]; omega]
        exact this

/-- A slice that was built. -/
theorem rdS_made {α : Type} {P : Program} {vals : α → List Value} {sz : Nat} {zero : α} {T S : TypeId} {Z : Value} {bytes : Nat} (D : RowOK P vals sz zero T S Z bytes) {w : World} {cs : Array Value} {l : List α} (hcs : cs.toList = cellsS vals l) (hl : l.length ≤ 1000) {B : Nat} (hB : B = w.heap.size) :
    RdS vals sz zero (w.alloc (.cells cs T)) (.slice (some ⟨B, 0, none⟩) l.length l.length) l := by
  subst hB
  refine ⟨_, _, rfl, Nat.le_refl _, by unfold maxLen; omega, (fun e => by cases e), .inr ⟨w.heap.size, 0, rfl, by simp, fun i hi j u hu => ?_⟩⟩
  have hj : j < sz := by have := (List.getElem?_eq_some_iff.1 hu).1; rwa [D.len] at this
  have := cellsAt_made (w := w) (cs := cs) (vs := cellsS vals l) hcs T rfl (i * sz + j) u (by rw [cellsS_at D.len zero l i j hi hj]; exact hu)
  rwa [Nat.zero_add] at this ⊢

end Go.Proofs.YtphfinlfabklmaaGreat

end

section

/-
  LAYER 8: entries as rows of seven cells.
-/
namespace Go.Proofs.YtphfinlfabklmaaGreat
open Go.RowKit

def entVals (e : Ent) : List Value := [.string ⟨e.o.toArray⟩, .string ⟨e.c.toArray⟩, .bool e.it.to, .bool e.it.fr, .bool e.it.out, .bool e.it.inn, .bool e.it.bl]

theorem entOK : RowOK Tryz.prog entVals 7 Ent.zero 126 22 (.agg #[.string ⟨#[]⟩, .string ⟨#[]⟩, .bool false, .bool false, .bool false, .bool false, .bool false]) 40 where
  len _ := rfl
  one a u hu := by
    simp only [entVals, List.mem_cons, List.not_mem_nil, or_false] at hu
    rcases hu with rfl | rfl | rfl | rfl | rfl | rfl | rfl <;> rfl
  pos := by decide
  small := by decide
  under := Tryz.underlying22
  info := by kernel_rfl
  zvals := rfl
  fits := by decide

theorem cells7_at {w : World} {b o : Nat} {e : Ent} : Cells7 w b o e ↔ CellsAt w b o (entVals e) := by
  constructor
  · rintro ⟨h0, h1, h2, h3, h4, h5, h6⟩ j u hu
    match j, hu with
    | 0, hu => cases hu; exact h0
    | 1, hu => cases hu; exact h1
    | 2, hu => cases hu; exact h2
    | 3, hu => cases hu; exact h3
    | 4, hu => cases hu; exact h4
    | 5, hu => cases hu; exact h5
    | 6, hu => cases hu; exact h6
    | n + 7, hu => simp [entVals] at hu
  · intro h
    exact ⟨h 0 _ rfl, h 1 _ rfl, h 2 _ rfl, h 3 _ rfl, h 4 _ rfl, h 5 _ rfl, h 6 _ rfl⟩

end Go.Proofs.YtphfinlfabklmaaGreat

end

section

/-
  slices.Clone, slices.Insert AND slices.Delete of one element, at elements of 7 cells.
-/
namespace Go.Proofs.YtphfinlfabklmaaGreat
open Go.RowKit

end Go.Proofs.YtphfinlfabklmaaGreat

end

section

/-
  LAYER 8, THE DOCUMENT: whether an entry is there.
-/
namespace Go.Proofs.YtphfinlfabklmaaGreat
open Go.RowKit

/-- An entry of that Owner and Contact. -/
def entOf (o c : List UInt8) : Ent := ⟨o, c, It.zero⟩

def roHas (l : List Ent) (o c : List UInt8) : Bool := l.any fun e => entIs e (entOf o c)

theorem roHas_yes {l : List Ent} {o c : List UInt8} {k : Nat} (hk : k < l.length) (ho : (l.getD k Ent.zero).o = o) (hc : (l.getD k Ent.zero).c = c) : roHas l o c = true := by
  unfold roHas
  rw [List.any_eq_true]
  refine ⟨l.getD k Ent.zero, ?_, entIs_iff.2 ⟨ho, hc⟩⟩
  rw [getD_at hk]
  exact List.getElem_mem hk

theorem roHas_no {l : List Ent} {o c : List UInt8} (h : ∀ j, j < l.length → entIs (l.getD j Ent.zero) (entOf o c) = false) : roHas l o c = false := by
  unfold roHas
  rw [List.any_eq_false]
  intro e he
  obtain ⟨i, hi, rfl⟩ := List.getElem_of_mem he
  have := h i hi
  rw [getD_at hi] at this
  simp [this]

theorem entIs_off {e : Ent} {o c : List UInt8} (h : ¬ e.o = o ∨ ¬ e.c = c) : entIs e (entOf o c) = false := by
  rw [Bool.eq_false_iff]
  intro hh
  obtain ⟨h1, h2⟩ := entIs_iff.1 hh
  rcases h with h | h
  · exact h h1
  · exact h h2

set_option maxHeartbeats 1600000 in
set_option maxRecDepth 100000 in
theorem rhas_any {w : World} {v : Value} {l : List Ent} (hv : Ents w v l) (o c : List UInt8) :
    Calls Tryz.prog 135 #[v, .string ⟨o.toArray⟩, .string ⟨c.toArray⟩] w fun e w' => e = .returned (.bool (roHas l o c)) ∧ w = w' := by
  have HV := Lib.hid hv
  obtain ⟨a, cap, rfl, hm⟩ := hv.open'
  clear hv
  go_enter Tryz.func135, Tryz.ntmps135
  go_wp2_with fail
  go_loop [7] (fun i => ∃ k : Nat, k ≤ l.length ∧ i = .int .i64 k ∧ Hid (∀ j, j < k → entIs (l.getD j Ent.zero) (entOf o c) = false)) (fun i => l.length - (intOf i).toNat)
  case atStart => exact ⟨0, by omega, rfl, by show ∀ _, _; intro j hj; omega⟩
  case round =>
    obtain ⟨k, hk, rfl, HN⟩ := hrel
    by_cases hlt : k < l.length
    · obtain ⟨b, off, rfl, h0, h1, _⟩ := HV.out.row (Below.refl _ _) k hlt
      obtain ⟨⟨eo, ec, it⟩, hr⟩ : ∃ r, l.getD k Ent.zero = r := ⟨_, rfl⟩
      rw [hr] at h0 h1
      simp only at h0 h1
      by_cases ho : eo = o
      · by_cases hc : ec = c
        · have HR := Lib.hid (roHas_yes hlt (o := o) (c := c) (by rw [hr]; exact ho) (by rw [hr]; exact hc))
          subst ho hc
          clear hr
          go_wp2_with fail
          go_ret
          exact ⟨by rw [HR.out]; rfl, rfl⟩
        · have HN2 : Hid (∀ j, j < k + 1 → entIs (l.getD j Ent.zero) (entOf o c) = false) := by
            show ∀ _, _
            intro j hj
            by_cases e : j = k
            · rw [e, hr]; exact entIs_off (.inr hc)
            · exact HN.out j (by omega)
          have t2 : (ec == c) = false := by rw [beq_eq_false_iff_ne]; exact hc
          subst ho
          clear hr hc
          go_wp2_with fail
          go_round
          case rel => exact ⟨k + 1, by omega, by go_num, HN2⟩
          case measure => simp [intOf]; omega
      · have HN2 : Hid (∀ j, j < k + 1 → entIs (l.getD j Ent.zero) (entOf o c) = false) := by
          show ∀ _, _
          intro j hj
          by_cases e : j = k
          · rw [e, hr]; exact entIs_off (.inl ho)
          · exact HN.out j (by omega)
        have t2 : (eo == o) = false := by rw [beq_eq_false_iff_ne]; exact ho
        clear hr ho
        go_wp2_with fail
        go_round
        case rel => exact ⟨k + 1, by omega, by go_num, HN2⟩
        case measure => simp [intOf]; omega
    · obtain rfl : k = l.length := by omega
      have HR := Lib.hid (roHas_no HN.out)
      go_wp2_with fail
      go_ret
      exact ⟨by rw [HR.out]; rfl, rfl⟩

end Go.Proofs.YtphfinlfabklmaaGreat

end

section

/-
  LAYER 8, THE DOCUMENT: the item of an Owner on a Contact.
-/
namespace Go.Proofs.YtphfinlfabklmaaGreat
open Go.RowKit

/-- The item of the first entry of these. -/
def roGet (l : List Ent) (o c : List UInt8) : It := match l.find? fun e => entIs e (entOf o c) with
  | some e => e.it
  | none => It.zero

def itV (a : It) : Value := .agg #[.bool a.to, .bool a.fr, .bool a.out, .bool a.inn, .bool a.bl]

theorem roGet_none {l : List Ent} {o c : List UInt8} (h : ∀ j, j < l.length → entIs (l.getD j Ent.zero) (entOf o c) = false) : roGet l o c = It.zero := by
  unfold roGet
  have : l.find? (fun e => entIs e (entOf o c)) = none := by
    rw [List.find?_eq_none]
    intro e he
    obtain ⟨i, hi, rfl⟩ := List.getElem_of_mem he
    have := h i hi
    rw [getD_at hi] at this
    simp [this]
  rw [this]

theorem roGet_first : ∀ {l : List Ent} {o c : List UInt8} {k : Nat} (_ : k < l.length) (_ : ∀ j, j < k → entIs (l.getD j Ent.zero) (entOf o c) = false) (_ : (l.getD k Ent.zero).o = o) (_ : (l.getD k Ent.zero).c = c), roGet l o c = (l.getD k Ent.zero).it
  | [], _, _, _, hk, _, _, _ => by simp at hk
  | e :: l, o, c, k, hk, hn, ho, hc => by
    unfold roGet
    rw [List.find?_cons]
    cases k with
    | zero =>
      have : entIs e (entOf o c) = true := entIs_iff.2 ⟨ho, hc⟩
      rw [this]
      rfl
    | succ k =>
      have h0 : entIs e (entOf o c) = false := hn 0 (by omega)
      rw [h0]
      have := roGet_first (l := l) (o := o) (c := c) (k := k) (by simpa using hk) (fun j hj => hn (j + 1) (by omega)) ho hc
      unfold roGet at this
      exact this

set_option maxHeartbeats 1600000 in
set_option maxRecDepth 100000 in
theorem rget8_any {w : World} {v : Value} {l : List Ent} (hv : Ents w v l) (o c : List UInt8) :
    Calls Tryz.prog 134 #[v, .string ⟨o.toArray⟩, .string ⟨c.toArray⟩] w fun e w' => e = .returned (itV (roGet l o c)) ∧ Below w.heap.size w w' := by
  have HV := Lib.hid hv
  obtain ⟨a, cap, rfl, hm⟩ := hv.open'
  have BA : Hid (Below w.heap.size w (w.alloc (.cells #[.bool false, .bool false, .bool false, .bool false, .bool false] 115))) := Lib.hid ((Below.refl _ _).alloc (Nat.le_refl _) _)
  clear hv
  go_enter Tryz.func134, Tryz.ntmps134
  go_wp2_with fail
  go_loop [7] (fun i => ∃ k : Nat, k ≤ l.length ∧ i = .int .i64 k ∧ Hid (∀ j, j < k → entIs (l.getD j Ent.zero) (entOf o c) = false)) (fun i => l.length - (intOf i).toNat)
  case atStart => exact ⟨0, by omega, rfl, by show ∀ _, _; intro j hj; omega⟩
  case round =>
    obtain ⟨k, hk, rfl, HN⟩ := hrel
    by_cases hlt : k < l.length
    · obtain ⟨b, off, rfl, h0, h1, h2, h3, h4, h5, h6⟩ := HV.out.row BA.out k hlt
      obtain ⟨⟨eo, ec, ⟨i1, i2, i3, i4, i5⟩⟩, hr⟩ : ∃ r, l.getD k Ent.zero = r := ⟨_, rfl⟩
      rw [hr] at h0 h1 h2 h3 h4 h5 h6
      simp only at h0 h1 h2 h3 h4 h5 h6
      by_cases ho : eo = o
      · by_cases hc : ec = c
        · have HR : Hid (roGet l o c = ⟨i1, i2, i3, i4, i5⟩) := by show _ = _; rw [roGet_first hlt HN.out (by rw [hr]; exact ho) (by rw [hr]; exact hc), hr]
          subst ho hc
          clear hr
          go_wp2_with fail
          refine bodyPost_ret (v := itV ⟨i1, i2, i3, i4, i5⟩) (by simp [results, Tryz.results134, go_sem, itV]) rfl ⟨by rw [HR.out], ?_⟩
          repeat (first | exact Below.refl _ _ | refine Below.setCell ?_ (by first | (simp; done) | (simp; omega)) _ | refine Below.alloc ?_ (by first | (simp; done) | (simp; omega)) _)
        · have HN2 : Hid (∀ j, j < k + 1 → entIs (l.getD j Ent.zero) (entOf o c) = false) := by
            show ∀ _, _
            intro j hj
            by_cases e : j = k
            · rw [e, hr]; exact entIs_off (.inr hc)
            · exact HN.out j (by omega)
          have t2 : (ec == c) = false := by rw [beq_eq_false_iff_ne]; exact hc
          subst ho
          clear hr hc
          go_wp2_with fail
          go_round
          case rel => exact ⟨k + 1, by omega, by go_num, HN2⟩
          case measure => simp [intOf]; omega
      · have HN2 : Hid (∀ j, j < k + 1 → entIs (l.getD j Ent.zero) (entOf o c) = false) := by
          show ∀ _, _
          intro j hj
          by_cases e : j = k
          · rw [e, hr]; exact entIs_off (.inl ho)
          · exact HN.out j (by omega)
        have t2 : (eo == o) = false := by rw [beq_eq_false_iff_ne]; exact ho
        clear hr ho
        go_wp2_with fail
        go_round
        case rel => exact ⟨k + 1, by omega, by go_num, HN2⟩
        case measure => simp [intOf]; omega
    · obtain rfl : k = l.length := by omega
      have HR : Hid (roGet l o c = It.zero) := by show _ = _; exact roGet_none HN.out
      go_wp2_with fail
      refine bodyPost_ret (v := itV It.zero) (by simp [results, Tryz.results134, go_sem, itV, It.zero]) rfl ⟨by rw [HR.out], ?_⟩
      repeat (first | exact Below.refl _ _ | refine Below.setCell ?_ (by first | (simp; done) | (simp; omega)) _ | refine Below.alloc ?_ (by first | (simp; done) | (simp; omega)) _)

end Go.Proofs.YtphfinlfabklmaaGreat

end

section

/-
  LAYER 8: the document's Sees; the code's entry, and the first entry that is the same.
-/
namespace Go.Proofs.YtphfinlfabklmaaGreat
open Go.RowKit

theorem rget8_eq {w : World} {v : Value} {l : List Ent} (hv : Ents w v l) (o c : List UInt8) {i1 i2 i3 i4 i5 : Bool} (h : Hid (roGet l o c = ⟨i1, i2, i3, i4, i5⟩)) :
    Calls Tryz.prog 134 #[v, .string ⟨o.toArray⟩, .string ⟨c.toArray⟩] w fun e w' => e = .returned (.agg #[.bool i1, .bool i2, .bool i3, .bool i4, .bool i5]) ∧ Below w.heap.size w w' := by
  have := rget8_any hv o c
  rw [h.out] at this
  exact this

/-- Whether one sees the other one. -/
def roSees (l : List Ent) (o c : List UInt8) : Bool := suSees (roGet l o c) (roGet l c o)

set_option maxHeartbeats 800000 in
set_option maxRecDepth 100000 in
theorem rsees8_any {w : World} {v : Value} {l : List Ent} (hv : Ents w v l) (o c : List UInt8) :
    Calls Tryz.prog 118 #[v, .string ⟨o.toArray⟩, .string ⟨c.toArray⟩] w fun e w' => e = .returned (.bool (roSees l o c)) ∧ Below w.heap.size w w' := by
  obtain ⟨⟨i1, i2, i3, i4, i5⟩, hi⟩ : ∃ i, roGet l o c = i := ⟨_, rfl⟩
  obtain ⟨⟨j1, j2, j3, j4, j5⟩, hj⟩ : ∃ j, roGet l c o = j := ⟨_, rfl⟩
  obtain ⟨r, hr⟩ : ∃ r, suSees ⟨i1, i2, i3, i4, i5⟩ ⟨j1, j2, j3, j4, j5⟩ = r := ⟨_, rfl⟩
  have HR : Hid (roSees l o c = r) := by show _ = _; unfold roSees; rw [hi, hj, hr]
  have HV := Lib.hid hv
  have HI := Lib.hid hi
  have HJ := Lib.hid hj
  have HS := Lib.hid (rssees_eq i1 i2 i3 i4 i5 j1 j2 j3 j4 j5 hr)
  obtain ⟨a, cap, rfl, _⟩ := hv.open'
  rw [HR.out]
  clear hi hj hr hv
  go_enter Tryz.func118, Tryz.ntmps118
  go_wp2_with fail
  refine (rget8_eq HV.out o c HI).mono ?_
  rintro e w1 ⟨rfl, b⟩
  have B1 := Lib.hid b
  clear b
  go_wp2_with fail
  refine (rget8_eq (HV.out.later B1.out) c o HJ).mono ?_
  rintro e w2 ⟨rfl, b⟩
  have B2 := Lib.hid (below2S B1.out b)
  clear b
  go_wp2_with fail
  refine (HS.out _).mono ?_
  rintro e w3 ⟨rfl, b⟩
  have B3 := Lib.hid (below2S B2.out b)
  clear b
  go_wp2_with fail
  go_ret
  exact ⟨rfl, B3.out⟩

set_option maxHeartbeats 800000 in
set_option maxRecDepth 100000 in
theorem entry_any (o c : List UInt8) (w : World) :
    Calls Tryz.prog 127 #[.string ⟨o.toArray⟩, .string ⟨c.toArray⟩] w fun e w' => e = .returned (.agg #[.string ⟨o.toArray⟩, .string ⟨c.toArray⟩, .bool false, .bool false, .bool false, .bool false, .bool false]) ∧ Below w.heap.size w w' := by
  go_enter Tryz.func127, Tryz.ntmps127
  go_wp2_with fail
  refine bodyPost_ret (v := .agg #[.string ⟨o.toArray⟩, .string ⟨c.toArray⟩, .bool false, .bool false, .bool false, .bool false, .bool false]) (by simp [results, Tryz.results127, go_sem]) rfl ⟨rfl, ?_⟩
  repeat (first | exact Below.refl _ _ | refine Below.setCell ?_ (by first | (simp; done) | (simp; omega)) _ | refine Below.alloc ?_ (by first | (simp; done) | (simp; omega)) _)

/-- The place of the first one that is the same. -/
def roFirst (l : List Ent) (x : Ent) : Nat × Bool := if (l.any fun e => entIs e x) = true then (l.findIdx fun e => entIs e x, true) else (0, false)

theorem roFirst_yes {l : List Ent} {x : Ent} {k : Nat} (hk : k < l.length) (hn : ∀ j, j < k → entIs (l.getD j Ent.zero) x = false) (h : entIs (l.getD k Ent.zero) x = true) : roFirst l x = (k, true) := by
  unfold roFirst
  rw [if_pos (by rw [List.any_eq_true]; exact ⟨l.getD k Ent.zero, by rw [getD_at hk]; exact List.getElem_mem hk, h⟩)]
  congr 1
  rw [List.findIdx_eq hk]
  refine ⟨by rw [← getD_at hk]; exact h, fun j hj => ?_⟩
  have := hn j hj
  rwa [getD_at (by omega)] at this

theorem roFirst_no {l : List Ent} {x : Ent} (hn : ∀ j, j < l.length → entIs (l.getD j Ent.zero) x = false) : roFirst l x = (0, false) := by
  unfold roFirst
  rw [if_neg]
  simp only [Bool.not_eq_true, List.any_eq_false]
  intro e he
  obtain ⟨i, hi, rfl⟩ := List.getElem_of_mem he
  have := hn i hi
  rw [getD_at hi] at this
  simp [this]

end Go.Proofs.YtphfinlfabklmaaGreat

end

section

/-
  LAYER 8, THE CODE: the first entry that is the same; Get; Sees.
-/
namespace Go.Proofs.YtphfinlfabklmaaGreat
open Go.RowKit

theorem entI_off {a b : Ent} (h : entIs a b = false) : (entI a b == 0) = false := by
  rw [beq_eq_false_iff_ne]
  intro e
  rw [entI_zero, h] at e
  cases e

theorem entI_on {a b : Ent} (h : entIs a b = true) : (entI a b == 0) = true := by
  rw [beq_iff_eq, entI_zero]
  exact h

theorem cells7_made (w : World) (e : Ent) (T : TypeId) : Cells7 (w.alloc (.cells #[.string ⟨e.o.toArray⟩, .string ⟨e.c.toArray⟩, .bool e.it.to, .bool e.it.fr, .bool e.it.out, .bool e.it.inn, .bool e.it.bl] T)) w.heap.size 0 e := by
  refine ⟨?_, ?_, ?_, ?_, ?_, ?_, ?_⟩ <;> (rw [World.cell?_alloc_at _ _ _ _ rfl]; rfl)

set_option maxHeartbeats 1600000 in
set_option maxRecDepth 100000 in
theorem first_any {w : World} {v : Value} {l : List Ent} (hv : Ents w v l) (xo xc : List UInt8) (x1 x2 x3 x4 x5 : Bool) :
    Calls Tryz.prog 144 #[v, .agg #[.string ⟨xo.toArray⟩, .string ⟨xc.toArray⟩, .bool x1, .bool x2, .bool x3, .bool x4, .bool x5], .func (.func 125) #[] #[]] w fun e w' =>
      e = .returned (.tuple #[.int .i64 (roFirst l ⟨xo, xc, ⟨x1, x2, x3, x4, x5⟩⟩).1, .bool (roFirst l ⟨xo, xc, ⟨x1, x2, x3, x4, x5⟩⟩).2]) ∧ Below w.heap.size w w' := by
  have HV := Lib.hid hv
  obtain ⟨a, cap, rfl, hm⟩ := hv.open'
  have HX := Lib.hid (cells7_made w ⟨xo, xc, ⟨x1, x2, x3, x4, x5⟩⟩ 126)
  have B0 : Hid (Below w.heap.size w (w.alloc (.cells #[.string ⟨xo.toArray⟩, .string ⟨xc.toArray⟩, .bool x1, .bool x2, .bool x3, .bool x4, .bool x5] 126))) := Lib.hid ((Below.refl _ _).alloc (Nat.le_refl _) _)
  clear hv
  go_enter Tryz.func144, Tryz.ntmps144
  go_wp2_with fail
  go_loopw [12] (fun i wr => ∃ k : Nat, k ≤ l.length ∧ i = .int .i64 k ∧ Hid (Below w.heap.size w wr) ∧ Hid (Cells7 wr w.heap.size 0 ⟨xo, xc, ⟨x1, x2, x3, x4, x5⟩⟩) ∧ Hid (∀ j, j < k → entIs (l.getD j Ent.zero) ⟨xo, xc, ⟨x1, x2, x3, x4, x5⟩⟩ = false)) (fun i _ => l.length - (intOf i).toNat)
  case atStart => exact ⟨0, by omega, rfl, B0, HX, by show ∀ _, _; intro j hj; omega⟩
  case round =>
    obtain ⟨k, hk, rfl, HB, HC, HN⟩ := hrel
    by_cases hlt : k < l.length
    · obtain ⟨b, off, rfl, h0, h1, h2, h3, h4, h5, h6⟩ := HV.out.row HB.out k hlt
      obtain ⟨⟨eo, ec, ⟨i1, i2, i3, i4, i5⟩⟩, hr⟩ : ∃ r, l.getD k Ent.zero = r := ⟨_, rfl⟩
      rw [hr] at h0 h1 h2 h3 h4 h5 h6
      obtain ⟨c0, c1, c2, c3, c4, c5, c6⟩ := HC.out.later ((Below.refl _ _).alloc (Nat.le_refl _) (.cells #[.string ⟨eo.toArray⟩, .string ⟨ec.toArray⟩, .bool i1, .bool i2, .bool i3, .bool i4, .bool i5] 126))
      simp only [Nat.zero_add] at h0 h1 h2 h3 h4 h5 h6 c0 c1 c2 c3 c4 c5 c6
      have HCmp := Lib.hid (rcompare_any eo ec xo xc i1 i2 i3 i4 i5 x1 x2 x3 x4 x5)
      obtain ⟨n, hn⟩ : ∃ n, entI ⟨eo, ec, ⟨i1, i2, i3, i4, i5⟩⟩ ⟨xo, xc, ⟨x1, x2, x3, x4, x5⟩⟩ = n := ⟨_, rfl⟩
      cases hs : entIs ⟨eo, ec, ⟨i1, i2, i3, i4, i5⟩⟩ ⟨xo, xc, ⟨x1, x2, x3, x4, x5⟩⟩ with
      | true =>
        have hz := entI_on hs
        have HR := Lib.hid (roFirst_yes hlt HN.out (by rw [hr]; exact hs))
        rw [hn] at hz HCmp
        clear hr hs hn
        go_wp2_with fail
        refine (HCmp.out _).mono ?_
        rintro e w2 ⟨rfl, hb⟩
        have B2 := Lib.hid (below2S (bl_allocS HB.out (.cells #[.string ⟨eo.toArray⟩, .string ⟨ec.toArray⟩, .bool i1, .bool i2, .bool i3, .bool i4, .bool i5] 126)) hb)
        clear hb
        go_wp2_with fail
        go_ret2
        exact ⟨by rw [HR.out]; rfl, B2.out⟩
      | false =>
        have hz := entI_off hs
        have HN2 : Hid (∀ j, j < k + 1 → entIs (l.getD j Ent.zero) ⟨xo, xc, ⟨x1, x2, x3, x4, x5⟩⟩ = false) := by
          show ∀ _, _
          intro j hj
          by_cases e : j = k
          · rw [e, hr]; exact hs
          · exact HN.out j (by omega)
        rw [hn] at hz HCmp
        clear hr hs hn
        go_wp2_with fail
        refine (HCmp.out _).mono ?_
        rintro e w2 ⟨rfl, hb⟩
        have B2 := Lib.hid (below2S (bl_allocS HB.out (.cells #[.string ⟨eo.toArray⟩, .string ⟨ec.toArray⟩, .bool i1, .bool i2, .bool i3, .bool i4, .bool i5] 126)) hb)
        have C2 := Lib.hid (HC.out.later (below2S (bl_allocS (Below.refl _ _) (.cells #[.string ⟨eo.toArray⟩, .string ⟨ec.toArray⟩, .bool i1, .bool i2, .bool i3, .bool i4, .bool i5] 126)) hb))
        clear hb
        go_wp2_with fail
        go_roundw
        case rel => exact ⟨k + 1, by omega, by go_num, B2, C2, HN2⟩
        case measure => simp [intOf]; omega
    · obtain rfl : k = l.length := by omega
      have HR := Lib.hid (roFirst_no HN.out)
      go_wp2_with fail
      go_ret2
      exact ⟨by rw [HR.out]; rfl, HB.out⟩

end Go.Proofs.YtphfinlfabklmaaGreat

end
