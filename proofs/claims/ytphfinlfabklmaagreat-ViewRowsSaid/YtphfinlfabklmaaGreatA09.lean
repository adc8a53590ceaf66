/-
  TEXTS OF THE PROOF, one behind the other: SubDo5, SubDo6, SubAct, SubLive, RosCmp.
-/
import Derived.Test.YtphfinlfabklmaaGreatA07
import Derived.Test.YtphfinlfabklmaaGreatA08
import Derived.Test.YtphfinlfabklmaaGreatA02
import Derived.Test.YtphfinlfabklmaaGreatA01

section

/-
  THE CONTRACT OF subs.Act at kind 5, of items that may be.
-/
namespace Go.Proofs.YtphfinlfabklmaaGreat
open Go.RowKit

end Go.Proofs.YtphfinlfabklmaaGreat

end

section

/-
  THE CONTRACT OF subs.Act at kind 6, of items that may be.
-/
namespace Go.Proofs.YtphfinlfabklmaaGreat
open Go.RowKit

end Go.Proofs.YtphfinlfabklmaaGreat

end

section

/-
  THE CONTRACTS OF subs.Act AND OF THE DOCUMENT'S Act, whatever is done.
-/
namespace Go.Proofs.YtphfinlfabklmaaGreat
open Go.RowKit

theorem suAct_in {a b : It} {k : Int} (hm : suMay a b = true) (h1 : 1 ≤ k) (h6 : k ≤ 6) : suAct a b k = suDo a b k := by
  unfold suAct
  rw [if_pos ⟨hm, h1, h6⟩]

theorem suAct_low {a b : It} {k : Int} (h : k < 1 ∨ 6 < k) : suAct a b k = (a, b, 1) := by
  unfold suAct
  rw [if_neg (fun h' => by omega)]

theorem suAct_not {a b : It} {k : Int} (h : suMay a b = false) : suAct a b k = (a, b, 1) := by
  unfold suAct
  rw [if_neg (fun h' => by rw [h] at h'; simp at h')]

theorem ract_any (a1 a2 a3 a4 a5 b1 b2 b3 b4 b5 : Bool) (k : Int) (w : World) :
    Calls Tryz.prog 178 #[.agg #[.bool a1, .bool a2, .bool a3, .bool a4, .bool a5], .agg #[.bool b1, .bool b2, .bool b3, .bool b4, .bool b5], .int .i64 k] w fun e w' => e = .returned (actE (suAct ⟨a1, a2, a3, a4, a5⟩ ⟨b1, b2, b3, b4, b5⟩ k)) ∧ Below w.heap.size w w' := by
  cases hm : suMay ⟨a1, a2, a3, a4, a5⟩ ⟨b1, b2, b3, b4, b5⟩ with
  | false =>
    rw [suAct_not hm]
    exact ract_not a1 a2 a3 a4 a5 b1 b2 b3 b4 b5 k hm w
  | true =>
    by_cases h1 : k < 1
    · rw [suAct_low (.inl h1)]
      exact ract_low a1 a2 a3 a4 a5 b1 b2 b3 b4 b5 k hm h1 w
    · by_cases h6 : 6 < k
      · rw [suAct_low (.inr h6)]
        exact ract_high a1 a2 a3 a4 a5 b1 b2 b3 b4 b5 k hm h6 w
      · have hr : k = 1 ∨ k = 2 ∨ k = 3 ∨ k = 4 ∨ k = 5 ∨ k = 6 := by omega
        rw [suAct_in hm (by omega) (by omega)]
        rcases hr with rfl | rfl | rfl | rfl | rfl | rfl
        · exact ract_1 a1 a2 a3 a4 a5 b1 b2 b3 b4 b5 hm w
        · exact ract_2 a1 a2 a3 a4 a5 b1 b2 b3 b4 b5 hm w
        · exact ract_3 a1 a2 a3 a4 a5 b1 b2 b3 b4 b5 hm w
        · exact ract_4 a1 a2 a3 a4 a5 b1 b2 b3 b4 b5 hm w
        · exact ract_5 a1 a2 a3 a4 a5 b1 b2 b3 b4 b5 hm w
        · exact ract_6 a1 a2 a3 a4 a5 b1 b2 b3 b4 b5 hm w

theorem ract_eq {a b x y : It} {k : Int} {er : Nat} (h : Hid (suAct a b k = (x, y, er))) (w : World) :
    Calls Tryz.prog 178 #[.agg #[.bool a.to, .bool a.fr, .bool a.out, .bool a.inn, .bool a.bl], .agg #[.bool b.to, .bool b.fr, .bool b.out, .bool b.inn, .bool b.bl], .int .i64 k] w fun e w' => e = .returned (.tuple #[.agg #[.bool x.to, .bool x.fr, .bool x.out, .bool x.inn, .bool x.bl], .agg #[.bool y.to, .bool y.fr, .bool y.out, .bool y.inn, .bool y.bl], .int .i64 er]) ∧ Below w.heap.size w w' := by
  have g := ract_any a.to a.fr a.out a.inn a.bl b.to b.fr b.out b.inn b.bl k w
  rw [show suAct ⟨a.to, a.fr, a.out, a.inn, a.bl⟩ ⟨b.to, b.fr, b.out, b.inn, b.bl⟩ k = (x, y, er) from h.out] at g
  exact g

end Go.Proofs.YtphfinlfabklmaaGreat

end

section

/-
  THE CONTRACT OF live OF LAYER 7's STATEMENTS: it returns true.
-/
namespace Go.Proofs.YtphfinlfabklmaaGreat
open Go.RowKit

/-- An item in a block of its own. -/
def ItAt (w : World) (B : Nat) (a : It) : Prop :=
  w.cell? ⟨B, 0, none⟩ = some (.bool a.to) ∧ w.cell? ⟨B, 1, none⟩ = some (.bool a.fr) ∧ w.cell? ⟨B, 2, none⟩ = some (.bool a.out) ∧ w.cell? ⟨B, 3, none⟩ = some (.bool a.inn) ∧ w.cell? ⟨B, 4, none⟩ = some (.bool a.bl)

theorem cellLaterS {w w' : World} {a : Addr} {v : Value} (h : w.cell? a = some v) (hb : Below w.heap.size w w') : w'.cell? a = some v := by
  rw [hb.cell (World.block_lt_of_cell? _ _ h)]
  exact h

theorem ItAt.later {w w' : World} {B : Nat} {a : It} (h : ItAt w B a) (hb : Below w.heap.size w w') : ItAt w' B a :=
  ⟨cellLaterS h.1 hb, cellLaterS h.2.1 hb, cellLaterS h.2.2.1 hb, cellLaterS h.2.2.2.1 hb, cellLaterS h.2.2.2.2 hb⟩

theorem itAt_made (w : World) (a : It) (B : Nat) (hB : B = w.heap.size) : ItAt (w.alloc (.cells #[.bool a.to, .bool a.fr, .bool a.out, .bool a.inn, .bool a.bl] 115)) B a := by
  subst hB
  refine ⟨?_, ?_, ?_, ?_, ?_⟩ <;> (rw [World.cell?_alloc_at _ _ _ _ rfl]; rfl)

theorem bl_allocS {w a : World} (h : Below w.heap.size w a) (o : Obj) : Below w.heap.size w (a.alloc o) := h.alloc h.size o

theorem ssees_eq (a1 a2 a3 a4 a5 b1 b2 b3 b4 b5 : Bool) {r : Bool} (h : suSees ⟨a1, a2, a3, a4, a5⟩ ⟨b1, b2, b3, b4, b5⟩ = r) (w : World) :
    Calls Tryz.prog 80 #[.agg #[.bool a1, .bool a2, .bool a3, .bool a4, .bool a5], .agg #[.bool b1, .bool b2, .bool b3, .bool b4, .bool b5]] w fun e w' => e = .returned (.bool r) ∧ Below w.heap.size w w' := by
  have g := ssees_any a1 a2 a3 a4 a5 b1 b2 b3 b4 b5 w
  rw [h] at g
  exact g

theorem smay_bl (a1 a2 a3 a4 a5 b1 b2 b3 b4 b5 : Bool) {r : Bool} (h : suMay ⟨a1, a2, a3, a4, a5⟩ ⟨b1, b2, b3, b4, b5⟩ = r) (w : World) :
    Calls Tryz.prog 195 #[.agg #[.bool a1, .bool a2, .bool a3, .bool a4, .bool a5], .agg #[.bool b1, .bool b2, .bool b3, .bool b4, .bool b5]] w fun e w' => e = .returned (.bool r) ∧ Below w.heap.size w w' := by
  have g := smay_any a1 a2 a3 a4 a5 b1 b2 b3 b4 b5 w
  rw [h] at g
  exact g.mono fun _ _ ⟨he, hw⟩ => ⟨he, by rw [hw]; exact ((Below.refl _ _).alloc (Nat.le_refl _) _).alloc (by simp) _⟩

theorem sempty_eq (a1 a2 a3 a4 a5 : Bool) {r : Bool} (h : suEmpty ⟨a1, a2, a3, a4, a5⟩ = r) (w : World) :
    Calls Tryz.prog 147 #[.agg #[.bool a1, .bool a2, .bool a3, .bool a4, .bool a5]] w fun e w' => e = .returned (.bool r) ∧ Below w.heap.size w w' := by
  have g := sempty_any a1 a2 a3 a4 a5 w
  rw [h] at g
  exact g

theorem rssees_eq (a1 a2 a3 a4 a5 b1 b2 b3 b4 b5 : Bool) {r : Bool} (h : suSees ⟨a1, a2, a3, a4, a5⟩ ⟨b1, b2, b3, b4, b5⟩ = r) (w : World) :
    Calls Tryz.prog 186 #[.agg #[.bool a1, .bool a2, .bool a3, .bool a4, .bool a5], .agg #[.bool b1, .bool b2, .bool b3, .bool b4, .bool b5]] w fun e w' => e = .returned (.bool r) ∧ Below w.heap.size w w' := by
  have g := rssees_any a1 a2 a3 a4 a5 b1 b2 b3 b4 b5 w
  rw [h] at g
  exact g

theorem rsmay_bl (a1 a2 a3 a4 a5 b1 b2 b3 b4 b5 : Bool) {r : Bool} (h : suMay ⟨a1, a2, a3, a4, a5⟩ ⟨b1, b2, b3, b4, b5⟩ = r) (w : World) :
    Calls Tryz.prog 136 #[.agg #[.bool a1, .bool a2, .bool a3, .bool a4, .bool a5], .agg #[.bool b1, .bool b2, .bool b3, .bool b4, .bool b5]] w fun e w' => e = .returned (.bool r) ∧ Below w.heap.size w w' := by
  have g := rsmay_any a1 a2 a3 a4 a5 b1 b2 b3 b4 b5 w
  rw [h] at g
  exact g.mono fun _ _ ⟨he, hw⟩ => ⟨he, by rw [hw]; exact ((Below.refl _ _).alloc (Nat.le_refl _) _).alloc (by simp) _⟩

theorem rsempty_eq (a1 a2 a3 a4 a5 : Bool) {r : Bool} (h : suEmpty ⟨a1, a2, a3, a4, a5⟩ = r) (w : World) :
    Calls Tryz.prog 137 #[.agg #[.bool a1, .bool a2, .bool a3, .bool a4, .bool a5]] w fun e w' => e = .returned (.bool r) ∧ Below w.heap.size w w' := by
  have g := rsempty_any a1 a2 a3 a4 a5 w
  rw [h] at g
  exact g

end Go.Proofs.YtphfinlfabklmaaGreat

end

section

/-
  LAYER 8: entries in memory; how two stand; the entry of an Owner and a Contact.
-/
namespace Go.Proofs.YtphfinlfabklmaaGreat
open Go.RowKit

/-- An entry by value: seven cells. -/
def entAgg (e : Ent) : Value := .agg #[.string ⟨e.o.toArray⟩, .string ⟨e.c.toArray⟩, .bool e.it.to, .bool e.it.fr, .bool e.it.out, .bool e.it.inn, .bool e.it.bl]

/-- Seven cells of a block. -/
def Cells7 (w : World) (b o : Nat) (e : Ent) : Prop :=
  w.cell? ⟨b, o, none⟩ = some (.string ⟨e.o.toArray⟩) ∧ w.cell? ⟨b, o + 1, none⟩ = some (.string ⟨e.c.toArray⟩) ∧ w.cell? ⟨b, o + 2, none⟩ = some (.bool e.it.to) ∧ w.cell? ⟨b, o + 3, none⟩ = some (.bool e.it.fr) ∧
    w.cell? ⟨b, o + 4, none⟩ = some (.bool e.it.out) ∧ w.cell? ⟨b, o + 5, none⟩ = some (.bool e.it.inn) ∧ w.cell? ⟨b, o + 6, none⟩ = some (.bool e.it.bl)

theorem Cells7.later {w w' : World} {b o : Nat} {e : Ent} (h : Cells7 w b o e) (hb : Below w.heap.size w w') : Cells7 w' b o e :=
  ⟨cellLaterS h.1 hb, cellLaterS h.2.1 hb, cellLaterS h.2.2.1 hb, cellLaterS h.2.2.2.1 hb, cellLaterS h.2.2.2.2.1 hb, cellLaterS h.2.2.2.2.2.1 hb, cellLaterS h.2.2.2.2.2.2 hb⟩

/-- A slice of entries that may be read. -/
def Ents (w : World) (v : Value) (l : List Ent) : Prop :=
  ∃ a cap, v = .slice a l.length cap ∧ l.length ≤ cap ∧ cap ≤ maxLen ∧ (a = none → cap = 0) ∧
    (l = [] ∨ ∃ b off, a = some ⟨b, off, none⟩ ∧ b < w.heap.size ∧ ∀ i, i < l.length → Cells7 w b (off + i * 7) (l.getD i Ent.zero))

theorem Ents.later {w w' : World} {v : Value} {l : List Ent} (h : Ents w v l) (hb : Below w.heap.size w w') : Ents w' v l := by
  obtain ⟨a, cap, h1, h2, h3, h4, h5⟩ := h
  refine ⟨a, cap, h1, h2, h3, h4, ?_⟩
  rcases h5 with h5 | ⟨b, off, e, hlt, hc⟩
  · exact .inl h5
  · exact .inr ⟨b, off, e, Nat.lt_of_lt_of_le hlt hb.size, fun i hi => (hc i hi).later hb⟩

theorem ents_nil (w : World) : Ents w (.slice none 0 0) [] := ⟨none, 0, rfl, by simp, by simp, fun _ => rfl, .inl rfl⟩

theorem Ents.row {w wr : World} {a : Option Addr} {n cap : Nat} {l : List Ent} (h : Ents w (.slice a n cap) l) (hb : Below w.heap.size w wr) (k : Nat) (hk : k < l.length) :
    ∃ b off, a = some ⟨b, off, none⟩ ∧ Cells7 wr b (off + k * 7) (l.getD k Ent.zero) := by
  obtain ⟨a', cap', e, _, _, _, h⟩ := h.later hb
  simp only [Value.slice.injEq] at e
  rcases h with h | ⟨b, off, e', _, hc⟩
  · rw [h] at hk; simp at hk
  · exact ⟨b, off, e.1.trans e', hc k hk⟩

theorem Ents.open' {w : World} {v : Value} {l : List Ent} (h : Ents w v l) : ∃ a cap, v = .slice a l.length cap ∧ l.length ≤ 9223372036854775807 := by
  obtain ⟨a, cap, e, h1, h2, _⟩ := h
  unfold maxLen at h2
  exact ⟨a, cap, e, by omega⟩

/-- Names that the contracts serve. -/
def ShortE (l : List Ent) : Prop := ∀ e ∈ l, e.o.length ≤ 4294967296 ∧ e.c.length ≤ 4294967296

theorem ShortE.get {l : List Ent} (h : ShortE l) {k : Nat} (hk : k < l.length) : (l.getD k Ent.zero).o.length ≤ 4294967296 ∧ (l.getD k Ent.zero).c.length ≤ 4294967296 := by
  rw [getD_at hk]
  exact h _ (List.getElem_mem hk)

/-- A number below 0, above 0, or 0. -/
def ordI (a b : List UInt8) : Int := if idLess a b = true then -1 else if idLess b a = true then 1 else 0

set_option maxHeartbeats 800000 in
set_option maxRecDepth 100000 in
theorem order_any (a b : List UInt8) (w : World) :
    Calls Tryz.prog 189 #[.string ⟨a.toArray⟩, .string ⟨b.toArray⟩] w fun e w' => e = .returned (.int .i64 (ordI a b)) ∧ Below w.heap.size w w' := by
  unfold ordI
  cases h1 : idLess a b with
  | true =>
    have H1 := Lib.hid h1
    clear h1
    simp only [if_true]
    go_enter Tryz.func189, Tryz.ntmps189
    go_wp2_with fail
    refine (less_eq a b H1 _).mono ?_
    rintro e w1 ⟨rfl, hb1⟩
    go_wp2_with fail
    go_ret
    exact ⟨rfl, hb1⟩
  | false =>
    have H1 := Lib.hid h1
    clear h1
    cases h2 : idLess b a with
    | true =>
      have H2 := Lib.hid h2
      clear h2
      simp only [if_true, Bool.false_eq_true, if_false]
      go_enter Tryz.func189, Tryz.ntmps189
      go_wp2_with fail
      refine (less_eq a b H1 _).mono ?_
      rintro e w1 ⟨rfl, hb1⟩
      go_wp2_with fail
      refine (less_eq b a H2 _).mono ?_
      rintro e w2 ⟨rfl, hb2⟩
      go_wp2_with fail
      go_ret
      exact ⟨rfl, below2S hb1 hb2⟩
    | false =>
      have H2 := Lib.hid h2
      clear h2
      simp only [Bool.false_eq_true, if_false]
      go_enter Tryz.func189, Tryz.ntmps189
      go_wp2_with fail
      refine (less_eq a b H1 _).mono ?_
      rintro e w1 ⟨rfl, hb1⟩
      go_wp2_with fail
      refine (less_eq b a H2 _).mono ?_
      rintro e w2 ⟨rfl, hb2⟩
      go_wp2_with fail
      go_ret
      exact ⟨rfl, below2S hb1 hb2⟩

/-- How two entries stand, as a number. -/
def entI (a b : Ent) : Int := if a.o = b.o then ordI a.c b.c else ordI a.o b.o

theorem ordI_lt (a b : List UInt8) : (ordI a b < 0) = (idLess a b = true) := by
  unfold ordI
  cases idLess a b <;> cases idLess b a <;> simp

theorem entI_lt (a b : Ent) : (entI a b < 0) = (entLt a b = true) := by
  unfold entI entLt
  by_cases h : a.o = b.o
  · rw [if_pos h, ordI_lt, h, idLess_irrefl]
    simp
  · rw [if_neg h, ordI_lt]
    simp [h]

theorem ordI_zero (a b : List UInt8) : (ordI a b = 0) = (a = b) := by
  unfold ordI
  rcases idLess_tri a b with ⟨h1, h2, h3⟩ | ⟨h1, h2, h3⟩ | ⟨h1, h2, h3⟩
  · simp [h1, h3]
  · simp [h1, h2, h3]
  · subst h3; simp [idLess_irrefl]

theorem entI_zero (a b : Ent) : (entI a b = 0) = (entIs a b = true) := by
  unfold entI entIs
  by_cases h : a.o = b.o
  · rw [if_pos h, ordI_zero]
    simp [h]
  · rw [if_neg h, ordI_zero]
    simp [h]

/-- The same with the answer in letters. -/
theorem order_eq (a b : List UInt8) {r : Int} (h : Hid (ordI a b = r)) (w : World) :
    Calls Tryz.prog 189 #[.string ⟨a.toArray⟩, .string ⟨b.toArray⟩] w fun e w' => e = .returned (.int .i64 r) ∧ Below w.heap.size w w' := by
  have := order_any a b w
  rwa [h.out] at this

set_option maxHeartbeats 800000 in
set_option maxRecDepth 100000 in
theorem rcompare_any (ao ac bo bc : List UInt8) (x1 x2 x3 x4 x5 y1 y2 y3 y4 y5 : Bool) (w : World) :
    Calls Tryz.prog 125 #[.agg #[.string ⟨ao.toArray⟩, .string ⟨ac.toArray⟩, .bool x1, .bool x2, .bool x3, .bool x4, .bool x5], .agg #[.string ⟨bo.toArray⟩, .string ⟨bc.toArray⟩, .bool y1, .bool y2, .bool y3, .bool y4, .bool y5]] w fun e w' => e = .returned (.int .i64 (entI ⟨ao, ac, ⟨x1, x2, x3, x4, x5⟩⟩ ⟨bo, bc, ⟨y1, y2, y3, y4, y5⟩⟩)) ∧ Below w.heap.size w w' := by
  have B0 : Hid (Below w.heap.size w ((w.alloc (.cells #[.string ⟨ao.toArray⟩, .string ⟨ac.toArray⟩, .bool x1, .bool x2, .bool x3, .bool x4, .bool x5] 126)).alloc (.cells #[.string ⟨bo.toArray⟩, .string ⟨bc.toArray⟩, .bool y1, .bool y2, .bool y3, .bool y4, .bool y5] 126))) := Lib.hid (((Below.refl _ _).alloc (Nat.le_refl _) _).alloc (by simp) _)
  unfold entI
  simp only
  by_cases h : ao = bo
  · subst h
    rw [if_pos rfl]
    obtain ⟨r, hr⟩ : ∃ r, ordI ac bc = r := ⟨_, rfl⟩
    rw [hr]
    have HO := Lib.hid (order_eq ac bc (Lib.hid hr))
    clear hr
    go_enter Tryz.func125, Tryz.ntmps125
    go_wp2_with fail
    refine (HO.out _).mono ?_
    rintro e w1 ⟨rfl, b⟩
    have B1 := Lib.hid (below2S B0.out b)
    clear b
    go_wp2_with fail
    go_ret
    exact ⟨rfl, B1.out⟩
  · rw [if_neg h]
    have t1 : (ao != bo) = true := by rw [bne_iff_ne]; exact h
    have t2 : (ao == bo) = false := by rw [beq_eq_false_iff_ne]; exact h
    obtain ⟨r, hr⟩ : ∃ r, ordI ao bo = r := ⟨_, rfl⟩
    rw [hr]
    have HO := Lib.hid (order_eq ao bo (Lib.hid hr))
    clear hr h
    go_enter Tryz.func125, Tryz.ntmps125
    go_wp2_with fail
    refine (HO.out _).mono ?_
    rintro e w1 ⟨rfl, b⟩
    have B1 := Lib.hid (below2S B0.out b)
    clear b
    go_wp2_with fail
    go_ret
    exact ⟨rfl, B1.out⟩

end Go.Proofs.YtphfinlfabklmaaGreat

end
