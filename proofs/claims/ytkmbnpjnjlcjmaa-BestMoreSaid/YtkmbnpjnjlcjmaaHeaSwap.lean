/-
  LAYER 10, THE CODE: two slots changed about; the best one among one and its children.
-/
import Derived.Test.YtkmbnpjnjlcjmaaHeaLay
namespace Go.Proofs.Ytkmbnpjnjlcjmaa
open Go.RowKit

theorem spot_iff {l : List Sl} (ho : Once l) {x : Int} {p : Nat} : spot l x = some p ↔ p < l.length ∧ (at0 l p).id = x := by
  constructor
  · exact spot_some
  · rintro ⟨h1, rfl⟩
    exact spot_of ho h1

theorem spot_none_iff {l : List Sl} {x : Int} : spot l x = none ↔ ∀ p, p < l.length → (at0 l p).id ≠ x := by
  constructor
  · exact spot_none
  · intro h
    cases hs : spot l x with
    | none => rfl
    | some p => obtain ⟨h1, h2⟩ := spot_some hs; exact absurd h2 (h p h1)

theorem spot_swp {l : List Sl} (ho : Once l) {i j : Nat} (hi : i < l.length) (hj : j < l.length) (hne : i ≠ j) :
    layF (layF (spot l) (at0 l j).id (some i)) (at0 l i).id (some j) = spot (swp l i j) := by
  have ho2 := once_perm (swp_perm hi hj hne) ho
  have hl := swp_len l i j
  funext x
  unfold layF
  by_cases e1 : x = (at0 l i).id
  · rw [if_pos e1, eq_comm, spot_iff ho2, hl, swp_at _ hi hj, if_pos rfl]
    exact ⟨hj, e1.symm⟩
  · rw [if_neg e1]
    by_cases e2 : x = (at0 l j).id
    · rw [if_pos e2, eq_comm, spot_iff ho2, hl, swp_at _ hi hj, if_neg hne, if_pos rfl]
      exact ⟨hi, e2.symm⟩
    · rw [if_neg e2]
      cases hs : spot l x with
      | some p =>
        obtain ⟨h1, h2⟩ := spot_some hs
        rw [eq_comm, spot_iff ho2, hl, swp_at _ hi hj]
        by_cases p1 : p = j
        · subst p1; exact absurd h2.symm e2
        · by_cases p2 : p = i
          · subst p2; exact absurd h2.symm e1
          · rw [if_neg p1, if_neg p2]; exact ⟨h1, h2⟩
      | none =>
        rw [eq_comm, spot_none_iff]
        intro p hp
        rw [hl] at hp
        rw [swp_at _ hi hj]
        have hn := spot_none hs
        split
        · exact fun h => e1 h.symm
        · split
          · exact fun h => e2 h.symm
          · exact hn p hp

/-- Ids that an int holds. -/
def Fits (l : List Sl) : Prop := ∀ s ∈ l, (Lit.int .i64 s.id).wf = true

theorem Fits.at0 {l : List Sl} (h : Fits l) {i : Nat} (hi : i < l.length) : (Lit.int .i64 (at0 l i).id).wf = true := by
  rw [at0_get hi]; exact h _ (List.getElem_mem hi)

/-- A heap in memory, its places as they are. -/
structure HOk (w : World) (base B : Nat) (v : Value) (M : Nat) (l : List Sl) : Prop where
  hat : HAt w base B v M l (spot l) l.length
  once : Once l
  fits : Fits l
  few : l.length ≤ 1000

theorem HOk.later {w w' : World} {base B : Nat} {v : Value} {M : Nat} {l : List Sl} (h : HOk w base B v M l) (hb : Below w.heap.size w w') : HOk w' base B v M l :=
  ⟨h.hat.later hb, h.once, h.fits, h.few⟩

/-- What a call of a heap turns. -/
structure Turn (w w' : World) (base B : Nat) (v : Value) (M : Nat) : Prop where
  beside : Beside w w' (Foot B M v)
  size : w.heap.size ≤ w'.heap.size
  below : Below base w w'

theorem Turn.trans {a b c : World} {base B : Nat} {v : Value} {M : Nat} (h : Turn a b base B v M) (k : Turn b c base B v M) : Turn a c base B v M :=
  ⟨h.beside.trans h.size k.beside, Nat.le_trans h.size k.size, h.below.trans k.below⟩

theorem turn_below {w w' : World} {base B : Nat} {v : Value} {M : Nat} (h : Below w.heap.size w w') (hb : base ≤ w.heap.size) : Turn w w' base B v M :=
  ⟨beside_below h _, h.size, h.mono hb⟩

theorem HOk.base {w : World} {base B : Nat} {v : Value} {M : Nat} {l : List Sl} (h : HOk w base B v M l) : base ≤ w.heap.size := by
  have := h.hat.le; have := h.hat.lt; omega

theorem hok_swp {w w7 : World} {base B : Nat} {v : Value} {M : Nat} {l : List Sl} (h : HOk w base B v M l) {i j : Nat} (hi : i < l.length) (hj : j < l.length) (hne : i ≠ j) {k : Nat}
    (h7 : HAt w7 base B v M ((l.set i (at0 l j)).set j (at0 l i)) (layF (layF (spot l) (at0 l j).id (some i)) (at0 l i).id (some j)) k) (hk : k = l.length) : HOk w7 base B v M (swp l i j) := by
  subst hk
  rw [spot_swp h.once hi hj hne] at h7
  have hl := swp_len l i j
  refine ⟨?_, once_perm (swp_perm hi hj hne) h.once, fun s hs => h.fits s ((swp_perm hi hj hne).mem_iff.1 hs), by rw [hl]; exact h.few⟩
  rw [hl]
  exact h7

theorem spot_is {l : List Sl} (ho : Once l) {i : Nat} (hi : i < l.length) {s : Sl} (hs : at0 l i = s) : (spot l s.id).isSome = true := by
  rw [← hs, spot_of ho hi]
  rfl

set_option maxHeartbeats 3200000 in
set_option maxRecDepth 100000 in
theorem swap_any {w : World} {base B : Nat} {v : Value} {M : Nat} {l : List Sl} (h : HOk w base B v M l) {i j : Nat} (hi : i < l.length) (hj : j < l.length) (hne : i ≠ j) :
    Calls Try.prog 153 #[.pointer (some ⟨B, 0, none⟩), .int .i64 i, .int .i64 j] w fun e w' =>
      e = .returned (.tuple #[]) ∧ HOk w' base B v M (swp l i j) ∧ Turn w w' base B v M := by
  obtain ⟨g, cap, rfl, hcap, hlc⟩ := h.hat.block (by omega)
  have hl := h.few
  obtain ⟨c0, c1, f0, f1⟩ := h.hat.cells
  obtain ⟨⟨a, a0, a1, a2⟩, ha⟩ : ∃ s, at0 l i = s := ⟨_, rfl⟩
  obtain ⟨⟨b, b0, b1, b2⟩, hb⟩ : ∃ s, at0 l j = s := ⟨_, rfl⟩
  obtain ⟨s0, s1, s2, s3⟩ := cells4 (h.hat.own.row slOK hi)
  obtain ⟨r0, r1, r2, r3⟩ := cells4 (h.hat.own.row slOK hj)
  rw [show l.getD i Sl.zero = at0 l i from rfl, ha] at s0 s1 s2 s3
  rw [show l.getD j Sl.zero = at0 l j from rfl, hb] at r0 r1 r2 r3
  simp only at s0 s1 s2 s3 r0 r1 r2 r3
  have t0 : (0 : Int) ≤ (i : Int) := by omega
  have t1 : (i : Int) < (l.length : Int) := by omega
  have t2 : (0 : Int) ≤ (j : Int) := by omega
  have t3 : (j : Int) < (l.length : Int) := by omega
  have H := Lib.hid h
  have HA := Lib.hid ha
  have HB := Lib.hid hb
  have m0 := World.new_ne w _ c0
  have m1 := World.new_ne w _ s0
  have m2 := World.new_ne w _ r0
  have haf := h.fits.at0 hi
  have hbf := h.fits.at0 hj
  have hbs := spot_is h.once hj hb
  rw [ha] at haf
  rw [hb] at hbf
  have hab : (layF (spot l) b (some i) a).isSome = true := by
    unfold layF
    split
    · rfl
    · exact spot_is h.once hi ha
  have hfar : ∀ X, w.heap.size ≤ X → ¬ Foot B M (.slice (some ⟨g, 0, none⟩) l.length cap) X := by
    rintro X hX (e | e | ⟨n, c, e⟩)
    · have := h.hat.lt; omega
    · have := h.hat.places.lt; omega
    · simp only [Value.slice.injEq, Option.some.injEq, Addr.mk.injEq, and_true] at e
      have := (h.hat.own.gblock rfl).1
      omega
  simp only at haf hbf hbs
  have haf' := Lib.hid haf
  clear h ha hb
  go_enter Try.func153, Try.ntmps153
  go_wp2_with fail
  go_region_held (fun w' => w'.cell? ⟨B, 0, none⟩ = some (.slice (some ⟨g, 0, none⟩) l.length cap) ∧ w'.cell? ⟨g, i * 4, none⟩ = some (.int .i64 a) ∧ w'.cell? ⟨g, i * 4 + 1, none⟩ = some (.int .i64 a0) ∧ w'.cell? ⟨g, i * 4 + 2, none⟩ = some (.int .i64 a1) ∧ w'.cell? ⟨g, i * 4 + 3, none⟩ = some (.int .i64 a2) ∧ w'.cell? ⟨g, j * 4, none⟩ = some (.int .i64 b) ∧ w'.cell? ⟨g, j * 4 + 1, none⟩ = some (.int .i64 b0) ∧ w'.cell? ⟨g, j * 4 + 2, none⟩ = some (.int .i64 b1) ∧ w'.cell? ⟨g, j * 4 + 3, none⟩ = some (.int .i64 b2)) (go_keep) (fail)
  · have HW := Lib.hid (show Below w.heap.size w ((w.alloc (.cells #[.int .i64 a, .int .i64 a0, .int .i64 a1, .int .i64 a2] 92)).alloc (.cells #[.int .i64 b, .int .i64 b0, .int .i64 b1, .int .i64 b2] 92)).drew from (((Below.refl _ _).alloc (Nat.le_refl _) _).alloc (by simp) _).drew)
    have g0 : ((w.alloc (.cells #[.int .i64 a, .int .i64 a0, .int .i64 a1, .int .i64 a2] 92)).alloc (.cells #[.int .i64 b, .int .i64 b0, .int .i64 b1, .int .i64 b2] 92)).drew.cell? ⟨w.heap.size, 0, none⟩ = some (.int .i64 a) := by simp
    have g1 : ((w.alloc (.cells #[.int .i64 a, .int .i64 a0, .int .i64 a1, .int .i64 a2] 92)).alloc (.cells #[.int .i64 b, .int .i64 b0, .int .i64 b1, .int .i64 b2] 92)).drew.cell? ⟨w.heap.size, 1, none⟩ = some (.int .i64 a0) := by simp
    have g2 : ((w.alloc (.cells #[.int .i64 a, .int .i64 a0, .int .i64 a1, .int .i64 a2] 92)).alloc (.cells #[.int .i64 b, .int .i64 b0, .int .i64 b1, .int .i64 b2] 92)).drew.cell? ⟨w.heap.size, 2, none⟩ = some (.int .i64 a1) := by simp
    have g3 : ((w.alloc (.cells #[.int .i64 a, .int .i64 a0, .int .i64 a1, .int .i64 a2] 92)).alloc (.cells #[.int .i64 b, .int .i64 b0, .int .i64 b1, .int .i64 b2] 92)).drew.cell? ⟨w.heap.size, 3, none⟩ = some (.int .i64 a2) := by simp
    have k0 : ((w.alloc (.cells #[.int .i64 a, .int .i64 a0, .int .i64 a1, .int .i64 a2] 92)).alloc (.cells #[.int .i64 b, .int .i64 b0, .int .i64 b1, .int .i64 b2] 92)).drew.cell? ⟨w.heap.size + 1, 0, none⟩ = some (.int .i64 b) := by simp
    have k1 : ((w.alloc (.cells #[.int .i64 a, .int .i64 a0, .int .i64 a1, .int .i64 a2] 92)).alloc (.cells #[.int .i64 b, .int .i64 b0, .int .i64 b1, .int .i64 b2] 92)).drew.cell? ⟨w.heap.size + 1, 1, none⟩ = some (.int .i64 b0) := by simp
    have k2 : ((w.alloc (.cells #[.int .i64 a, .int .i64 a0, .int .i64 a1, .int .i64 a2] 92)).alloc (.cells #[.int .i64 b, .int .i64 b0, .int .i64 b1, .int .i64 b2] 92)).drew.cell? ⟨w.heap.size + 1, 2, none⟩ = some (.int .i64 b1) := by simp
    have k3 : ((w.alloc (.cells #[.int .i64 a, .int .i64 a0, .int .i64 a1, .int .i64 a2] 92)).alloc (.cells #[.int .i64 b, .int .i64 b0, .int .i64 b1, .int .i64 b2] 92)).drew.cell? ⟨w.heap.size + 1, 3, none⟩ = some (.int .i64 b2) := by simp
    have hX : ¬ Foot B M (.slice (some ⟨g, 0, none⟩) l.length cap) (w.heap.size) := hfar _ (by omega)
    generalize ((w.alloc (.cells #[.int .i64 a, .int .i64 a0, .int .i64 a1, .int .i64 a2] 92)).alloc (.cells #[.int .i64 b, .int .i64 b0, .int .i64 b1, .int .i64 b2] 92)).drew = w5 at HW g0 g1 g2 g3 k0 k1 k2 k3 ⊢
    clear s0 s1 s2 s3 r0 r1 r2 r3 c0 c1 f0 f1 m0 m1 m2
    go_wp2_with fail
    have hlt := World.block_lt_of_cell? w5 _ g0
    refine (lay_any (H.out.hat.later HW.out) hi H.out.few H.out.few b b0 b1 b2 hbf).mono ?_
    rintro e w6 ⟨rfl, h6, bs6, sz6, bl6⟩
    rw [if_pos hbs] at h6
    have hc6 : ∀ o, w6.cell? ⟨w.heap.size, o, none⟩ = w5.cell? ⟨w.heap.size, o, none⟩ := fun o => World.cell?_of_block (bs6 _ hlt hX)
    have e0 := (hc6 0).trans g0
    have e1 := (hc6 1).trans g1
    have e2 := (hc6 2).trans g2
    have e3 := (hc6 3).trans g3
    have T6 := Lib.hid ((turn_below (v := .slice (some ⟨g, 0, none⟩) l.length cap) (B := B) (M := M) HW.out H.out.base).trans ⟨bs6, sz6, bl6⟩)
    have H6 := Lib.hid h6
    clear hc6 g0 g1 g2 g3 k0 k1 k2 k3 h6 bs6 sz6 bl6 hlt
    go_wp2_with fail
    refine (lay_any H6.out (a := j) (by rw [List.length_set]; exact hj) (by rw [List.length_set]; exact H.out.few) H.out.few a a0 a1 a2 haf).mono ?_
    rintro e w7 ⟨rfl, h7, bs7, sz7, bl7⟩
    rw [if_pos hab] at h7
    have T7 := Lib.hid (T6.out.trans ⟨bs7, sz7, bl7⟩)
    have H7 := Lib.hid (hok_swp H.out hi hj hne (by rw [HA.out, HB.out]; exact h7) rfl)
    clear h7 bs7 sz7 bl7 e0 e1 e2 e3
    go_wp2_with fail
    go_end0
    exact ⟨rfl, H7.out, T7.out⟩
  · have HW := Lib.hid (show Below w.heap.size w ((w.alloc (.cells #[.int .i64 b, .int .i64 b0, .int .i64 b1, .int .i64 b2] 92)).alloc (.cells #[.int .i64 a, .int .i64 a0, .int .i64 a1, .int .i64 a2] 92)).drew from (((Below.refl _ _).alloc (Nat.le_refl _) _).alloc (by simp) _).drew)
    have g0 : ((w.alloc (.cells #[.int .i64 b, .int .i64 b0, .int .i64 b1, .int .i64 b2] 92)).alloc (.cells #[.int .i64 a, .int .i64 a0, .int .i64 a1, .int .i64 a2] 92)).drew.cell? ⟨w.heap.size + 1, 0, none⟩ = some (.int .i64 a) := by simp
    have g1 : ((w.alloc (.cells #[.int .i64 b, .int .i64 b0, .int .i64 b1, .int .i64 b2] 92)).alloc (.cells #[.int .i64 a, .int .i64 a0, .int .i64 a1, .int .i64 a2] 92)).drew.cell? ⟨w.heap.size + 1, 1, none⟩ = some (.int .i64 a0) := by simp
    have g2 : ((w.alloc (.cells #[.int .i64 b, .int .i64 b0, .int .i64 b1, .int .i64 b2] 92)).alloc (.cells #[.int .i64 a, .int .i64 a0, .int .i64 a1, .int .i64 a2] 92)).drew.cell? ⟨w.heap.size + 1, 2, none⟩ = some (.int .i64 a1) := by simp
    have g3 : ((w.alloc (.cells #[.int .i64 b, .int .i64 b0, .int .i64 b1, .int .i64 b2] 92)).alloc (.cells #[.int .i64 a, .int .i64 a0, .int .i64 a1, .int .i64 a2] 92)).drew.cell? ⟨w.heap.size + 1, 3, none⟩ = some (.int .i64 a2) := by simp
    have k0 : ((w.alloc (.cells #[.int .i64 b, .int .i64 b0, .int .i64 b1, .int .i64 b2] 92)).alloc (.cells #[.int .i64 a, .int .i64 a0, .int .i64 a1, .int .i64 a2] 92)).drew.cell? ⟨w.heap.size, 0, none⟩ = some (.int .i64 b) := by simp
    have k1 : ((w.alloc (.cells #[.int .i64 b, .int .i64 b0, .int .i64 b1, .int .i64 b2] 92)).alloc (.cells #[.int .i64 a, .int .i64 a0, .int .i64 a1, .int .i64 a2] 92)).drew.cell? ⟨w.heap.size, 1, none⟩ = some (.int .i64 b0) := by simp
    have k2 : ((w.alloc (.cells #[.int .i64 b, .int .i64 b0, .int .i64 b1, .int .i64 b2] 92)).alloc (.cells #[.int .i64 a, .int .i64 a0, .int .i64 a1, .int .i64 a2] 92)).drew.cell? ⟨w.heap.size, 2, none⟩ = some (.int .i64 b1) := by simp
    have k3 : ((w.alloc (.cells #[.int .i64 b, .int .i64 b0, .int .i64 b1, .int .i64 b2] 92)).alloc (.cells #[.int .i64 a, .int .i64 a0, .int .i64 a1, .int .i64 a2] 92)).drew.cell? ⟨w.heap.size, 3, none⟩ = some (.int .i64 b2) := by simp
    have hX : ¬ Foot B M (.slice (some ⟨g, 0, none⟩) l.length cap) (w.heap.size + 1) := hfar _ (by omega)
    generalize ((w.alloc (.cells #[.int .i64 b, .int .i64 b0, .int .i64 b1, .int .i64 b2] 92)).alloc (.cells #[.int .i64 a, .int .i64 a0, .int .i64 a1, .int .i64 a2] 92)).drew = w5 at HW g0 g1 g2 g3 k0 k1 k2 k3 ⊢
    clear s0 s1 s2 s3 r0 r1 r2 r3 c0 c1 f0 f1 m0 m1 m2
    go_wp2_with fail
    have hlt := World.block_lt_of_cell? w5 _ g0
    refine (lay_any (H.out.hat.later HW.out) hi H.out.few H.out.few b b0 b1 b2 hbf).mono ?_
    rintro e w6 ⟨rfl, h6, bs6, sz6, bl6⟩
    rw [if_pos hbs] at h6
    have hc6 : ∀ o, w6.cell? ⟨w.heap.size + 1, o, none⟩ = w5.cell? ⟨w.heap.size + 1, o, none⟩ := fun o => World.cell?_of_block (bs6 _ hlt hX)
    have e0 := (hc6 0).trans g0
    have e1 := (hc6 1).trans g1
    have e2 := (hc6 2).trans g2
    have e3 := (hc6 3).trans g3
    have T6 := Lib.hid ((turn_below (v := .slice (some ⟨g, 0, none⟩) l.length cap) (B := B) (M := M) HW.out H.out.base).trans ⟨bs6, sz6, bl6⟩)
    have H6 := Lib.hid h6
    clear hc6 g0 g1 g2 g3 k0 k1 k2 k3 h6 bs6 sz6 bl6 hlt
    go_wp2_with fail
    refine (lay_any H6.out (a := j) (by rw [List.length_set]; exact hj) (by rw [List.length_set]; exact H.out.few) H.out.few a a0 a1 a2 haf).mono ?_
    rintro e w7 ⟨rfl, h7, bs7, sz7, bl7⟩
    rw [if_pos hab] at h7
    have T7 := Lib.hid (T6.out.trans ⟨bs7, sz7, bl7⟩)
    have H7 := Lib.hid (hok_swp H.out hi hj hne (by rw [HA.out, HB.out]; exact h7) rfl)
    clear h7 bs7 sz7 bl7 e0 e1 e2 e3
    go_wp2_with fail
    go_end0
    exact ⟨rfl, H7.out, T7.out⟩

end Go.Proofs.Ytkmbnpjnjlcjmaa
