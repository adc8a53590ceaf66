/-
  TEXTS OF THE PROOF, one behind the other: FraDec, FraRsame, FraSame, FraLive, FraRtake.
-/
import Derived.Test.YtohfhphiofobcaaR13
import Derived.Test.YtohfhphiofobcaaR06
import Derived.Test.YtohfhphiofobcaaR12

section

/-
  LAYER 6, THE CODE: take; Decode.
-/
namespace Go.Proofs.Ytohfhphiofobcaa
open Go.RowKit

theorem idTake_shortF {l : List UInt8} {p : Int} {t : List UInt8} {f er : Nat} (h : idTake l p = (t, f, er)) : t.length ≤ l.length := by
  unfold idTake at h
  split at h
  · simp only [Prod.mk.injEq] at h; rw [← h.1]; simp
  · split at h
    · exact vtake_short h
    · simp only [Prod.mk.injEq] at h; rw [← h.1]; simp

theorem vaTake_shortF {l : List UInt8} {p : Int} {v : Val} {f er : Nat} (h : vaTake l p = (v, f, er)) : v.st.length ≤ l.length := by
  unfold vaTake at h
  split at h
  · simp only [Prod.mk.injEq] at h; rw [← h.1]; simp [Val.zero]
  · split at h
    · simp only [Prod.mk.injEq] at h; rw [← h.1]; simp [Val.zero]
    · split at h
      · simp only [Prod.mk.injEq] at h; rw [← h.1]; simp [Val.zero]
      · split at h
        · simp only [Prod.mk.injEq] at h; rw [← h.1]; simp [Val.zero]
        · split at h
          · simp only [Prod.mk.injEq] at h; rw [← h.1]; simp [Val.zero]
          · simp only [Prod.mk.injEq] at h
            rw [← h.1]
            exact vtake_short (er := (vtake l (vget l (p + 2)).2.1 32).2.2) (f := (vtake l (vget l (p + 2)).2.1 32).2.1) rfl

theorem diTake_shortF (l : List UInt8) (p : Int) : Short (diTake l p).1 := by
  unfold diTake
  split
  · exact fun r hr => by simp at hr
  · split
    · exact fun r hr => by simp at hr
    · split
      · exact fun r hr => by simp at hr
      · split
        · exact fun r hr => by simp at hr
        · rename_i h
          exact ok_short (diMay_iff.1 (by simpa using h)).2.1

/-- What is taken is short, where the text is. -/
structure FrShort (g : Frm) : Prop where
  c : g.c.length ≤ 4294967296
  st : g.v.st.length ≤ 4294967296
  t : Short g.t
  sum : g.sum < 18446744073709551616

theorem frShort_zero : FrShort Frm.zero := ⟨by simp [Frm.zero], by simp [Frm.zero, Val.zero], fun r hr => by simp [Frm.zero] at hr, by simp [Frm.zero]⟩

theorem tkBody_short (k : Nat) (b : List UInt8) (hb : b.length ≤ 4294967296) : FrShort ((tkBody k b).getD Frm.zero) := by
  unfold tkBody
  split
  · unfold tkDelta
    repeat' split
    all_goals (first | exact frShort_zero | skip)
    · exact ⟨Nat.le_trans (idTake_shortF rfl) hb, by simp [Val.zero], fun r hr => by simp at hr, by simp⟩
    · exact ⟨Nat.le_trans (idTake_shortF rfl) hb, Nat.le_trans (vaTake_shortF rfl) hb, fun r hr => by simp at hr, by simp⟩
  · split
    · unfold tkDigest
      split
      · exact frShort_zero
      · exact ⟨by simp, by simp [Val.zero], fun r hr => by simp at hr, sum8_take _⟩
    · split
      · unfold tkSnapshot
        split
        · exact frShort_zero
        · exact ⟨by simp, by simp [Val.zero], diTake_shortF b 0, by simp⟩
      · exact frShort_zero

theorem tkAll_short {t : List UInt8} (ht : t.length ≤ 4294967296) {og : Option Frm} {k q : Int} (h : tkAll t = (og, k, q)) : FrShort (og.getD Frm.zero) := by
  unfold tkAll at h
  split at h
  · simp only [Prod.mk.injEq] at h; rw [← h.1]; exact frShort_zero
  · split at h
    · simp only [Prod.mk.injEq] at h; rw [← h.1]; exact frShort_zero
    · split at h
      · simp only [Prod.mk.injEq] at h; rw [← h.1]; exact frShort_zero
      · simp only [Prod.mk.injEq] at h; rw [← h.1]
        exact tkBody_short _ _ (by rw [List.length_drop]; omega)

theorem frTakeBody_tk (k n : Nat) (b : List UInt8) (h1 : 1 ≤ k) (h4 : k ≤ 4) : frTakeBody k n b = (tkBody k b).map fun g => ⟨k, n, g.on, g.c, g.v, g.sum, g.t⟩ := by
  have hk : k = 1 ∨ k = 2 ∨ k = 3 ∨ k = 4 := by omega
  unfold frTakeBody tkBody
  rcases hk with rfl | rfl | rfl | rfl
  · simp only [if_true]
    unfold tkDelta
    repeat' split
    all_goals (first | rfl | simp_all)
  · simp only [show ¬ (2 = 1) by omega, if_false, if_true]
    unfold tkDigest
    split <;> rfl
  · simp only [show ¬ (3 = 1) by omega, show ¬ (3 = 2) by omega, if_false, if_true]
    unfold tkSnapshot
    split <;> rfl
  · simp only [show ¬ (4 = 1) by omega, show ¬ (4 = 2) by omega, show ¬ (4 = 3) by omega, if_false]
    rfl

theorem frMay_far {k s : Int} {on : Bool} {c : List UInt8} {v : Val} {sum : Nat} {t : List Row} (h : s < 0 ∨ 1099511627776 < s) : frMay ⟨k, s, on, c, v, sum, t⟩ = false := by
  cases hm : frMay ⟨k, s, on, c, v, sum, t⟩ with
  | false => rfl
  | true =>
    obtain ⟨_, _, h0, h1, _⟩ := frMay_iff.1 hm
    simp only at h0 h1
    omega

theorem wrap_small {n : Nat} (h : n ≤ 1099511627776) : IntKind.i64.wrap (n : Int) = n := by
  rw [wrap_i64F]; unfold wrap64; omega

theorem wrap_far {n : Nat} (h : 1099511627776 < n) (hn : n < 18446744073709551616) : IntKind.i64.wrap (n : Int) < 0 ∨ 1099511627776 < IntKind.i64.wrap (n : Int) := by
  rw [wrap_i64F]; unfold wrap64; omega

/-- Decode, told by what take tells. -/
theorem frDec_tk {s t : List UInt8} (ht : copen s = (t, 0)) {og : Option Frm} {k q : Int} (h : tkAll t = (og, k, q)) :
    (og = none → frDec s = (Frm.zero, 3)) ∧ ∀ g, og = some g → frDec s = if frMay ⟨k, q, g.on, g.c, g.v, g.sum, g.t⟩ = true ∧ frPlain ⟨k, q, g.on, g.c, g.v, g.sum, g.t⟩ = t then (⟨k, q, g.on, g.c, g.v, g.sum, g.t⟩, 0) else (Frm.zero, 3) := by
  unfold frDec
  rw [ht]
  simp only [ne_eq, not_true_eq_false, if_false]
  unfold tkAll at h
  unfold frTake
  cases t with
  | nil =>
    simp only [Prod.mk.injEq] at h
    refine ⟨fun _ => rfl, fun g hg => ?_⟩
    rw [← h.1] at hg
    cases hg
  | cons x r =>
    simp only at h ⊢
    by_cases hk : x.toNat < 1 ∨ 4 < x.toNat
    · rw [if_pos hk] at h ⊢
      simp only [Prod.mk.injEq] at h
      refine ⟨fun _ => rfl, fun g hg => ?_⟩
      rw [← h.1] at hg
      cases hg
    · rw [if_neg hk] at h ⊢
      by_cases he : (vget (x :: r) 1).2.2 ≠ 0
      · rw [if_pos he] at h ⊢
        simp only [Prod.mk.injEq] at h
        refine ⟨fun _ => rfl, fun g hg => ?_⟩
        rw [← h.1] at hg
        cases hg
      · rw [if_neg he] at h ⊢
        simp only [Prod.mk.injEq] at h
        obtain ⟨h1, rfl, rfl⟩ := h
        rw [frTakeBody_tk _ _ _ (by omega) (by omega), h1]
        refine ⟨fun h => by rw [h]; rfl, fun g hg => ?_⟩
        subst hg
        simp only [Option.map_some]
        by_cases hn : (vget (x :: r) 1).1 ≤ 1099511627776
        · rw [wrap_small hn]
        · have hf := wrap_far (by omega : 1099511627776 < (vget (x :: r) 1).1) (vget_facts (l := x :: r) (p := 1) rfl).1
          rw [if_neg (fun h => by rw [frMay_far (.inr (by omega))] at h; simp at h), if_neg (fun h => by rw [frMay_far hf] at h; simp at h)]

/-- take, all of it. -/
theorem frtake_any (l : List UInt8) (hl : l.length ≤ 4294967296) (w : World) : Calls Try.prog 44 #[.string ⟨l.toArray⟩] w (TookA (tkAll l) w) := by
  cases l with
  | nil => exact take_nil w
  | cons x b =>
    by_cases hk : x.toNat < 1 ∨ 4 < x.toNat
    · exact take_kind x b hk w
    · obtain ⟨n, f, er, hg⟩ : ∃ n f er, vget (x :: b) 1 = (n, f, er) := ⟨_, _, _, rfl⟩
      by_cases he : er = 0
      · subst he
        have h4 : x.toNat = 1 ∨ x.toNat = 2 ∨ x.toNat = 3 ∨ x.toNat = 4 := by omega
        rcases h4 with h | h | h | h
        · exact take_at1 x h b hl (Lib.hid hg) w
        · exact take_at2 x h b hl (Lib.hid hg) w
        · exact take_at3 x h b hl (Lib.hid hg) w
        · exact take_at4 x h b hl (Lib.hid hg) w
      · exact take_get x b hl hk hg he w

theorem take_f (l : List UInt8) (hl : l.length ≤ 4294967296) {og : Option Frm} {k q sh pr si : Int} {on : Bool} {c st : List UInt8} {sum : Nat} {tt : List Row} {k0 q0 : Int} {ok : Bool} (h : Hid (tkAll l = (og, k, q))) (hg : Hid (og.getD Frm.zero = ⟨k0, q0, on, c, ⟨sh, pr, si, st⟩, sum, tt⟩)) (hok : Hid (og.isSome = ok)) (w : World) :
    Calls Try.prog 44 #[.string ⟨l.toArray⟩] w fun e w' => ∃ v, e = .returned (.tuple #[.agg #[.int .i64 k, .int .i64 q, .bool on, .string ⟨c.toArray⟩, .int .i64 sh, .int .i64 pr, .int .i64 si, .string ⟨st.toArray⟩, .int .u64 sum, v], .bool ok]) ∧ OwnR w' w.heap.size v tt ∧ Below w.heap.size w w' := by
  have := frtake_any l hl w
  unfold TookA at this
  rw [h.out] at this
  simp only [hg.out, hok.out, frAgg] at this
  exact this

theorem frmay_eqF {w : World} {v : Value} {k q sh pr si : Int} {on : Bool} {c st : List UInt8} {sum : Nat} {tt : List Row} (hv : Tab w v tt) (hsh : Short tt) (hc : c.length ≤ 4294967296) (hs : st.length ≤ 4294967296) {r : Bool} (h : Hid (frMay ⟨k, q, on, c, ⟨sh, pr, si, st⟩, sum, tt⟩ = r)) :
    Calls Try.prog 14 #[.agg #[.int .i64 k, .int .i64 q, .bool on, .string ⟨c.toArray⟩, .int .i64 sh, .int .i64 pr, .int .i64 si, .string ⟨st.toArray⟩, .int .u64 sum, v]] w fun e w' => e = .returned (.bool r) ∧ Below w.heap.size w w' := by
  have := frmay_any hv hsh k q on c sh pr si st sum hc hs
  rw [h.out] at this
  exact this

theorem frput_eqF {w : World} {v : Value} {k q sh pr si : Int} {on : Bool} {c st : List UInt8} {sum : Nat} {tt : List Row} (hv : Tab w v tt) (hsh : Short tt) (hs : sum < 18446744073709551616) (hm : Hid (frMay ⟨k, q, on, c, ⟨sh, pr, si, st⟩, sum, tt⟩ = true)) {p : List UInt8} (h : Hid (frPlain ⟨k, q, on, c, ⟨sh, pr, si, st⟩, sum, tt⟩ = p)) :
    Calls Try.prog 34 #[.agg #[.int .i64 k, .int .i64 q, .bool on, .string ⟨c.toArray⟩, .int .i64 sh, .int .i64 pr, .int .i64 si, .string ⟨st.toArray⟩, .int .u64 sum, v]] w fun e w' => e = .returned (.string ⟨p.toArray⟩) ∧ Below w.heap.size w w' := by
  have := frput_any hv hsh k q on c sh pr si st sum hs hm.out
  rw [h.out] at this
  exact this

theorem open_eqF (l : List UInt8) (hl : l.length ≤ 4294967296) {t : List UInt8} {er : Nat} (h : Hid (copen l = (t, er))) (w : World) :
    Calls Try.prog 43 #[.string ⟨l.toArray⟩] w fun e w' => e = .returned (.tuple #[.string ⟨t.toArray⟩, .int .i64 er]) ∧ Below w.heap.size w w' := by
  have := open_any l hl w
  rw [h.out] at this
  exact this

theorem copen_lenF {l t : List UInt8} {er : Nat} (h : copen l = (t, er)) : t.length ≤ l.length := by
  unfold copen at h
  split at h
  · simp only [Prod.mk.injEq] at h; rw [← h.1]; simp
  · split at h
    · simp only [Prod.mk.injEq] at h; rw [← h.1, List.length_take]; omega
    · simp only [Prod.mk.injEq] at h; rw [← h.1]; simp

set_option maxHeartbeats 1600000 in
set_option maxRecDepth 100000 in
theorem frdec_err (s : List UInt8) (hl : s.length ≤ 4294967296) {t : List UInt8} {er : Nat} (HT : Hid (copen s = (t, er))) (he : er ≠ 0) (w : World) :
    Calls Try.prog 18 #[.string ⟨s.toArray⟩] w fun e w' => ∃ v, e = .returned (.tuple #[.agg #[.int .i64 0, .int .i64 0, .bool false, .string ⟨#[]⟩, .int .i64 0, .int .i64 0, .int .i64 0, .string ⟨#[]⟩, .int .u64 0, v], .int .i64 er]) ∧ OwnR w' w.heap.size v [] ∧ Below w.heap.size w w' := by
  have t1 : ((er : Int) != 0) = true := by simp; omega
  clear he
  have b0 := bl_newZ w (.cells #[.int .i64 0, .int .i64 0, .bool false, .string ⟨#[]⟩, .int .i64 0, .int .i64 0, .int .i64 0, .string ⟨#[]⟩, .int .u64 0, .slice none 0 0] 27)
  have HB := Lib.hid b0
  have R := newQ w (.cells #[.int .i64 0, .int .i64 0, .bool false, .string ⟨#[]⟩, .int .i64 0, .int .i64 0, .int .i64 0, .string ⟨#[]⟩, .int .u64 0, .slice none 0 0] 27)
  replace R := Lib.hid R
  clear b0
  go_enter Try.func18, Try.ntmps18
  go_wp2_with fail
  refine (open_eqF s hl HT _).mono ?_
  rintro e w2 ⟨rfl, b2⟩
  replace R := Lib.hid (upQ R.out b2)
  replace HB := Lib.hid (below2Z HB.out b2)
  clear b2
  obtain ⟨⟨Rc0, Rc1, Rc2, Rc3, Rc4, Rc5, Rc6, Rc7, Rc8, Rc9⟩, ⟨Rf0, Rf1, Rf2, Rf3, Rf4, Rf5, Rf6, Rf7, Rf8, Rf9⟩⟩ := blk10 R.out
  go_wp2_with fail
  refine bodyPost_ret (v := .tuple #[.agg #[.int .i64 0, .int .i64 0, .bool false, .string ⟨#[]⟩, .int .i64 0, .int .i64 0, .int .i64 0, .string ⟨#[]⟩, .int .u64 0, .slice none 0 0], .int .i64 er]) (by simp [results, Try.results18, go_sem, Rc0, Rc1, Rc2, Rc3, Rc4, Rc5, Rc6, Rc7, Rc8, Rc9]) rfl ⟨_, rfl, ownR_nil _ _, ?_⟩
  exact ((((((((((HB.out.setCell (Nat.le_refl _) _).setCell (Nat.le_refl _) _).setCell (Nat.le_refl _) _).setCell (Nat.le_refl _) _).setCell (Nat.le_refl _) _).setCell (Nat.le_refl _) _).setCell (Nat.le_refl _) _).setCell (Nat.le_refl _) _).setCell (Nat.le_refl _) _).setCell (Nat.le_refl _) _)

set_option maxHeartbeats 1600000 in
set_option maxRecDepth 100000 in
theorem frdec_cut (s : List UInt8) (hl : s.length ≤ 4294967296) {t : List UInt8} (HT : Hid (copen s = (t, 0))) (htl : t.length ≤ 4294967296) {og : Option Frm} {k q sh pr si : Int} {on : Bool} {c st : List UInt8} {sum : Nat} {tt : List Row} {k0 q0 : Int} (HE : Hid (tkAll t = (og, k, q))) (HG : Hid (og.getD Frm.zero = ⟨k0, q0, on, c, ⟨sh, pr, si, st⟩, sum, tt⟩)) (HK : Hid (og.isSome = false)) (w : World) :
    Calls Try.prog 18 #[.string ⟨s.toArray⟩] w fun e w' => ∃ v, e = .returned (.tuple #[.agg #[.int .i64 0, .int .i64 0, .bool false, .string ⟨#[]⟩, .int .i64 0, .int .i64 0, .int .i64 0, .string ⟨#[]⟩, .int .u64 0, v], .int .i64 3]) ∧ OwnR w' w.heap.size v [] ∧ Below w.heap.size w w' := by
  have b0 := bl_newZ w (.cells #[.int .i64 0, .int .i64 0, .bool false, .string ⟨#[]⟩, .int .i64 0, .int .i64 0, .int .i64 0, .string ⟨#[]⟩, .int .u64 0, .slice none 0 0] 27)
  have HB := Lib.hid b0
  have R := newQ w (.cells #[.int .i64 0, .int .i64 0, .bool false, .string ⟨#[]⟩, .int .i64 0, .int .i64 0, .int .i64 0, .string ⟨#[]⟩, .int .u64 0, .slice none 0 0] 27)
  replace R := Lib.hid R
  clear b0
  go_enter Try.func18, Try.ntmps18
  go_wp2_with fail
  refine (open_eqF s hl HT _).mono ?_
  rintro e w2 ⟨rfl, b2⟩
  replace R := Lib.hid (upQ R.out b2)
  replace HB := Lib.hid (below2Z HB.out b2)
  clear b2
  go_wp2_with fail
  have hRl := (Array.getElem?_eq_some_iff.1 R.out).1
  refine (take_f t htl HE HG HK _).mono ?_
  rintro e w3 ⟨v, rfl, hov, b3⟩
  replace R := Lib.hid (upQ R.out b3)
  replace HB := Lib.hid (below2Z HB.out b3)
  obtain ⟨va, vc, rfl, -⟩ := Tab.open' (OwnR.tab hov)
  have V := Lib.hid (OwnR.mono hov (Nat.succ_le_of_lt hRl))
  clear hov hRl
  clear b3
  obtain ⟨⟨Rc0, Rc1, Rc2, Rc3, Rc4, Rc5, Rc6, Rc7, Rc8, Rc9⟩, ⟨Rf0, Rf1, Rf2, Rf3, Rf4, Rf5, Rf6, Rf7, Rf8, Rf9⟩⟩ := blk10 R.out
  have hR := (Array.getElem?_eq_some_iff.1 R.out).1
  go_wp2_with fail
  refine bodyPost_ret (v := .tuple #[.agg #[.int .i64 0, .int .i64 0, .bool false, .string ⟨#[]⟩, .int .i64 0, .int .i64 0, .int .i64 0, .string ⟨#[]⟩, .int .u64 0, .slice none 0 0], .int .i64 3]) (by simp [results, Try.results18, go_sem, Rc0, Rc1, Rc2, Rc3, Rc4, Rc5, Rc6, Rc7, Rc8, Rc9, World.cell?_alloc_lt, hR]) rfl ⟨_, rfl, ownR_nil _ _, ?_⟩
  exact (((((((((((HB.out.setCell (Nat.le_refl _) _).setCell (Nat.le_refl _) _).setCell (Nat.le_refl _) _).setCell (Nat.le_refl _) _).setCell (Nat.le_refl _) _).setCell (Nat.le_refl _) _).setCell (Nat.le_refl _) _).setCell (Nat.le_refl _) _).setCell (Nat.le_refl _) _).setCell (Nat.le_refl _) _)).alloc (by simp only [setCell_size]; exact HB.out.size) _

set_option maxHeartbeats 1600000 in
set_option maxRecDepth 100000 in
theorem frdec_no (s : List UInt8) (hl : s.length ≤ 4294967296) {t : List UInt8} (HT : Hid (copen s = (t, 0))) (htl : t.length ≤ 4294967296) {og : Option Frm} {k q sh pr si : Int} {on : Bool} {c st : List UInt8} {sum : Nat} {tt : List Row} {k0 q0 : Int} (HE : Hid (tkAll t = (og, k, q))) (HG : Hid (og.getD Frm.zero = ⟨k0, q0, on, c, ⟨sh, pr, si, st⟩, sum, tt⟩)) (HK : Hid (og.isSome = true)) (HSH : Hid (Short tt)) (hc : c.length ≤ 4294967296) (hst : st.length ≤ 4294967296) (HM : Hid (frMay ⟨k, q, on, c, ⟨sh, pr, si, st⟩, sum, tt⟩ = false)) (w : World) :
    Calls Try.prog 18 #[.string ⟨s.toArray⟩] w fun e w' => ∃ v, e = .returned (.tuple #[.agg #[.int .i64 0, .int .i64 0, .bool false, .string ⟨#[]⟩, .int .i64 0, .int .i64 0, .int .i64 0, .string ⟨#[]⟩, .int .u64 0, v], .int .i64 3]) ∧ OwnR w' w.heap.size v [] ∧ Below w.heap.size w w' := by
  have b0 := bl_newZ w (.cells #[.int .i64 0, .int .i64 0, .bool false, .string ⟨#[]⟩, .int .i64 0, .int .i64 0, .int .i64 0, .string ⟨#[]⟩, .int .u64 0, .slice none 0 0] 27)
  have HB := Lib.hid b0
  have R := newQ w (.cells #[.int .i64 0, .int .i64 0, .bool false, .string ⟨#[]⟩, .int .i64 0, .int .i64 0, .int .i64 0, .string ⟨#[]⟩, .int .u64 0, .slice none 0 0] 27)
  replace R := Lib.hid R
  clear b0
  go_enter Try.func18, Try.ntmps18
  go_wp2_with fail
  refine (open_eqF s hl HT _).mono ?_
  rintro e w2 ⟨rfl, b2⟩
  replace R := Lib.hid (upQ R.out b2)
  replace HB := Lib.hid (below2Z HB.out b2)
  clear b2
  go_wp2_with fail
  have hRl := (Array.getElem?_eq_some_iff.1 R.out).1
  refine (take_f t htl HE HG HK _).mono ?_
  rintro e w3 ⟨v, rfl, hov, b3⟩
  replace R := Lib.hid (upQ R.out b3)
  replace HB := Lib.hid (below2Z HB.out b3)
  obtain ⟨va, vc, rfl, -⟩ := Tab.open' (OwnR.tab hov)
  have V := Lib.hid (OwnR.mono hov (Nat.succ_le_of_lt hRl))
  clear hov hRl
  clear b3
  go_wp2_with fail
  have b4 := bl_newZ w3 (.cells #[.int .i64 k, .int .i64 q, .bool on, .string ⟨c.toArray⟩, .int .i64 sh, .int .i64 pr, .int .i64 si, .string ⟨st.toArray⟩, .int .u64 sum, .slice va tt.length vc] 27)
  have E := newQ w3 (.cells #[.int .i64 k, .int .i64 q, .bool on, .string ⟨c.toArray⟩, .int .i64 sh, .int .i64 pr, .int .i64 si, .string ⟨st.toArray⟩, .int .u64 sum, .slice va tt.length vc] 27)
  have hE : w.heap.size ≤ w3.heap.size := HB.out.size
  replace R := Lib.hid (upQ R.out b4)
  replace V := Lib.hid (OwnR.later V.out b4)
  replace HB := Lib.hid (below2Z HB.out b4)
  clear b4
  replace E := Lib.hid E
  generalize w3.alloc (.cells #[.int .i64 k, .int .i64 q, .bool on, .string ⟨c.toArray⟩, .int .i64 sh, .int .i64 pr, .int .i64 si, .string ⟨st.toArray⟩, .int .u64 sum, .slice va tt.length vc] 27) = w5 at R E V HB ⊢
  generalize w3.heap.size = BE at E hE ⊢
  obtain ⟨⟨Ec0, Ec1, Ec2, Ec3, Ec4, Ec5, Ec6, Ec7, Ec8, Ec9⟩, ⟨Ef0, Ef1, Ef2, Ef3, Ef4, Ef5, Ef6, Ef7, Ef8, Ef9⟩⟩ := blk10 E.out
  go_wp2_with fail
  clear Ec0 Ec1 Ec2 Ec3 Ec4 Ec5 Ec6 Ec7 Ec8 Ec9 Ef0 Ef1 Ef2 Ef3 Ef4 Ef5 Ef6 Ef7 Ef8 Ef9
  refine (frmay_eqF (OwnR.tab V.out) HSH.out hc hst HM).mono ?_
  rintro e w6 ⟨rfl, b6⟩
  replace R := Lib.hid (upQ R.out b6)
  replace E := Lib.hid (upQ E.out b6)
  replace V := Lib.hid (OwnR.later V.out b6)
  replace HB := Lib.hid (below2Z HB.out b6)
  clear b6
  obtain ⟨⟨Rc0, Rc1, Rc2, Rc3, Rc4, Rc5, Rc6, Rc7, Rc8, Rc9⟩, ⟨Rf0, Rf1, Rf2, Rf3, Rf4, Rf5, Rf6, Rf7, Rf8, Rf9⟩⟩ := blk10 R.out
  go_wp2_with fail
  refine bodyPost_ret (v := .tuple #[.agg #[.int .i64 0, .int .i64 0, .bool false, .string ⟨#[]⟩, .int .i64 0, .int .i64 0, .int .i64 0, .string ⟨#[]⟩, .int .u64 0, .slice none 0 0], .int .i64 3]) (by simp [results, Try.results18, go_sem, Rc0, Rc1, Rc2, Rc3, Rc4, Rc5, Rc6, Rc7, Rc8, Rc9]) rfl ⟨_, rfl, ownR_nil _ _, ?_⟩
  exact ((((((((((HB.out.setCell (Nat.le_refl _) _).setCell (Nat.le_refl _) _).setCell (Nat.le_refl _) _).setCell (Nat.le_refl _) _).setCell (Nat.le_refl _) _).setCell (Nat.le_refl _) _).setCell (Nat.le_refl _) _).setCell (Nat.le_refl _) _).setCell (Nat.le_refl _) _).setCell (Nat.le_refl _) _)

set_option maxHeartbeats 1600000 in
set_option maxRecDepth 100000 in
theorem frdec_dif (s : List UInt8) (hl : s.length ≤ 4294967296) {t : List UInt8} (HT : Hid (copen s = (t, 0))) (htl : t.length ≤ 4294967296) {og : Option Frm} {k q sh pr si : Int} {on : Bool} {c st : List UInt8} {sum : Nat} {tt : List Row} {k0 q0 : Int} (HE : Hid (tkAll t = (og, k, q))) (HG : Hid (og.getD Frm.zero = ⟨k0, q0, on, c, ⟨sh, pr, si, st⟩, sum, tt⟩)) (HK : Hid (og.isSome = true)) (HSH : Hid (Short tt)) (hc : c.length ≤ 4294967296) (hst : st.length ≤ 4294967296) (hsum : sum < 18446744073709551616) (HM : Hid (frMay ⟨k, q, on, c, ⟨sh, pr, si, st⟩, sum, tt⟩ = true)) {p : List UInt8} (HP : Hid (frPlain ⟨k, q, on, c, ⟨sh, pr, si, st⟩, sum, tt⟩ = p)) (T1 : Hid ((p == t) = false)) (w : World) :
    Calls Try.prog 18 #[.string ⟨s.toArray⟩] w fun e w' => ∃ v, e = .returned (.tuple #[.agg #[.int .i64 0, .int .i64 0, .bool false, .string ⟨#[]⟩, .int .i64 0, .int .i64 0, .int .i64 0, .string ⟨#[]⟩, .int .u64 0, v], .int .i64 3]) ∧ OwnR w' w.heap.size v [] ∧ Below w.heap.size w w' := by
  have b0 := bl_newZ w (.cells #[.int .i64 0, .int .i64 0, .bool false, .string ⟨#[]⟩, .int .i64 0, .int .i64 0, .int .i64 0, .string ⟨#[]⟩, .int .u64 0, .slice none 0 0] 27)
  have HB := Lib.hid b0
  have R := newQ w (.cells #[.int .i64 0, .int .i64 0, .bool false, .string ⟨#[]⟩, .int .i64 0, .int .i64 0, .int .i64 0, .string ⟨#[]⟩, .int .u64 0, .slice none 0 0] 27)
  replace R := Lib.hid R
  clear b0
  go_enter Try.func18, Try.ntmps18
  go_wp2_with fail
  refine (open_eqF s hl HT _).mono ?_
  rintro e w2 ⟨rfl, b2⟩
  replace R := Lib.hid (upQ R.out b2)
  replace HB := Lib.hid (below2Z HB.out b2)
  clear b2
  go_wp2_with fail
  have hRl := (Array.getElem?_eq_some_iff.1 R.out).1
  refine (take_f t htl HE HG HK _).mono ?_
  rintro e w3 ⟨v, rfl, hov, b3⟩
  replace R := Lib.hid (upQ R.out b3)
  replace HB := Lib.hid (below2Z HB.out b3)
  obtain ⟨va, vc, rfl, -⟩ := Tab.open' (OwnR.tab hov)
  have V := Lib.hid (OwnR.mono hov (Nat.succ_le_of_lt hRl))
  clear hov hRl
  clear b3
  go_wp2_with fail
  have b4 := bl_newZ w3 (.cells #[.int .i64 k, .int .i64 q, .bool on, .string ⟨c.toArray⟩, .int .i64 sh, .int .i64 pr, .int .i64 si, .string ⟨st.toArray⟩, .int .u64 sum, .slice va tt.length vc] 27)
  have E := newQ w3 (.cells #[.int .i64 k, .int .i64 q, .bool on, .string ⟨c.toArray⟩, .int .i64 sh, .int .i64 pr, .int .i64 si, .string ⟨st.toArray⟩, .int .u64 sum, .slice va tt.length vc] 27)
  have hE : w.heap.size ≤ w3.heap.size := HB.out.size
  replace R := Lib.hid (upQ R.out b4)
  replace V := Lib.hid (OwnR.later V.out b4)
  replace HB := Lib.hid (below2Z HB.out b4)
  clear b4
  replace E := Lib.hid E
  generalize w3.alloc (.cells #[.int .i64 k, .int .i64 q, .bool on, .string ⟨c.toArray⟩, .int .i64 sh, .int .i64 pr, .int .i64 si, .string ⟨st.toArray⟩, .int .u64 sum, .slice va tt.length vc] 27) = w5 at R E V HB ⊢
  generalize w3.heap.size = BE at E hE ⊢
  obtain ⟨⟨Ec0, Ec1, Ec2, Ec3, Ec4, Ec5, Ec6, Ec7, Ec8, Ec9⟩, ⟨Ef0, Ef1, Ef2, Ef3, Ef4, Ef5, Ef6, Ef7, Ef8, Ef9⟩⟩ := blk10 E.out
  go_wp2_with fail
  clear Ec0 Ec1 Ec2 Ec3 Ec4 Ec5 Ec6 Ec7 Ec8 Ec9 Ef0 Ef1 Ef2 Ef3 Ef4 Ef5 Ef6 Ef7 Ef8 Ef9
  refine (frmay_eqF (OwnR.tab V.out) HSH.out hc hst HM).mono ?_
  rintro e w6 ⟨rfl, b6⟩
  replace R := Lib.hid (upQ R.out b6)
  replace E := Lib.hid (upQ E.out b6)
  replace V := Lib.hid (OwnR.later V.out b6)
  replace HB := Lib.hid (below2Z HB.out b6)
  clear b6
  obtain ⟨⟨Ec0, Ec1, Ec2, Ec3, Ec4, Ec5, Ec6, Ec7, Ec8, Ec9⟩, ⟨Ef0, Ef1, Ef2, Ef3, Ef4, Ef5, Ef6, Ef7, Ef8, Ef9⟩⟩ := blk10 E.out
  go_wp2_with fail
  clear Ec0 Ec1 Ec2 Ec3 Ec4 Ec5 Ec6 Ec7 Ec8 Ec9 Ef0 Ef1 Ef2 Ef3 Ef4 Ef5 Ef6 Ef7 Ef8 Ef9
  refine (frput_eqF (OwnR.tab V.out) HSH.out hsum HM HP).mono ?_
  rintro e w7 ⟨rfl, b7⟩
  replace R := Lib.hid (upQ R.out b7)
  replace E := Lib.hid (upQ E.out b7)
  replace V := Lib.hid (OwnR.later V.out b7)
  replace HB := Lib.hid (below2Z HB.out b7)
  clear b7
  obtain ⟨⟨Rc0, Rc1, Rc2, Rc3, Rc4, Rc5, Rc6, Rc7, Rc8, Rc9⟩, ⟨Rf0, Rf1, Rf2, Rf3, Rf4, Rf5, Rf6, Rf7, Rf8, Rf9⟩⟩ := blk10 R.out
  have t1 := T1.out
  go_wp2_with fail
  refine bodyPost_ret (v := .tuple #[.agg #[.int .i64 0, .int .i64 0, .bool false, .string ⟨#[]⟩, .int .i64 0, .int .i64 0, .int .i64 0, .string ⟨#[]⟩, .int .u64 0, .slice none 0 0], .int .i64 3]) (by simp [results, Try.results18, go_sem, Rc0, Rc1, Rc2, Rc3, Rc4, Rc5, Rc6, Rc7, Rc8, Rc9]) rfl ⟨_, rfl, ownR_nil _ _, ?_⟩
  exact ((((((((((HB.out.setCell (Nat.le_refl _) _).setCell (Nat.le_refl _) _).setCell (Nat.le_refl _) _).setCell (Nat.le_refl _) _).setCell (Nat.le_refl _) _).setCell (Nat.le_refl _) _).setCell (Nat.le_refl _) _).setCell (Nat.le_refl _) _).setCell (Nat.le_refl _) _).setCell (Nat.le_refl _) _)

set_option maxHeartbeats 1600000 in
set_option maxRecDepth 100000 in
theorem frdec_ok (s : List UInt8) (hl : s.length ≤ 4294967296) {t : List UInt8} (HT : Hid (copen s = (t, 0))) (htl : t.length ≤ 4294967296) {og : Option Frm} {k q sh pr si : Int} {on : Bool} {c st : List UInt8} {sum : Nat} {tt : List Row} {k0 q0 : Int} (HE : Hid (tkAll t = (og, k, q))) (HG : Hid (og.getD Frm.zero = ⟨k0, q0, on, c, ⟨sh, pr, si, st⟩, sum, tt⟩)) (HK : Hid (og.isSome = true)) (HSH : Hid (Short tt)) (hc : c.length ≤ 4294967296) (hst : st.length ≤ 4294967296) (hsum : sum < 18446744073709551616) (HM : Hid (frMay ⟨k, q, on, c, ⟨sh, pr, si, st⟩, sum, tt⟩ = true)) (HP : Hid (frPlain ⟨k, q, on, c, ⟨sh, pr, si, st⟩, sum, tt⟩ = t)) (w : World) :
    Calls Try.prog 18 #[.string ⟨s.toArray⟩] w fun e w' => ∃ v, e = .returned (.tuple #[.agg #[.int .i64 k, .int .i64 q, .bool on, .string ⟨c.toArray⟩, .int .i64 sh, .int .i64 pr, .int .i64 si, .string ⟨st.toArray⟩, .int .u64 sum, v], .int .i64 0]) ∧ OwnR w' w.heap.size v tt ∧ Below w.heap.size w w' := by
  have b0 := bl_newZ w (.cells #[.int .i64 0, .int .i64 0, .bool false, .string ⟨#[]⟩, .int .i64 0, .int .i64 0, .int .i64 0, .string ⟨#[]⟩, .int .u64 0, .slice none 0 0] 27)
  have HB := Lib.hid b0
  have R := newQ w (.cells #[.int .i64 0, .int .i64 0, .bool false, .string ⟨#[]⟩, .int .i64 0, .int .i64 0, .int .i64 0, .string ⟨#[]⟩, .int .u64 0, .slice none 0 0] 27)
  replace R := Lib.hid R
  clear b0
  go_enter Try.func18, Try.ntmps18
  go_wp2_with fail
  refine (open_eqF s hl HT _).mono ?_
  rintro e w2 ⟨rfl, b2⟩
  replace R := Lib.hid (upQ R.out b2)
  replace HB := Lib.hid (below2Z HB.out b2)
  clear b2
  go_wp2_with fail
  have hRl := (Array.getElem?_eq_some_iff.1 R.out).1
  refine (take_f t htl HE HG HK _).mono ?_
  rintro e w3 ⟨v, rfl, hov, b3⟩
  replace R := Lib.hid (upQ R.out b3)
  replace HB := Lib.hid (below2Z HB.out b3)
  obtain ⟨va, vc, rfl, -⟩ := Tab.open' (OwnR.tab hov)
  have V := Lib.hid (OwnR.mono hov (Nat.succ_le_of_lt hRl))
  clear hov hRl
  clear b3
  go_wp2_with fail
  have b4 := bl_newZ w3 (.cells #[.int .i64 k, .int .i64 q, .bool on, .string ⟨c.toArray⟩, .int .i64 sh, .int .i64 pr, .int .i64 si, .string ⟨st.toArray⟩, .int .u64 sum, .slice va tt.length vc] 27)
  have E := newQ w3 (.cells #[.int .i64 k, .int .i64 q, .bool on, .string ⟨c.toArray⟩, .int .i64 sh, .int .i64 pr, .int .i64 si, .string ⟨st.toArray⟩, .int .u64 sum, .slice va tt.length vc] 27)
  have hE : w.heap.size ≤ w3.heap.size := HB.out.size
  replace R := Lib.hid (upQ R.out b4)
  replace V := Lib.hid (OwnR.later V.out b4)
  replace HB := Lib.hid (below2Z HB.out b4)
  clear b4
  replace E := Lib.hid E
  generalize w3.alloc (.cells #[.int .i64 k, .int .i64 q, .bool on, .string ⟨c.toArray⟩, .int .i64 sh, .int .i64 pr, .int .i64 si, .string ⟨st.toArray⟩, .int .u64 sum, .slice va tt.length vc] 27) = w5 at R E V HB ⊢
  generalize w3.heap.size = BE at E hE ⊢
  obtain ⟨⟨Ec0, Ec1, Ec2, Ec3, Ec4, Ec5, Ec6, Ec7, Ec8, Ec9⟩, ⟨Ef0, Ef1, Ef2, Ef3, Ef4, Ef5, Ef6, Ef7, Ef8, Ef9⟩⟩ := blk10 E.out
  go_wp2_with fail
  clear Ec0 Ec1 Ec2 Ec3 Ec4 Ec5 Ec6 Ec7 Ec8 Ec9 Ef0 Ef1 Ef2 Ef3 Ef4 Ef5 Ef6 Ef7 Ef8 Ef9
  refine (frmay_eqF (OwnR.tab V.out) HSH.out hc hst HM).mono ?_
  rintro e w6 ⟨rfl, b6⟩
  replace R := Lib.hid (upQ R.out b6)
  replace E := Lib.hid (upQ E.out b6)
  replace V := Lib.hid (OwnR.later V.out b6)
  replace HB := Lib.hid (below2Z HB.out b6)
  clear b6
  obtain ⟨⟨Ec0, Ec1, Ec2, Ec3, Ec4, Ec5, Ec6, Ec7, Ec8, Ec9⟩, ⟨Ef0, Ef1, Ef2, Ef3, Ef4, Ef5, Ef6, Ef7, Ef8, Ef9⟩⟩ := blk10 E.out
  go_wp2_with fail
  clear Ec0 Ec1 Ec2 Ec3 Ec4 Ec5 Ec6 Ec7 Ec8 Ec9 Ef0 Ef1 Ef2 Ef3 Ef4 Ef5 Ef6 Ef7 Ef8 Ef9
  refine (frput_eqF (OwnR.tab V.out) HSH.out hsum HM HP).mono ?_
  rintro e w7 ⟨rfl, b7⟩
  replace R := Lib.hid (upQ R.out b7)
  replace E := Lib.hid (upQ E.out b7)
  replace V := Lib.hid (OwnR.later V.out b7)
  replace HB := Lib.hid (below2Z HB.out b7)
  clear b7
  obtain ⟨⟨Rc0, Rc1, Rc2, Rc3, Rc4, Rc5, Rc6, Rc7, Rc8, Rc9⟩, ⟨Rf0, Rf1, Rf2, Rf3, Rf4, Rf5, Rf6, Rf7, Rf8, Rf9⟩⟩ := blk10 R.out
  obtain ⟨⟨Ec0, Ec1, Ec2, Ec3, Ec4, Ec5, Ec6, Ec7, Ec8, Ec9⟩, ⟨Ef0, Ef1, Ef2, Ef3, Ef4, Ef5, Ef6, Ef7, Ef8, Ef9⟩⟩ := blk10 E.out
  go_wp2_with fail
  refine bodyPost_ret (v := .tuple #[.agg #[.int .i64 k, .int .i64 q, .bool on, .string ⟨c.toArray⟩, .int .i64 sh, .int .i64 pr, .int .i64 si, .string ⟨st.toArray⟩, .int .u64 sum, .slice va tt.length vc], .int .i64 0]) (by simp [results, Try.results18, go_sem, Rc0, Rc1, Rc2, Rc3, Rc4, Rc5, Rc6, Rc7, Rc8, Rc9]) rfl ⟨_, rfl, OwnR.mono ((((((((((V.out.setCell (Nat.lt_succ_self _) _).setCell (Nat.lt_succ_self _) _).setCell (Nat.lt_succ_self _) _).setCell (Nat.lt_succ_self _) _).setCell (Nat.lt_succ_self _) _).setCell (Nat.lt_succ_self _) _).setCell (Nat.lt_succ_self _) _).setCell (Nat.lt_succ_self _) _).setCell (Nat.lt_succ_self _) _).setCell (Nat.lt_succ_self _) _) (Nat.le_succ _), ?_⟩
  exact ((((((((((HB.out.setCell (Nat.le_refl _) _).setCell (Nat.le_refl _) _).setCell (Nat.le_refl _) _).setCell (Nat.le_refl _) _).setCell (Nat.le_refl _) _).setCell (Nat.le_refl _) _).setCell (Nat.le_refl _) _).setCell (Nat.le_refl _) _).setCell (Nat.le_refl _) _).setCell (Nat.le_refl _) _)

/-- P6.3, the code's Decode. -/
theorem frdec_any (s : List UInt8) (hl : s.length ≤ 4294967296) {k q sh pr si : Int} {on : Bool} {c st : List UInt8} {sum : Nat} {tt : List Row} {er : Nat} (h : Hid (frDec s = (⟨k, q, on, c, ⟨sh, pr, si, st⟩, sum, tt⟩, er))) (w : World) :
    Calls Try.prog 18 #[.string ⟨s.toArray⟩] w fun e w' => ∃ v, e = .returned (.tuple #[.agg #[.int .i64 k, .int .i64 q, .bool on, .string ⟨c.toArray⟩, .int .i64 sh, .int .i64 pr, .int .i64 si, .string ⟨st.toArray⟩, .int .u64 sum, v], .int .i64 er]) ∧ OwnR w' w.heap.size v tt ∧ Below w.heap.size w w' := by
  have e := h.out
  obtain ⟨t, er0, ht⟩ : ∃ t er, copen s = (t, er) := ⟨_, _, rfl⟩
  have htl := copen_lenF ht
  by_cases he : er0 = 0
  case neg =>
    unfold frDec at e
    rw [ht, if_pos (by simpa using he)] at e
    simp only [Frm.zero, Val.zero, Prod.mk.injEq, Frm.mk.injEq, Val.mk.injEq] at e
    obtain ⟨⟨rfl, rfl, rfl, rfl, ⟨rfl, rfl, rfl, rfl⟩, rfl, rfl⟩, rfl⟩ := e
    exact frdec_err s hl (Lib.hid ht) he w
  subst he
  obtain ⟨og, k1, q1, htk⟩ : ∃ og k q, tkAll t = (og, k, q) := ⟨_, _, _, rfl⟩
  have hd := frDec_tk ht htk
  have hs := tkAll_short (by omega) htk
  cases og with
  | none =>
    rw [hd.1 rfl] at e
    simp only [Frm.zero, Val.zero, Prod.mk.injEq, Frm.mk.injEq, Val.mk.injEq] at e
    obtain ⟨⟨rfl, rfl, rfl, rfl, ⟨rfl, rfl, rfl, rfl⟩, rfl, rfl⟩, rfl⟩ := e
    exact frdec_cut s hl (Lib.hid ht) (by omega) (Lib.hid htk) (Lib.hid rfl) (Lib.hid rfl) w
  | some g =>
    rw [hd.2 g rfl] at e
    obtain ⟨k0, q0, on0, c0, ⟨sh0, pr0, si0, st0⟩, sum0, t0⟩ := g
    simp only at e
    obtain ⟨s1, s2, s3, s4⟩ := hs
    simp only [Option.getD_some] at s1 s2 s3 s4
    cases hm : frMay ⟨k1, q1, on0, c0, ⟨sh0, pr0, si0, st0⟩, sum0, t0⟩ with
    | false =>
      rw [if_neg (by simp [hm])] at e
      simp only [Frm.zero, Val.zero, Prod.mk.injEq, Frm.mk.injEq, Val.mk.injEq] at e
      obtain ⟨⟨rfl, rfl, rfl, rfl, ⟨rfl, rfl, rfl, rfl⟩, rfl, rfl⟩, rfl⟩ := e
      exact frdec_no s hl (Lib.hid ht) (by omega) (Lib.hid htk) (Lib.hid rfl) (Lib.hid rfl) (Lib.hid s3) s1 s2 (Lib.hid hm) w
    | true =>
      by_cases hp : frPlain ⟨k1, q1, on0, c0, ⟨sh0, pr0, si0, st0⟩, sum0, t0⟩ = t
      · rw [if_pos ⟨hm, hp⟩] at e
        simp only [Prod.mk.injEq, Frm.mk.injEq, Val.mk.injEq] at e
        obtain ⟨⟨rfl, rfl, rfl, rfl, ⟨rfl, rfl, rfl, rfl⟩, rfl, rfl⟩, rfl⟩ := e
        exact frdec_ok s hl (Lib.hid ht) (by omega) (Lib.hid htk) (Lib.hid rfl) (Lib.hid rfl) (Lib.hid s3) s1 s2 s4 (Lib.hid hm) (Lib.hid hp) w
      · rw [if_neg (fun h => hp h.2)] at e
        simp only [Frm.zero, Val.zero, Prod.mk.injEq, Frm.mk.injEq, Val.mk.injEq] at e
        obtain ⟨⟨rfl, rfl, rfl, rfl, ⟨rfl, rfl, rfl, rfl⟩, rfl, rfl⟩, rfl⟩ := e
        exact frdec_dif s hl (Lib.hid ht) (by omega) (Lib.hid htk) (Lib.hid rfl) (Lib.hid rfl) (Lib.hid s3) s1 s2 s4 (Lib.hid hm) (Lib.hid rfl) (Lib.hid (by rw [beq_eq_false_iff_ne]; exact hp)) w

end Go.Proofs.Ytohfhphiofobcaa

end

section

/-
  LAYER 6, THE DOCUMENT: Same.
-/
namespace Go.Proofs.Ytohfhphiofobcaa
open Go.RowKit

/-- Each field is the same. -/
def frSame (f g : Frm) : Bool := (f.k == g.k) && ((f.s == g.s) && ((f.on == g.on) && ((f.c == g.c) && (vSame f.v g.v && ((f.sum == g.sum) && tSame f.t g.t)))))

theorem frSame_iff {f g : Frm} : frSame f g = true ↔ f = g := by
  obtain ⟨k, s, on, c, v, sum, t⟩ := f
  obtain ⟨k2, s2, on2, c2, v2, sum2, t2⟩ := g
  unfold frSame
  simp only [Bool.and_eq_true, beq_iff_eq, vSame_iff, tSame_iff, Frm.mk.injEq]

set_option maxHeartbeats 3200000 in
set_option maxRecDepth 100000 in
theorem rfrsame_any {w : World} {v v2 : Value} {t t2 : List Row} (hv : Tab w v t) (hv2 : Tab w v2 t2) (k s : Int) (on : Bool) (c : List UInt8) (sh pr si : Int) (st : List UInt8) (sum : Nat) (k2 s2 : Int) (on2 : Bool) (c2 : List UInt8) (sh2 pr2 si2 : Int) (st2 : List UInt8) (sum2 : Nat) :
    Calls Try.prog 17 #[.agg #[.int .i64 k, .int .i64 s, .bool on, .string ⟨c.toArray⟩, .int .i64 sh, .int .i64 pr, .int .i64 si, .string ⟨st.toArray⟩, .int .u64 sum, v], .agg #[.int .i64 k2, .int .i64 s2, .bool on2, .string ⟨c2.toArray⟩, .int .i64 sh2, .int .i64 pr2, .int .i64 si2, .string ⟨st2.toArray⟩, .int .u64 sum2, v2]] w fun e w' => e = .returned (.bool (frSame ⟨k, s, on, c, ⟨sh, pr, si, st⟩, sum, t⟩ ⟨k2, s2, on2, c2, ⟨sh2, pr2, si2, st2⟩, sum2, t2⟩)) ∧ Below w.heap.size w w' := by
  have B0 : Hid (Below w.heap.size w ((w.alloc (.cells #[.int .i64 k, .int .i64 s, .bool on, .string ⟨c.toArray⟩, .int .i64 sh, .int .i64 pr, .int .i64 si, .string ⟨st.toArray⟩, .int .u64 sum, v] 27)).alloc (.cells #[.int .i64 k2, .int .i64 s2, .bool on2, .string ⟨c2.toArray⟩, .int .i64 sh2, .int .i64 pr2, .int .i64 si2, .string ⟨st2.toArray⟩, .int .u64 sum2, v2] 27))) := Lib.hid (((Below.refl _ _).alloc (Nat.le_refl _) _).alloc (by simp) _)
  have HT := Lib.hid (tsame_any (hv.later B0.out) (hv2.later B0.out))
  have hq := fun w => val_eql5 sh pr si sh2 pr2 si2 st st2 w
  have hgd : Try.prog.eqGuardType Try.prog.depth 23 = false := by kernel_rfl
  unfold frSame
  simp only
  obtain ⟨m, hm⟩ : ∃ m, vSame ⟨sh, pr, si, st⟩ ⟨sh2, pr2, si2, st2⟩ = m := ⟨_, rfl⟩
  obtain ⟨z, hz⟩ : ∃ z, tSame t t2 = z := ⟨_, rfl⟩
  rw [hm, hz]
  rw [hz] at HT
  simp only [hm] at hq
  obtain ⟨a, cap, rfl, _⟩ := hv.open'
  obtain ⟨a2, cap2, rfl, _⟩ := hv2.open'
  clear hm hz hv hv2
  by_cases hk : k = k2
  · subst hk
    rw [show (k == k) = true from beq_self_eq_true _]
    simp only [Bool.true_and]
    by_cases hs : s = s2
    · subst hs
      rw [show (s == s) = true from beq_self_eq_true _]
      simp only [Bool.true_and]
      by_cases hon : on = on2
      · subst hon
        rw [show (on == on) = true from beq_self_eq_true _]
        simp only [Bool.true_and]
        by_cases hc : c = c2
        · subst hc
          rw [show (c == c) = true from beq_self_eq_true _]
          simp only [Bool.true_and]
          cases m with
          | false =>
            simp only [Bool.false_and]
            go_enter Try.func17, Try.ntmps17
            go_wp2_with fail
            go_ret
            exact ⟨rfl, B0.out⟩
          | true =>
            simp only [Bool.true_and]
            by_cases hsum : sum = sum2
            · rw [show (sum == sum2) = true by rw [beq_iff_eq]; exact hsum]
              have tsum : ((sum : Int) == (sum2 : Int)) = true := by rw [beq_iff_eq]; omega
              clear hsum
              simp only [Bool.true_and]
              go_enter Try.func17, Try.ntmps17
              go_wp2_with fail
              refine HT.out.mono ?_
              rintro e w1 ⟨rfl, b⟩
              have B1 := Lib.hid (below2' B0.out b)
              clear b
              go_wp2_with fail
              go_ret
              exact ⟨rfl, B1.out⟩
            · have tsum : ((sum : Int) == (sum2 : Int)) = false := by rw [beq_eq_false_iff_ne]; omega
              rw [show (sum == sum2) = false by rw [beq_eq_false_iff_ne]; exact hsum]
              simp only [Bool.false_and]
              clear hsum
              go_enter Try.func17, Try.ntmps17
              go_wp2_with fail
              go_ret
              exact ⟨rfl, B0.out⟩
        · have tc : (c == c2) = false := by rw [beq_eq_false_iff_ne]; exact hc
          rw [show (c == c2) = false by rw [beq_eq_false_iff_ne]; exact hc]
          simp only [Bool.false_and]
          clear hc
          go_enter Try.func17, Try.ntmps17
          go_wp2_with fail
          go_ret
          exact ⟨rfl, B0.out⟩
      · have ton : (on == on2) = false := by rw [beq_eq_false_iff_ne]; exact hon
        rw [show (on == on2) = false by rw [beq_eq_false_iff_ne]; exact hon]
        simp only [Bool.false_and]
        clear hon
        go_enter Try.func17, Try.ntmps17
        go_wp2_with fail
        go_ret
        exact ⟨rfl, B0.out⟩
    · have ts : (s == s2) = false := by rw [beq_eq_false_iff_ne]; exact hs
      rw [show (s == s2) = false by rw [beq_eq_false_iff_ne]; exact hs]
      simp only [Bool.false_and]
      clear hs
      go_enter Try.func17, Try.ntmps17
      go_wp2_with fail
      go_ret
      exact ⟨rfl, B0.out⟩
  · have tk : (k == k2) = false := by rw [beq_eq_false_iff_ne]; exact hk
    rw [show (k == k2) = false by rw [beq_eq_false_iff_ne]; exact hk]
    simp only [Bool.false_and]
    clear hk
    go_enter Try.func17, Try.ntmps17
    go_wp2_with fail
    go_ret
    exact ⟨rfl, B0.out⟩

end Go.Proofs.Ytohfhphiofobcaa

end

section

/-
  LAYER 6, THE CODE: slices.Equal on tables; the contract of frame.Same.
-/
namespace Go.Proofs.Ytohfhphiofobcaa
open Go.RowKit

set_option maxHeartbeats 800000 in
set_option maxRecDepth 100000 in
theorem sequal_any {w : World} {v u : Value} {t s : List Row} (hv : Tab w v t) (hu : Tab w u s) :
    Calls Try.prog 42 #[v, u] w fun e w' => e = .returned (.bool (tSame t s)) ∧ Below w.heap.size w w' := by
  have HV := Lib.hid hv
  have HU := Lib.hid hu
  obtain ⟨a, cap, rfl, hm⟩ := hv.open'
  obtain ⟨a2, cap2, rfl, hm2⟩ := hu.open'
  clear hv hu
  by_cases hl : t.length = s.length
  · have HL := Lib.hid hl
    have t1 : ((t.length : Int) != (s.length : Int)) = false := by simp [hl]
    clear hl
    go_enter Try.func42, Try.ntmps42
    go_wp2_with fail
    go_loopw [13] (fun i wr => ∃ k : Nat, k ≤ t.length ∧ i = .int .i64 k ∧ Hid (Below w.heap.size w wr) ∧ Hid ((List.range k).all (fun i => rSame (t.getD i Row.zero) (s.getD i Row.zero)) = true)) (fun i _ => t.length - (intOf i).toNat)
    case atStart => exact ⟨0, by omega, rfl, Below.refl _ _, by show _ = _; simp⟩
    case round =>
      obtain ⟨k, hk, rfl, HN, HA⟩ := hrel
      by_cases hlt : k < t.length
      · obtain ⟨b, off, rfl, h0, h1, h2, h3, h4⟩ := HV.out.row HN.out k hlt
        obtain ⟨b2, off2, rfl, i0, i1, i2, i3, i4⟩ := HU.out.row HN.out k (by rw [← HL.out]; exact hlt)
        have hlt2 : k < s.length := by rw [← HL.out]; exact hlt
        obtain ⟨⟨c, ⟨x, y, z, st⟩⟩, hr⟩ : ∃ r, t.getD k Row.zero = r := ⟨_, rfl⟩
        obtain ⟨⟨c', ⟨x', y', z', st'⟩⟩, hr'⟩ : ∃ r, s.getD k Row.zero = r := ⟨_, rfl⟩
        rw [hr] at h0 h1 h2 h3 h4
        rw [hr'] at i0 i1 i2 i3 i4
        have hgd : Try.prog.eqGuardType Try.prog.depth 82 = false := by kernel_rfl
        have hne := row_neq5 c c' x y z x' y' z' st st'
        cases hs : rSame ⟨c, x, y, z, st⟩ ⟨c', x', y', z', st'⟩ with
        | false =>
          have HR : Hid (tSame t s = false) := by show _ = _; exact tSame_off hlt (by rw [hr, hr']; exact hs)
          rw [hs] at hne
          simp only at h0 h1 h2 h3 h4 i0 i1 i2 i3 i4
          clear hr hr' hs
          go_wp2_with fail
          go_region
          go_wp2_with fail
          go_ret
          exact ⟨by rw [HR.out]; rfl, HN.out.drew⟩
        | true =>
          have HA2 : Hid ((List.range (k + 1)).all (fun i => rSame (t.getD i Row.zero) (s.getD i Row.zero)) = true) := by show _ = _; exact tSame_next HA.out (by rw [hr, hr']; exact hs)
          rw [hs] at hne
          simp only at h0 h1 h2 h3 h4 i0 i1 i2 i3 i4
          clear hr hr' hs
          go_wp2_with fail
          go_region
          go_wp2_with fail
          go_roundw
          case rel => exact ⟨k + 1, by omega, by go_num, HN.out.drew, HA2⟩
          case measure => simp [intOf]; omega
      · obtain rfl : k = t.length := by omega
        have HR : Hid (tSame t s = true) := by show _ = _; exact tSame_on HL.out HA.out
        go_wp2_with fail
        go_ret
        exact ⟨by rw [HR.out]; rfl, HN.out⟩
  · have HR := Lib.hid (tSame_len hl)
    have t1 : ((t.length : Int) != (s.length : Int)) = true := by simp; omega
    clear hl
    go_enter Try.func42, Try.ntmps42
    go_wp2_with fail
    go_ret
    exact ⟨by rw [HR.out]; rfl, Below.refl _ _⟩

theorem cSame_parts (c c2 : List UInt8) (on on2 : Bool) (a b : Val) : cSame ⟨c, on, a⟩ ⟨c2, on2, b⟩ = ((on == on2) && ((c == c2) && vSame a b)) := by
  unfold cSame
  simp only
  cases (on == on2) <;> cases (c == c2) <;> rfl

set_option maxHeartbeats 3200000 in
set_option maxRecDepth 100000 in
theorem frsame_any {w : World} {v v2 : Value} {t t2 : List Row} (hv : Tab w v t) (hv2 : Tab w v2 t2) (k s : Int) (on : Bool) (c : List UInt8) (sh pr si : Int) (st : List UInt8) (sum : Nat) (k2 s2 : Int) (on2 : Bool) (c2 : List UInt8) (sh2 pr2 si2 : Int) (st2 : List UInt8) (sum2 : Nat) :
    Calls Try.prog 16 #[.agg #[.int .i64 k, .int .i64 s, .bool on, .string ⟨c.toArray⟩, .int .i64 sh, .int .i64 pr, .int .i64 si, .string ⟨st.toArray⟩, .int .u64 sum, v], .agg #[.int .i64 k2, .int .i64 s2, .bool on2, .string ⟨c2.toArray⟩, .int .i64 sh2, .int .i64 pr2, .int .i64 si2, .string ⟨st2.toArray⟩, .int .u64 sum2, v2]] w fun e w' => e = .returned (.bool (frSame ⟨k, s, on, c, ⟨sh, pr, si, st⟩, sum, t⟩ ⟨k2, s2, on2, c2, ⟨sh2, pr2, si2, st2⟩, sum2, t2⟩)) ∧ Below w.heap.size w w' := by
  have B0 : Hid (Below w.heap.size w ((w.alloc (.cells #[.int .i64 k, .int .i64 s, .bool on, .string ⟨c.toArray⟩, .int .i64 sh, .int .i64 pr, .int .i64 si, .string ⟨st.toArray⟩, .int .u64 sum, v] 27)).alloc (.cells #[.int .i64 k2, .int .i64 s2, .bool on2, .string ⟨c2.toArray⟩, .int .i64 sh2, .int .i64 pr2, .int .i64 si2, .string ⟨st2.toArray⟩, .int .u64 sum2, v2] 27))) := Lib.hid (((Below.refl _ _).alloc (Nat.le_refl _) _).alloc (by simp) _)
  obtain ⟨z, hz⟩ : ∃ z, tSame t t2 = z := ⟨_, rfl⟩
  have HT : Hid (∀ d os, Calls Try.prog 42 #[v, v2] (Sort.grow (redrawn ((w.alloc (.cells #[.int .i64 k, .int .i64 s, .bool on, .string ⟨c.toArray⟩, .int .i64 sh, .int .i64 pr, .int .i64 si, .string ⟨st.toArray⟩, .int .u64 sum, v] 27)).alloc (.cells #[.int .i64 k2, .int .i64 s2, .bool on2, .string ⟨c2.toArray⟩, .int .i64 sh2, .int .i64 pr2, .int .i64 si2, .string ⟨st2.toArray⟩, .int .u64 sum2, v2] 27)) d) os) fun e w'' => e = .returned (.bool z) ∧ ∃ p : Regrown, w'' = Sort.grow (redrawn ((w.alloc (.cells #[.int .i64 k, .int .i64 s, .bool on, .string ⟨c.toArray⟩, .int .i64 sh, .int .i64 pr, .int .i64 si, .string ⟨st.toArray⟩, .int .u64 sum, v] 27)).alloc (.cells #[.int .i64 k2, .int .i64 s2, .bool on2, .string ⟨c2.toArray⟩, .int .i64 sh2, .int .i64 pr2, .int .i64 si2, .string ⟨st2.toArray⟩, .int .u64 sum2, v2] 27)) p.d) p.os) := Lib.hid fun d os =>
    Calls.regrown_of ((sequal_any ((hv.later B0.out).later (below_regrown _ d os)) ((hv2.later B0.out).later (below_regrown _ d os))).mono fun e w' h => ⟨h.1.trans (by rw [hz]), h.2⟩)
  obtain ⟨m, hm⟩ : ∃ m, cSame ⟨c, on, ⟨sh, pr, si, st⟩⟩ ⟨c2, on2, ⟨sh2, pr2, si2, st2⟩⟩ = m := ⟨_, rfl⟩
  have hq := fun w => chg_eql6 c c2 on on2 sh pr si sh2 pr2 si2 st st2 w
  rw [hm] at hq
  have hgd : Try.prog.eqGuardType Try.prog.depth 64 = false := by kernel_rfl
  have C1 := Lib.hid fun w => change_any k s on c sh pr si st sum v w
  have C2 := Lib.hid fun w => change_any k2 s2 on2 c2 sh2 pr2 si2 st2 sum2 v2 w
  have hfs : frSame ⟨k, s, on, c, ⟨sh, pr, si, st⟩, sum, t⟩ ⟨k2, s2, on2, c2, ⟨sh2, pr2, si2, st2⟩, sum2, t2⟩ = ((k == k2) && ((s == s2) && (m && ((sum == sum2) && z)))) := by
    rw [← hm, cSame_parts, ← hz]
    unfold frSame
    simp only [Bool.and_assoc]
  rw [hfs]
  have g00 := cell_regrown (w := (w.alloc (.cells #[.int .i64 k, .int .i64 s, .bool on, .string ⟨c.toArray⟩, .int .i64 sh, .int .i64 pr, .int .i64 si, .string ⟨st.toArray⟩, .int .u64 sum, v] 27)).alloc (.cells #[.int .i64 k2, .int .i64 s2, .bool on2, .string ⟨c2.toArray⟩, .int .i64 sh2, .int .i64 pr2, .int .i64 si2, .string ⟨st2.toArray⟩, .int .u64 sum2, v2] 27)) (a := ⟨w.heap.size, 0, none⟩) (v := .int .i64 k) (by simp)
  have g01 := cell_regrown (w := (w.alloc (.cells #[.int .i64 k, .int .i64 s, .bool on, .string ⟨c.toArray⟩, .int .i64 sh, .int .i64 pr, .int .i64 si, .string ⟨st.toArray⟩, .int .u64 sum, v] 27)).alloc (.cells #[.int .i64 k2, .int .i64 s2, .bool on2, .string ⟨c2.toArray⟩, .int .i64 sh2, .int .i64 pr2, .int .i64 si2, .string ⟨st2.toArray⟩, .int .u64 sum2, v2] 27)) (a := ⟨w.heap.size, 1, none⟩) (v := .int .i64 s) (by simp)
  have g02 := cell_regrown (w := (w.alloc (.cells #[.int .i64 k, .int .i64 s, .bool on, .string ⟨c.toArray⟩, .int .i64 sh, .int .i64 pr, .int .i64 si, .string ⟨st.toArray⟩, .int .u64 sum, v] 27)).alloc (.cells #[.int .i64 k2, .int .i64 s2, .bool on2, .string ⟨c2.toArray⟩, .int .i64 sh2, .int .i64 pr2, .int .i64 si2, .string ⟨st2.toArray⟩, .int .u64 sum2, v2] 27)) (a := ⟨w.heap.size, 2, none⟩) (v := .bool on) (by simp)
  have g03 := cell_regrown (w := (w.alloc (.cells #[.int .i64 k, .int .i64 s, .bool on, .string ⟨c.toArray⟩, .int .i64 sh, .int .i64 pr, .int .i64 si, .string ⟨st.toArray⟩, .int .u64 sum, v] 27)).alloc (.cells #[.int .i64 k2, .int .i64 s2, .bool on2, .string ⟨c2.toArray⟩, .int .i64 sh2, .int .i64 pr2, .int .i64 si2, .string ⟨st2.toArray⟩, .int .u64 sum2, v2] 27)) (a := ⟨w.heap.size, 3, none⟩) (v := .string ⟨c.toArray⟩) (by simp)
  have g04 := cell_regrown (w := (w.alloc (.cells #[.int .i64 k, .int .i64 s, .bool on, .string ⟨c.toArray⟩, .int .i64 sh, .int .i64 pr, .int .i64 si, .string ⟨st.toArray⟩, .int .u64 sum, v] 27)).alloc (.cells #[.int .i64 k2, .int .i64 s2, .bool on2, .string ⟨c2.toArray⟩, .int .i64 sh2, .int .i64 pr2, .int .i64 si2, .string ⟨st2.toArray⟩, .int .u64 sum2, v2] 27)) (a := ⟨w.heap.size, 4, none⟩) (v := .int .i64 sh) (by simp)
  have g05 := cell_regrown (w := (w.alloc (.cells #[.int .i64 k, .int .i64 s, .bool on, .string ⟨c.toArray⟩, .int .i64 sh, .int .i64 pr, .int .i64 si, .string ⟨st.toArray⟩, .int .u64 sum, v] 27)).alloc (.cells #[.int .i64 k2, .int .i64 s2, .bool on2, .string ⟨c2.toArray⟩, .int .i64 sh2, .int .i64 pr2, .int .i64 si2, .string ⟨st2.toArray⟩, .int .u64 sum2, v2] 27)) (a := ⟨w.heap.size, 5, none⟩) (v := .int .i64 pr) (by simp)
  have g06 := cell_regrown (w := (w.alloc (.cells #[.int .i64 k, .int .i64 s, .bool on, .string ⟨c.toArray⟩, .int .i64 sh, .int .i64 pr, .int .i64 si, .string ⟨st.toArray⟩, .int .u64 sum, v] 27)).alloc (.cells #[.int .i64 k2, .int .i64 s2, .bool on2, .string ⟨c2.toArray⟩, .int .i64 sh2, .int .i64 pr2, .int .i64 si2, .string ⟨st2.toArray⟩, .int .u64 sum2, v2] 27)) (a := ⟨w.heap.size, 6, none⟩) (v := .int .i64 si) (by simp)
  have g07 := cell_regrown (w := (w.alloc (.cells #[.int .i64 k, .int .i64 s, .bool on, .string ⟨c.toArray⟩, .int .i64 sh, .int .i64 pr, .int .i64 si, .string ⟨st.toArray⟩, .int .u64 sum, v] 27)).alloc (.cells #[.int .i64 k2, .int .i64 s2, .bool on2, .string ⟨c2.toArray⟩, .int .i64 sh2, .int .i64 pr2, .int .i64 si2, .string ⟨st2.toArray⟩, .int .u64 sum2, v2] 27)) (a := ⟨w.heap.size, 7, none⟩) (v := .string ⟨st.toArray⟩) (by simp)
  have g08 := cell_regrown (w := (w.alloc (.cells #[.int .i64 k, .int .i64 s, .bool on, .string ⟨c.toArray⟩, .int .i64 sh, .int .i64 pr, .int .i64 si, .string ⟨st.toArray⟩, .int .u64 sum, v] 27)).alloc (.cells #[.int .i64 k2, .int .i64 s2, .bool on2, .string ⟨c2.toArray⟩, .int .i64 sh2, .int .i64 pr2, .int .i64 si2, .string ⟨st2.toArray⟩, .int .u64 sum2, v2] 27)) (a := ⟨w.heap.size, 8, none⟩) (v := .int .u64 sum) (by simp)
  have g09 := cell_regrown (w := (w.alloc (.cells #[.int .i64 k, .int .i64 s, .bool on, .string ⟨c.toArray⟩, .int .i64 sh, .int .i64 pr, .int .i64 si, .string ⟨st.toArray⟩, .int .u64 sum, v] 27)).alloc (.cells #[.int .i64 k2, .int .i64 s2, .bool on2, .string ⟨c2.toArray⟩, .int .i64 sh2, .int .i64 pr2, .int .i64 si2, .string ⟨st2.toArray⟩, .int .u64 sum2, v2] 27)) (a := ⟨w.heap.size, 9, none⟩) (v := v) (by simp)
  have g10 := cell_regrown (w := (w.alloc (.cells #[.int .i64 k, .int .i64 s, .bool on, .string ⟨c.toArray⟩, .int .i64 sh, .int .i64 pr, .int .i64 si, .string ⟨st.toArray⟩, .int .u64 sum, v] 27)).alloc (.cells #[.int .i64 k2, .int .i64 s2, .bool on2, .string ⟨c2.toArray⟩, .int .i64 sh2, .int .i64 pr2, .int .i64 si2, .string ⟨st2.toArray⟩, .int .u64 sum2, v2] 27)) (a := ⟨w.heap.size + 1, 0, none⟩) (v := .int .i64 k2) (by simp)
  have g11 := cell_regrown (w := (w.alloc (.cells #[.int .i64 k, .int .i64 s, .bool on, .string ⟨c.toArray⟩, .int .i64 sh, .int .i64 pr, .int .i64 si, .string ⟨st.toArray⟩, .int .u64 sum, v] 27)).alloc (.cells #[.int .i64 k2, .int .i64 s2, .bool on2, .string ⟨c2.toArray⟩, .int .i64 sh2, .int .i64 pr2, .int .i64 si2, .string ⟨st2.toArray⟩, .int .u64 sum2, v2] 27)) (a := ⟨w.heap.size + 1, 1, none⟩) (v := .int .i64 s2) (by simp)
  have g12 := cell_regrown (w := (w.alloc (.cells #[.int .i64 k, .int .i64 s, .bool on, .string ⟨c.toArray⟩, .int .i64 sh, .int .i64 pr, .int .i64 si, .string ⟨st.toArray⟩, .int .u64 sum, v] 27)).alloc (.cells #[.int .i64 k2, .int .i64 s2, .bool on2, .string ⟨c2.toArray⟩, .int .i64 sh2, .int .i64 pr2, .int .i64 si2, .string ⟨st2.toArray⟩, .int .u64 sum2, v2] 27)) (a := ⟨w.heap.size + 1, 2, none⟩) (v := .bool on2) (by simp)
  have g13 := cell_regrown (w := (w.alloc (.cells #[.int .i64 k, .int .i64 s, .bool on, .string ⟨c.toArray⟩, .int .i64 sh, .int .i64 pr, .int .i64 si, .string ⟨st.toArray⟩, .int .u64 sum, v] 27)).alloc (.cells #[.int .i64 k2, .int .i64 s2, .bool on2, .string ⟨c2.toArray⟩, .int .i64 sh2, .int .i64 pr2, .int .i64 si2, .string ⟨st2.toArray⟩, .int .u64 sum2, v2] 27)) (a := ⟨w.heap.size + 1, 3, none⟩) (v := .string ⟨c2.toArray⟩) (by simp)
  have g14 := cell_regrown (w := (w.alloc (.cells #[.int .i64 k, .int .i64 s, .bool on, .string ⟨c.toArray⟩, .int .i64 sh, .int .i64 pr, .int .i64 si, .string ⟨st.toArray⟩, .int .u64 sum, v] 27)).alloc (.cells #[.int .i64 k2, .int .i64 s2, .bool on2, .string ⟨c2.toArray⟩, .int .i64 sh2, .int .i64 pr2, .int .i64 si2, .string ⟨st2.toArray⟩, .int .u64 sum2, v2] 27)) (a := ⟨w.heap.size + 1, 4, none⟩) (v := .int .i64 sh2) (by simp)
  have g15 := cell_regrown (w := (w.alloc (.cells #[.int .i64 k, .int .i64 s, .bool on, .string ⟨c.toArray⟩, .int .i64 sh, .int .i64 pr, .int .i64 si, .string ⟨st.toArray⟩, .int .u64 sum, v] 27)).alloc (.cells #[.int .i64 k2, .int .i64 s2, .bool on2, .string ⟨c2.toArray⟩, .int .i64 sh2, .int .i64 pr2, .int .i64 si2, .string ⟨st2.toArray⟩, .int .u64 sum2, v2] 27)) (a := ⟨w.heap.size + 1, 5, none⟩) (v := .int .i64 pr2) (by simp)
  have g16 := cell_regrown (w := (w.alloc (.cells #[.int .i64 k, .int .i64 s, .bool on, .string ⟨c.toArray⟩, .int .i64 sh, .int .i64 pr, .int .i64 si, .string ⟨st.toArray⟩, .int .u64 sum, v] 27)).alloc (.cells #[.int .i64 k2, .int .i64 s2, .bool on2, .string ⟨c2.toArray⟩, .int .i64 sh2, .int .i64 pr2, .int .i64 si2, .string ⟨st2.toArray⟩, .int .u64 sum2, v2] 27)) (a := ⟨w.heap.size + 1, 6, none⟩) (v := .int .i64 si2) (by simp)
  have g17 := cell_regrown (w := (w.alloc (.cells #[.int .i64 k, .int .i64 s, .bool on, .string ⟨c.toArray⟩, .int .i64 sh, .int .i64 pr, .int .i64 si, .string ⟨st.toArray⟩, .int .u64 sum, v] 27)).alloc (.cells #[.int .i64 k2, .int .i64 s2, .bool on2, .string ⟨c2.toArray⟩, .int .i64 sh2, .int .i64 pr2, .int .i64 si2, .string ⟨st2.toArray⟩, .int .u64 sum2, v2] 27)) (a := ⟨w.heap.size + 1, 7, none⟩) (v := .string ⟨st2.toArray⟩) (by simp)
  have g18 := cell_regrown (w := (w.alloc (.cells #[.int .i64 k, .int .i64 s, .bool on, .string ⟨c.toArray⟩, .int .i64 sh, .int .i64 pr, .int .i64 si, .string ⟨st.toArray⟩, .int .u64 sum, v] 27)).alloc (.cells #[.int .i64 k2, .int .i64 s2, .bool on2, .string ⟨c2.toArray⟩, .int .i64 sh2, .int .i64 pr2, .int .i64 si2, .string ⟨st2.toArray⟩, .int .u64 sum2, v2] 27)) (a := ⟨w.heap.size + 1, 8, none⟩) (v := .int .u64 sum2) (by simp)
  have g19 := cell_regrown (w := (w.alloc (.cells #[.int .i64 k, .int .i64 s, .bool on, .string ⟨c.toArray⟩, .int .i64 sh, .int .i64 pr, .int .i64 si, .string ⟨st.toArray⟩, .int .u64 sum, v] 27)).alloc (.cells #[.int .i64 k2, .int .i64 s2, .bool on2, .string ⟨c2.toArray⟩, .int .i64 sh2, .int .i64 pr2, .int .i64 si2, .string ⟨st2.toArray⟩, .int .u64 sum2, v2] 27)) (a := ⟨w.heap.size + 1, 9, none⟩) (v := v2) (by simp)
  clear hm hz hv hv2 hfs
  by_cases hk : k = k2
  · rw [show (k == k2) = true by rw [beq_iff_eq]; exact hk]
    have tk : (k == k2) = true := by rw [beq_iff_eq]; omega
    clear hk
    simp only [Bool.true_and]
    by_cases hs : s = s2
    · rw [show (s == s2) = true by rw [beq_iff_eq]; exact hs]
      have ts : (s == s2) = true := by rw [beq_iff_eq]; omega
      clear hs
      simp only [Bool.true_and]
      cases m with
      | false =>
        simp only [Bool.false_and]
        go_enter Try.func16, Try.ntmps16
        go_wp2_with fail
        refine wp_region_quiet_below (by kernel_rfl) (by kernel_rfl) ?_
        repeat (go_big_quiet_step (first | with_reducible exact rgB C1.out _ _ _ | with_reducible exact rgB C2.out _ _ _ | with_reducible exact HT.out _ _))
        refine wpQuiet_nil ?_
        intro w5 hw5
        have B5 := Lib.hid (below2' B0.out (below_regrownF hw5))
        clear hw5 g00 g01 g02 g03 g04 g05 g06 g07 g08 g09 g10 g11 g12 g13 g14 g15 g16 g17 g18 g19
        go_wp2_with fail
        go_ret
        exact ⟨rfl, B5.out⟩
      | true =>
        simp only [Bool.true_and]
        by_cases hsum : sum = sum2
        · rw [show (sum == sum2) = true by rw [beq_iff_eq]; exact hsum]
          have tsum : ((sum : Int) == (sum2 : Int)) = true := by rw [beq_iff_eq]; omega
          clear hsum
          simp only [Bool.true_and]
          go_enter Try.func16, Try.ntmps16
          go_wp2_with fail
          refine wp_region_quiet_below (by kernel_rfl) (by kernel_rfl) ?_
          repeat (go_big_quiet_step (first | with_reducible exact rgB C1.out _ _ _ | with_reducible exact rgB C2.out _ _ _ | with_reducible exact HT.out _ _))
          refine wpQuiet_nil ?_
          intro w5 hw5
          have B5 := Lib.hid (below2' B0.out (below_regrownF hw5))
          clear hw5 g00 g01 g02 g03 g04 g05 g06 g07 g08 g09 g10 g11 g12 g13 g14 g15 g16 g17 g18 g19
          go_wp2_with fail
          go_ret
          exact ⟨rfl, B5.out⟩
        · have tsum : ((sum : Int) == (sum2 : Int)) = false := by rw [beq_eq_false_iff_ne]; omega
          rw [show (sum == sum2) = false by rw [beq_eq_false_iff_ne]; exact hsum]
          simp only [Bool.false_and]
          clear hsum
          go_enter Try.func16, Try.ntmps16
          go_wp2_with fail
          refine wp_region_quiet_below (by kernel_rfl) (by kernel_rfl) ?_
          repeat (go_big_quiet_step (first | with_reducible exact rgB C1.out _ _ _ | with_reducible exact rgB C2.out _ _ _ | with_reducible exact HT.out _ _))
          refine wpQuiet_nil ?_
          intro w5 hw5
          have B5 := Lib.hid (below2' B0.out (below_regrownF hw5))
          clear hw5 g00 g01 g02 g03 g04 g05 g06 g07 g08 g09 g10 g11 g12 g13 g14 g15 g16 g17 g18 g19
          go_wp2_with fail
          go_ret
          exact ⟨rfl, B5.out⟩
    · have ts : (s == s2) = false := by rw [beq_eq_false_iff_ne]; omega
      rw [show (s == s2) = false by rw [beq_eq_false_iff_ne]; exact hs]
      simp only [Bool.false_and]
      clear hs
      go_enter Try.func16, Try.ntmps16
      go_wp2_with fail
      refine wp_region_quiet_below (by kernel_rfl) (by kernel_rfl) ?_
      repeat (go_big_quiet_step (first | with_reducible exact rgB C1.out _ _ _ | with_reducible exact rgB C2.out _ _ _ | with_reducible exact HT.out _ _))
      refine wpQuiet_nil ?_
      intro w5 hw5
      have B5 := Lib.hid (below2' B0.out (below_regrownF hw5))
      clear hw5 g00 g01 g02 g03 g04 g05 g06 g07 g08 g09 g10 g11 g12 g13 g14 g15 g16 g17 g18 g19
      go_wp2_with fail
      go_ret
      exact ⟨rfl, B5.out⟩
  · have tk : (k == k2) = false := by rw [beq_eq_false_iff_ne]; omega
    rw [show (k == k2) = false by rw [beq_eq_false_iff_ne]; exact hk]
    simp only [Bool.false_and]
    clear hk
    go_enter Try.func16, Try.ntmps16
    go_wp2_with fail
    refine wp_region_quiet_below (by kernel_rfl) (by kernel_rfl) ?_
    repeat (go_big_quiet_step (first | with_reducible exact rgB C1.out _ _ _ | with_reducible exact rgB C2.out _ _ _ | with_reducible exact HT.out _ _))
    refine wpQuiet_nil ?_
    intro w5 hw5
    have B5 := Lib.hid (below2' B0.out (below_regrownF hw5))
    clear hw5 g00 g01 g02 g03 g04 g05 g06 g07 g08 g09 g10 g11 g12 g13 g14 g15 g16 g17 g18 g19
    go_wp2_with fail
    go_ret
    exact ⟨rfl, B5.out⟩

end Go.Proofs.Ytohfhphiofobcaa

end

section

/-
  LAYER 6: live.
-/
namespace Go.Proofs.Ytohfhphiofobcaa
open Go.RowKit

theorem lf1 : frMay ⟨1, 300, true, [97, 110, 110], ⟨4, 0, 5, []⟩, 0, []⟩ = true := by decide +kernel
theorem lf2 : frPlain ⟨1, 300, true, [97, 110, 110], ⟨4, 0, 5, []⟩, 0, []⟩ = [1, 172, 2, 1, 3, 97, 110, 110, 4, 128, 5, 0] := by decide +kernel
theorem lf3 : frEnc ⟨1, 300, true, [97, 110, 110], ⟨4, 0, 5, []⟩, 0, []⟩ = (cseal [1, 172, 2, 1, 3, 97, 110, 110, 4, 128, 5, 0], 0) := by unfold frEnc; rw [if_pos lf1, lf2]
theorem lf4 : frDec (cseal [1, 172, 2, 1, 3, 97, 110, 110, 4, 128, 5, 0]) = (⟨1, 300, true, [97, 110, 110], ⟨4, 0, 5, []⟩, 0, []⟩, 0) := (frDec_plain lf1 (by decide) (by rw [lf2])).1
theorem lf5 : frMay ⟨4, 5, false, [], ⟨0, 0, 0, []⟩, 0, []⟩ = true := by decide +kernel
theorem lf6 : frPlain ⟨4, 5, false, [], ⟨0, 0, 0, []⟩, 0, []⟩ = [4, 5] := by decide +kernel
theorem lf7 : frEnc ⟨4, 5, false, [], ⟨0, 0, 0, []⟩, 0, []⟩ = (cseal [4, 5], 0) := by unfold frEnc; rw [if_pos lf5, lf6]
theorem lf8 : frMay ⟨4, 0, true, [], ⟨0, 0, 0, []⟩, 0, []⟩ = false := by decide +kernel
theorem lf9 : frEnc ⟨4, 0, true, [], ⟨0, 0, 0, []⟩, 0, []⟩ = ([], 1) := by unfold frEnc; rw [if_neg (by rw [lf8]; decide)]
theorem lf10 : frDec [97, 98, 99] = (⟨0, 0, false, [], ⟨0, 0, 0, []⟩, 0, []⟩, 2) := by
  have h : copen [97, 98, 99] = ([], 2) := by decide +kernel
  unfold frDec; rw [h, if_pos (by decide)]; rfl
theorem lf11 : frDec [97, 98, 99, 100, 101, 102] = (⟨0, 0, false, [], ⟨0, 0, 0, []⟩, 0, []⟩, 4) := by
  have h : copen [97, 98, 99, 100, 101, 102] = ([], 4) := by decide +kernel
  unfold frDec; rw [h, if_pos (by decide)]; rfl
theorem lf12 : frDec (cseal [5, 0]) = (⟨0, 0, false, [], ⟨0, 0, 0, []⟩, 0, []⟩, 3) := by
  unfold frDec; rw [copen_seal, if_neg (by decide)]; rfl
theorem lf13 : frMay ⟨0, 0, false, [], ⟨0, 0, 0, []⟩, 0, []⟩ = false := frMay_zero
theorem lf14 : frSame ⟨1, 300, true, [97, 110, 110], ⟨4, 0, 5, []⟩, 0, []⟩ ⟨1, 300, true, [97, 110, 110], ⟨4, 0, 5, []⟩, 0, []⟩ = true := frSame_iff.2 rfl
theorem lf15 : frSame ⟨1, 300, true, [97, 110, 110], ⟨4, 0, 5, []⟩, 0, []⟩ ⟨0, 0, false, [], ⟨0, 0, 0, []⟩, 0, []⟩ = false := by decide +kernel

theorem frsame_eqF {w : World} {v v2 : Value} {t t2 : List Row} (hv : Tab w v t) (hv2 : Tab w v2 t2) {k s : Int} {on : Bool} {c : List UInt8} {sh pr si : Int} {st : List UInt8} {sum : Nat} {k2 s2 : Int} {on2 : Bool} {c2 : List UInt8} {sh2 pr2 si2 : Int} {st2 : List UInt8} {sum2 : Nat} {r : Bool} (h : Hid (frSame ⟨k, s, on, c, ⟨sh, pr, si, st⟩, sum, t⟩ ⟨k2, s2, on2, c2, ⟨sh2, pr2, si2, st2⟩, sum2, t2⟩ = r)) :
    Calls Try.prog 16 #[.agg #[.int .i64 k, .int .i64 s, .bool on, .string ⟨c.toArray⟩, .int .i64 sh, .int .i64 pr, .int .i64 si, .string ⟨st.toArray⟩, .int .u64 sum, v], .agg #[.int .i64 k2, .int .i64 s2, .bool on2, .string ⟨c2.toArray⟩, .int .i64 sh2, .int .i64 pr2, .int .i64 si2, .string ⟨st2.toArray⟩, .int .u64 sum2, v2]] w fun e w' => e = .returned (.bool r) ∧ Below w.heap.size w w' := by
  have := frsame_any hv hv2 k s on c sh pr si st sum k2 s2 on2 c2 sh2 pr2 si2 st2 sum2
  rw [h.out] at this
  exact this

theorem seal_lenL (l : List UInt8) : (cseal l).length = l.length + 4 := by
  unfold cseal
  rw [List.length_append]
  rfl

set_option maxHeartbeats 3200000 in
set_option maxRecDepth 100000 in
theorem live6 (w : World) : Calls Try.prog 11 #[] w fun e w' => e = .returned (.bool true) ∧ Below w.heap.size w w' := by
  have heq := fun w => (val_eql5 4 0 5 4 0 5 [] [] w).trans (congrArg (fun b => Result.ok (Value.bool b) w) (vSame_iff.2 rfl))
  have hgd : Try.prog.eqGuardType Try.prog.depth 23 = false := by kernel_rfl
  have HEQ := Lib.hid heq
  clear heq
  obtain ⟨s1, hs1⟩ : ∃ s1, cseal [1, 172, 2, 1, 3, 97, 110, 110, 4, 128, 5, 0] = s1 := ⟨_, rfl⟩
  obtain ⟨s2, hs2⟩ : ∃ s2, cseal [4, 5] = s2 := ⟨_, rfl⟩
  obtain ⟨s3, hs3⟩ : ∃ s3, cseal [5, 0] = s3 := ⟨_, rfl⟩
  have HX : Hid (frEnc ⟨1, 300, true, [97, 110, 110], ⟨4, 0, 5, []⟩, 0, []⟩ = (s1, 0)) := Lib.hid (by rw [← hs1]; exact lf3)
  have HY : Hid (frEnc ⟨4, 5, false, [], ⟨0, 0, 0, []⟩, 0, []⟩ = (s2, 0)) := Lib.hid (by rw [← hs2]; exact lf7)
  have HN : Hid (frEnc ⟨4, 0, true, [], ⟨0, 0, 0, []⟩, 0, []⟩ = ([], 1)) := Lib.hid lf9
  have HD1 : Hid (frDec s1 = (⟨1, 300, true, [97, 110, 110], ⟨4, 0, 5, []⟩, 0, []⟩, 0)) := Lib.hid (by rw [← hs1]; exact lf4)
  have HD2 : Hid (frDec [97, 98, 99] = (⟨0, 0, false, [], ⟨0, 0, 0, []⟩, 0, []⟩, 2)) := Lib.hid lf10
  have HD3 : Hid (frDec [97, 98, 99, 100, 101, 102] = (⟨0, 0, false, [], ⟨0, 0, 0, []⟩, 0, []⟩, 4)) := Lib.hid lf11
  have HD4 : Hid (frDec s3 = (⟨0, 0, false, [], ⟨0, 0, 0, []⟩, 0, []⟩, 3)) := Lib.hid (by rw [← hs3]; exact lf12)
  have L1 : s1.length ≤ 4294967296 := by rw [← hs1, seal_lenL]; decide
  have L3 : s3.length ≤ 4294967296 := by rw [← hs3, seal_lenL]; decide
  have HS1 := Lib.hid (rseal_any [1, 172, 2, 1, 3, 97, 110, 110, 4, 128, 5, 0] (by decide))
  have HS2 := Lib.hid (rseal_any [4, 5] (by decide))
  have HS3 := Lib.hid (rseal_any [5, 0] (by decide))
  rw [hs1] at HS1
  rw [hs2] at HS2
  rw [hs3] at HS3
  have hsn : Short [] := fun r hr => by simp at hr
  clear hs1 hs2 hs3
  have b0 := bl_newZ w (.cells #[.int .i64 4, .int .i64 0, .int .i64 5, .string ⟨#[]⟩] 23)
  have HB := Lib.hid b0
  have VB := newQ w (.cells #[.int .i64 4, .int .i64 0, .int .i64 5, .string ⟨#[]⟩] 23)
  replace VB := Lib.hid VB
  clear b0
  go_enter Try.func11, Try.ntmps11
  obtain ⟨⟨VBc0, VBc1, VBc2, VBc3⟩, ⟨VBf0, VBf1, VBf2, VBf3⟩⟩ := blk4 VB.out
  go_wp2_with fail
  clear VBc0 VBc1 VBc2 VBc3 VBf0 VBf1 VBf2 VBf3
  refine (frenc_any (OwnR.tab (ownR_nil _ 0)) hsn 1 300 true [97, 110, 110] 4 0 5 [] 0 (by decide) (by decide) (by decide) HX).mono ?_
  rintro e w2 ⟨rfl, b2⟩
  replace VB := Lib.hid (upQ VB.out b2)
  replace HB := Lib.hid (below2Z HB.out b2)
  clear b2
  go_wp2_with fail
  refine (frdec_any s1 L1 HD1 _).mono ?_
  rintro e w3 ⟨v3, rfl, hov3, b3⟩
  replace VB := Lib.hid (upQ VB.out b3)
  replace HB := Lib.hid (below2Z HB.out b3)
  obtain ⟨va3, vc3, rfl, -⟩ := Tab.open' (OwnR.tab hov3)
  have V := Lib.hid (OwnR.tab hov3)
  clear hov3
  clear b3
  go_wp2_with fail
  have b4 := bl_newZ w3 (.cells #[.int .i64 1, .int .i64 300, .bool true, .string ⟨#[97, 110, 110]⟩, .int .i64 4, .int .i64 0, .int .i64 5, .string ⟨#[]⟩, .int .u64 0, .slice va3 0 vc3] 27)
  have D := newQ w3 (.cells #[.int .i64 1, .int .i64 300, .bool true, .string ⟨#[97, 110, 110]⟩, .int .i64 4, .int .i64 0, .int .i64 5, .string ⟨#[]⟩, .int .u64 0, .slice va3 0 vc3] 27)
  have hD : w.heap.size ≤ w3.heap.size := HB.out.size
  replace VB := Lib.hid (upQ VB.out b4)
  replace V := Lib.hid (Tab.later V.out b4)
  replace HB := Lib.hid (below2Z HB.out b4)
  clear b4
  replace D := Lib.hid D
  generalize w3.alloc (.cells #[.int .i64 1, .int .i64 300, .bool true, .string ⟨#[97, 110, 110]⟩, .int .i64 4, .int .i64 0, .int .i64 5, .string ⟨#[]⟩, .int .u64 0, .slice va3 0 vc3] 27) = w5 at VB D V HB ⊢
  generalize w3.heap.size = BD at D hD ⊢
  refine (frenc_any (OwnR.tab (ownR_nil _ 0)) hsn 4 5 false [] 0 0 0 [] 0 (by decide) (by decide) (by decide) HY).mono ?_
  rintro e w6 ⟨rfl, b6⟩
  replace VB := Lib.hid (upQ VB.out b6)
  replace D := Lib.hid (upQ D.out b6)
  replace V := Lib.hid (Tab.later V.out b6)
  replace HB := Lib.hid (below2Z HB.out b6)
  clear b6
  go_wp2_with fail
  refine (frenc_any (OwnR.tab (ownR_nil _ 0)) hsn 4 0 true [] 0 0 0 [] 0 (by decide) (by decide) (by decide) HN).mono ?_
  rintro e w7 ⟨rfl, b7⟩
  replace VB := Lib.hid (upQ VB.out b7)
  replace D := Lib.hid (upQ D.out b7)
  replace V := Lib.hid (Tab.later V.out b7)
  replace HB := Lib.hid (below2Z HB.out b7)
  clear b7
  go_wp2_with fail
  refine (frdec_any [97, 98, 99] (by decide) HD2 _).mono ?_
  rintro e w8 ⟨v8, rfl, hov8, b8⟩
  replace VB := Lib.hid (upQ VB.out b8)
  replace D := Lib.hid (upQ D.out b8)
  replace V := Lib.hid (Tab.later V.out b8)
  replace HB := Lib.hid (below2Z HB.out b8)
  obtain ⟨va8, vc8, rfl, -⟩ := Tab.open' (OwnR.tab hov8)
  clear hov8
  clear b8
  go_wp2_with fail
  have b9 := bl_newZ w8 (.cells #[.int .i64 0, .int .i64 0, .bool false, .string ⟨#[]⟩, .int .i64 0, .int .i64 0, .int .i64 0, .string ⟨#[]⟩, .int .u64 0, .slice va8 0 vc8] 27)
  have U := newQ w8 (.cells #[.int .i64 0, .int .i64 0, .bool false, .string ⟨#[]⟩, .int .i64 0, .int .i64 0, .int .i64 0, .string ⟨#[]⟩, .int .u64 0, .slice va8 0 vc8] 27)
  have hU : w.heap.size ≤ w8.heap.size := HB.out.size
  replace VB := Lib.hid (upQ VB.out b9)
  replace D := Lib.hid (upQ D.out b9)
  replace V := Lib.hid (Tab.later V.out b9)
  replace HB := Lib.hid (below2Z HB.out b9)
  clear b9
  replace U := Lib.hid U
  generalize w8.alloc (.cells #[.int .i64 0, .int .i64 0, .bool false, .string ⟨#[]⟩, .int .i64 0, .int .i64 0, .int .i64 0, .string ⟨#[]⟩, .int .u64 0, .slice va8 0 vc8] 27) = w10 at VB D U V HB ⊢
  generalize w8.heap.size = BU at U hU ⊢
  clear U
  clear hU
  refine (frdec_any [97, 98, 99, 100, 101, 102] (by decide) HD3 _).mono ?_
  rintro e w11 ⟨v11, rfl, hov11, b11⟩
  replace VB := Lib.hid (upQ VB.out b11)
  replace D := Lib.hid (upQ D.out b11)
  replace V := Lib.hid (Tab.later V.out b11)
  replace HB := Lib.hid (below2Z HB.out b11)
  obtain ⟨va11, vc11, rfl, -⟩ := Tab.open' (OwnR.tab hov11)
  clear hov11
  clear b11
  go_wp2_with fail
  have b12 := bl_newZ w11 (.cells #[.int .i64 0, .int .i64 0, .bool false, .string ⟨#[]⟩, .int .i64 0, .int .i64 0, .int .i64 0, .string ⟨#[]⟩, .int .u64 0, .slice va11 0 vc11] 27)
  have U2 := newQ w11 (.cells #[.int .i64 0, .int .i64 0, .bool false, .string ⟨#[]⟩, .int .i64 0, .int .i64 0, .int .i64 0, .string ⟨#[]⟩, .int .u64 0, .slice va11 0 vc11] 27)
  have hU2 : w.heap.size ≤ w11.heap.size := HB.out.size
  replace VB := Lib.hid (upQ VB.out b12)
  replace D := Lib.hid (upQ D.out b12)
  replace V := Lib.hid (Tab.later V.out b12)
  replace HB := Lib.hid (below2Z HB.out b12)
  clear b12
  replace U2 := Lib.hid U2
  generalize w11.alloc (.cells #[.int .i64 0, .int .i64 0, .bool false, .string ⟨#[]⟩, .int .i64 0, .int .i64 0, .int .i64 0, .string ⟨#[]⟩, .int .u64 0, .slice va11 0 vc11] 27) = w13 at VB D U2 V HB ⊢
  generalize w11.heap.size = BU2 at U2 hU2 ⊢
  clear U2
  clear hU2
  refine (HS3.out _).mono ?_
  rintro e w14 ⟨rfl, b14⟩
  replace VB := Lib.hid (upQ VB.out b14)
  replace D := Lib.hid (upQ D.out b14)
  replace V := Lib.hid (Tab.later V.out b14)
  replace HB := Lib.hid (below2Z HB.out b14)
  clear b14
  go_wp2_with fail
  refine (frdec_any s3 L3 HD4 _).mono ?_
  rintro e w15 ⟨v15, rfl, hov15, b15⟩
  replace VB := Lib.hid (upQ VB.out b15)
  replace D := Lib.hid (upQ D.out b15)
  replace V := Lib.hid (Tab.later V.out b15)
  replace HB := Lib.hid (below2Z HB.out b15)
  obtain ⟨va15, vc15, rfl, -⟩ := Tab.open' (OwnR.tab hov15)
  clear hov15
  clear b15
  go_wp2_with fail
  have b16 := bl_newZ w15 (.cells #[.int .i64 0, .int .i64 0, .bool false, .string ⟨#[]⟩, .int .i64 0, .int .i64 0, .int .i64 0, .string ⟨#[]⟩, .int .u64 0, .slice va15 0 vc15] 27)
  have U3 := newQ w15 (.cells #[.int .i64 0, .int .i64 0, .bool false, .string ⟨#[]⟩, .int .i64 0, .int .i64 0, .int .i64 0, .string ⟨#[]⟩, .int .u64 0, .slice va15 0 vc15] 27)
  have hU3 : w.heap.size ≤ w15.heap.size := HB.out.size
  replace VB := Lib.hid (upQ VB.out b16)
  replace D := Lib.hid (upQ D.out b16)
  replace V := Lib.hid (Tab.later V.out b16)
  replace HB := Lib.hid (below2Z HB.out b16)
  clear b16
  replace U3 := Lib.hid U3
  generalize w15.alloc (.cells #[.int .i64 0, .int .i64 0, .bool false, .string ⟨#[]⟩, .int .i64 0, .int .i64 0, .int .i64 0, .string ⟨#[]⟩, .int .u64 0, .slice va15 0 vc15] 27) = w17 at VB D U3 V HB ⊢
  generalize w15.heap.size = BU3 at U3 hU3 ⊢
  clear U3
  clear hU3
  refine (HS1.out _).mono ?_
  rintro e w18 ⟨rfl, b18⟩
  replace VB := Lib.hid (upQ VB.out b18)
  replace D := Lib.hid (upQ D.out b18)
  replace V := Lib.hid (Tab.later V.out b18)
  replace HB := Lib.hid (below2Z HB.out b18)
  clear b18
  obtain ⟨⟨Dc0, Dc1, Dc2, Dc3, Dc4, Dc5, Dc6, Dc7, Dc8, Dc9⟩, ⟨Df0, Df1, Df2, Df3, Df4, Df5, Df6, Df7, Df8, Df9⟩⟩ := blk10 D.out
  obtain ⟨⟨VBc0, VBc1, VBc2, VBc3⟩, ⟨VBf0, VBf1, VBf2, VBf3⟩⟩ := blk4 VB.out
  have heq := HEQ.out
  go_wp2_with fail
  clear heq
  clear Dc0 Dc1 Dc2 Dc3 Dc4 Dc5 Dc6 Dc7 Dc8 Dc9 Df0 Df1 Df2 Df3 Df4 Df5 Df6 Df7 Df8 Df9 VBc0 VBc1 VBc2 VBc3 VBf0 VBf1 VBf2 VBf3
  refine (HS2.out _).mono ?_
  rintro e w19 ⟨rfl, b19⟩
  replace VB := Lib.hid (upQ VB.out b19)
  replace D := Lib.hid (upQ D.out b19)
  replace V := Lib.hid (Tab.later V.out b19)
  replace HB := Lib.hid (below2Z HB.out b19)
  clear b19
  obtain ⟨⟨Dc0, Dc1, Dc2, Dc3, Dc4, Dc5, Dc6, Dc7, Dc8, Dc9⟩, ⟨Df0, Df1, Df2, Df3, Df4, Df5, Df6, Df7, Df8, Df9⟩⟩ := blk10 D.out
  go_wp2_with fail
  clear Dc0 Dc1 Dc2 Dc3 Dc4 Dc5 Dc6 Dc7 Dc8 Dc9 Df0 Df1 Df2 Df3 Df4 Df5 Df6 Df7 Df8 Df9
  refine (frmay_eqF V.out hsn (by decide) (by decide) (Lib.hid lf1)).mono ?_
  rintro e w20 ⟨rfl, b20⟩
  replace VB := Lib.hid (upQ VB.out b20)
  replace D := Lib.hid (upQ D.out b20)
  replace V := Lib.hid (Tab.later V.out b20)
  replace HB := Lib.hid (below2Z HB.out b20)
  clear b20
  obtain ⟨⟨Dc0, Dc1, Dc2, Dc3, Dc4, Dc5, Dc6, Dc7, Dc8, Dc9⟩, ⟨Df0, Df1, Df2, Df3, Df4, Df5, Df6, Df7, Df8, Df9⟩⟩ := blk10 D.out
  go_wp2_with fail
  clear Dc0 Dc1 Dc2 Dc3 Dc4 Dc5 Dc6 Dc7 Dc8 Dc9 Df0 Df1 Df2 Df3 Df4 Df5 Df6 Df7 Df8 Df9
  refine (frmay_eqF (OwnR.tab (ownR_nil _ 0)) hsn (by decide) (by decide) (Lib.hid lf13)).mono ?_
  rintro e w21 ⟨rfl, b21⟩
  replace VB := Lib.hid (upQ VB.out b21)
  replace D := Lib.hid (upQ D.out b21)
  replace V := Lib.hid (Tab.later V.out b21)
  replace HB := Lib.hid (below2Z HB.out b21)
  clear b21
  obtain ⟨⟨Dc0, Dc1, Dc2, Dc3, Dc4, Dc5, Dc6, Dc7, Dc8, Dc9⟩, ⟨Df0, Df1, Df2, Df3, Df4, Df5, Df6, Df7, Df8, Df9⟩⟩ := blk10 D.out
  go_wp2_with fail
  clear Dc0 Dc1 Dc2 Dc3 Dc4 Dc5 Dc6 Dc7 Dc8 Dc9 Df0 Df1 Df2 Df3 Df4 Df5 Df6 Df7 Df8 Df9
  refine (frsame_eqF V.out V.out (Lib.hid lf14)).mono ?_
  rintro e w22 ⟨rfl, b22⟩
  replace VB := Lib.hid (upQ VB.out b22)
  replace D := Lib.hid (upQ D.out b22)
  replace V := Lib.hid (Tab.later V.out b22)
  replace HB := Lib.hid (below2Z HB.out b22)
  clear b22
  obtain ⟨⟨Dc0, Dc1, Dc2, Dc3, Dc4, Dc5, Dc6, Dc7, Dc8, Dc9⟩, ⟨Df0, Df1, Df2, Df3, Df4, Df5, Df6, Df7, Df8, Df9⟩⟩ := blk10 D.out
  go_wp2_with fail
  clear Dc0 Dc1 Dc2 Dc3 Dc4 Dc5 Dc6 Dc7 Dc8 Dc9 Df0 Df1 Df2 Df3 Df4 Df5 Df6 Df7 Df8 Df9
  refine (frsame_eqF V.out (OwnR.tab (ownR_nil _ 0)) (Lib.hid lf15)).mono ?_
  rintro e w23 ⟨rfl, b23⟩
  replace VB := Lib.hid (upQ VB.out b23)
  replace D := Lib.hid (upQ D.out b23)
  replace V := Lib.hid (Tab.later V.out b23)
  replace HB := Lib.hid (below2Z HB.out b23)
  clear b23
  go_wp2_with fail
  go_ret
  exact ⟨rfl, HB.out⟩

end Go.Proofs.Ytohfhphiofobcaa

end

section

/-
  THE CONTRACT OF THE DOCUMENT'S Take (of a table), once more: the table lies in memory of the call's own.
-/
namespace Go.Proofs.Ytohfhphiofobcaa
open Go.RowKit

set_option maxHeartbeats 800000 in
set_option maxRecDepth 100000 in
theorem rditakeO_get (l : List UInt8) (hl : l.length ≤ 4294967296) (p : Int) {n f er : Nat} (h : vget l p = (n, f, er)) (he : er ≠ 0) (w : World) :
    Calls Try.prog 82 #[.string ⟨l.toArray⟩, .int .i64 p] w (TookO (diTake l p) w) := by
  have HR := Lib.hid (ditake_1 h he)
  have HG := Lib.hid h
  have t1 : ((er : Int) != 0) = true := by simp; omega
  clear h he
  rw [HR.out]
  go_enter Try.func82, Try.ntmps82
  go_wp2_with fail
  refine (rget_eq l hl _ _ HG).mono ?_
  rintro e w1 ⟨rfl, rfl⟩
  go_wp2_with fail
  go_ret3
  exact ⟨_, rfl, ownR_nil _ _, Below.refl _ _⟩

set_option maxHeartbeats 800000 in
set_option maxRecDepth 100000 in
theorem rditakeO_many (l : List UInt8) (hl : l.length ≤ 4294967296) (p : Int) {n f : Nat} (h : vget l p = (n, f, 0)) (hn : 32 < n) (w : World) :
    Calls Try.prog 82 #[.string ⟨l.toArray⟩, .int .i64 p] w (TookO (diTake l p) w) := by
  have HR := Lib.hid (ditake_2 h hn)
  have HG := Lib.hid h
  clear h
  rw [HR.out]
  go_enter Try.func82, Try.ntmps82
  go_wp2_with fail
  refine (rget_eq l hl _ _ HG).mono ?_
  rintro e w1 ⟨rfl, rfl⟩
  go_wp2_with fail
  go_ret3
  exact ⟨_, rfl, ownR_nil _ _, Below.refl _ _⟩

set_option maxHeartbeats 1600000 in
set_option maxRecDepth 100000 in
theorem rditakeO_rows (l : List UInt8) (hl : l.length ≤ 4294967296) (p : Int) {n f : Nat} (h : vget l p = (n, f, 0)) (hn : ¬ 32 < n) {T : List Row} {g es : Nat} (h2 : diRows n l f = (T, g, es)) (w : World) :
    Calls Try.prog 82 #[.string ⟨l.toArray⟩, .int .i64 p] w (TookO (diTake l p) w) := by
  have HG := Lib.hid h
  have hfl := (vget_in_facts h).2.2.1
  have H2 : Hid (diComb [] (diRows (n - 0) l f) = (T, g, es)) := by show _ = _; rw [diComb_start]; exact h2
  have HE : Hid (∀ e, e ≠ 0 → (([] : List Row), 0, e) = (T, g, es) → diTake l p = ([], 0, e)) := by
    show ∀ e, _
    intro e he e'
    simp only [Prod.mk.injEq] at e'
    obtain ⟨rfl, rfl, rfl⟩ := e'
    exact ditake_3 h hn h2 he
  have HEnd : Hid (∀ acc q, (acc, q, 0) = (T, g, es) → (diMay acc = false → diTake l p = ([], 0, 3)) ∧ (diMay acc = true → diTake l p = (acc, q, 0)) ∧ Short acc) := by
    show ∀ acc q, _
    intro acc q e'
    simp only [Prod.mk.injEq] at e'
    obtain ⟨rfl, rfl, rfl⟩ := e'
    exact ⟨ditake_4 h hn h2, ditake_5 h hn h2, ok_short (diRows_bytes n hfl h2).2.1⟩
  obtain ⟨R, hR⟩ : ∃ R, diTake l p = R := ⟨_, rfl⟩
  rw [hR] at HE HEnd
  rw [hR]
  clear h h2 hR
  go_enter Try.func82, Try.ntmps82
  go_wp2_with fail
  refine (rget_eq l hl _ _ HG).mono ?_
  rintro e w1 ⟨rfl, rfl⟩
  go_wp2_with fail
  go_loopw [8, 10, 11] (fun q v i wr => ∃ (k : Nat) (acc : List Row) (pl : Nat), k ≤ n ∧ i = .int .i64 k ∧ q = .int .i64 pl ∧ Hid (OwnR wr w.heap.size v acc) ∧ Hid (acc.length = k) ∧ Hid (diComb acc (diRows (n - k) l pl) = (T, g, es)) ∧ Hid (Below w.heap.size w wr)) (fun _ _ i _ => n - (intOf i).toNat)
  case atStart => exact ⟨0, [], f, by omega, rfl, rfl, ownR_nil _ _, rfl, H2, Below.refl _ _⟩
  case round =>
    clear H2
    obtain ⟨k, acc, pl, hk, rfl, rfl, HO, HL, HC, HN⟩ := hrel
    by_cases hlt : k < n
    · obtain ⟨c, q0, e0, hi⟩ : ∃ c q0 e0, idTake l pl = (c, q0, e0) := ⟨_, _, _, rfl⟩
      have HI := Lib.hid (ridtake_eq l hl pl (Lib.hid hi))
      have hc := HC.out
      rw [show n - k = n - (k + 1) + 1 by omega] at hc
      by_cases h0 : e0 = 0
      · subst h0
        obtain ⟨x, y, z, st, q, er, hva⟩ : ∃ x y z st q er, vaTake l q0 = (⟨x, y, z, st⟩, q, er) := ⟨_, _, _, _, _, _, rfl⟩
        have HV := Lib.hid (rvatake_eq l hl q0 (Lib.hid hva))
        by_cases he : er = 0
        · subst he
          rw [diComb_step acc (taker_ok hi hva)] at hc
          have HC2 := Lib.hid hc
          have hal : acc.length ≤ 32 := by rw [HL.out]; omega
          have HL2 : Hid ((acc ++ [(⟨c, x, y, z, st⟩ : Row)]).length = k + 1) := by show _ = _; rw [List.length_append, HL.out]; rfl
          clear hi hva hc HC
          go_wp2_with fail
          refine (HI.out _).mono ?_
          rintro e w1 ⟨rfl, rfl⟩
          go_wp2_with fail
          refine (HV.out _).mono ?_
          rintro e w2 ⟨rfl, hb2⟩
          have N2 := Lib.hid (below2' HN.out hb2)
          have N3 := Lib.hid (bl_alloc N2.out (.cells #[.int .i64 x, .int .i64 y, .int .i64 z, .string ⟨st.toArray⟩] 23))
          have N4 := Lib.hid (bl_alloc N3.out (.cells #[.string ⟨c.toArray⟩, .int .i64 x, .int .i64 y, .int .i64 z, .string ⟨st.toArray⟩] 82))
          have O2 := Lib.hid (((HO.out.later hb2).alloc (.cells #[.int .i64 x, .int .i64 y, .int .i64 z, .string ⟨st.toArray⟩] 23)).alloc (.cells #[.string ⟨c.toArray⟩, .int .i64 x, .int .i64 y, .int .i64 z, .string ⟨st.toArray⟩] 82))
          have hz2 := N4.out.size
          clear hb2 HO
          go_wp2_with (at_builtin; go_must (refine wpList_append_rows rfl _ _ rfl w.heap.size _ acc rfl (by exact O2.out) _ 1 1 [⟨c, x, y, z, st⟩] rfl rfl (fun e => nomatch e) ?c1 (by simp; omega) hz2 ?_))
          case c1 => exact new_row (by simp)
          intro v' w' hown' hb'
          have O3 := Lib.hid hown'
          have N5 := Lib.hid (N4.out.trans hb')
          clear hown' hb' hz2 O2
          go_wp2_with fail
          go_roundw
          case rel => exact ⟨k + 1, acc ++ [⟨c, x, y, z, st⟩], q, by omega, by go_num, rfl, O3, HL2, HC2, N5⟩
          case measure => simp [intOf]; omega
        · rw [diComb_err acc (taker_va hi hva he) he] at hc
          have HR := Lib.hid (HE.out er he hc)
          have t1 : ((er : Int) != 0) = true := by simp; omega
          clear hi hva hc he
          go_wp2_with fail
          refine (HI.out _).mono ?_
          rintro e w1 ⟨rfl, rfl⟩
          go_wp2_with fail
          refine (HV.out _).mono ?_
          rintro e w2 ⟨rfl, hb2⟩
          have N2 := Lib.hid (bl_alloc (below2' HN.out hb2) (.cells #[.int .i64 x, .int .i64 y, .int .i64 z, .string ⟨st.toArray⟩] 23))
          clear hb2
          go_wp2_with fail
          go_ret3
          exact ⟨_, by rw [HR.out]; rfl, by rw [HR.out]; exact ownR_nil _ _, N2.out⟩
      · rw [diComb_err acc (taker_id hi h0) h0] at hc
        have HR := Lib.hid (HE.out e0 h0 hc)
        have t1 : ((e0 : Int) != 0) = true := by simp; omega
        clear hi hc h0
        go_wp2_with fail
        refine (HI.out _).mono ?_
        rintro e w1 ⟨rfl, rfl⟩
        go_wp2_with fail
        go_ret3
        exact ⟨_, by rw [HR.out]; rfl, by rw [HR.out]; exact ownR_nil _ _, HN.out⟩
    · obtain rfl : k = n := by omega
      have hc := HC.out
      rw [Nat.sub_self, diComb_end] at hc
      obtain ⟨e1, e2, e3⟩ := HEnd.out acc pl hc
      have HTb := Lib.hid HO.out.tab
      clear hc
      cases hm : diMay acc with
      | false =>
        have HR := Lib.hid (e1 hm)
        have HM := Lib.hid (rdimay_eq HTb.out e3 (Lib.hid hm))
        clear hm e1 e2 e3
        go_wp2_with fail
        refine HM.out.mono ?_
        rintro e w2 ⟨rfl, hb2⟩
        have N2 := Lib.hid (below2' HN.out hb2)
        clear hb2
        go_wp2_with fail
        go_ret3
        exact ⟨_, by rw [HR.out]; rfl, by rw [HR.out]; exact ownR_nil _ _, N2.out⟩
      | true =>
        have HR := Lib.hid (e2 hm)
        have HM := Lib.hid (rdimay_eq HTb.out e3 (Lib.hid hm))
        clear hm e1 e2 e3
        go_wp2_with fail
        refine HM.out.mono ?_
        rintro e w2 ⟨rfl, hb2⟩
        have N2 := Lib.hid (below2' HN.out hb2)
        have T2 := Lib.hid (HO.out.later hb2)
        clear hb2
        go_wp2_with fail
        go_ret3
        exact ⟨_, by rw [HR.out]; rfl, by rw [HR.out]; exact T2.out, N2.out⟩

theorem rditakeO_any (l : List UInt8) (hl : l.length ≤ 4294967296) (p : Int) (w : World) :
    Calls Try.prog 82 #[.string ⟨l.toArray⟩, .int .i64 p] w (TookO (diTake l p) w) := by
  obtain ⟨n, f, er, h⟩ : ∃ n f er, vget l p = (n, f, er) := ⟨_, _, _, rfl⟩
  by_cases he : er = 0
  · subst he
    by_cases hn : 32 < n
    · exact rditakeO_many l hl p h hn w
    · obtain ⟨T, g, es, h2⟩ : ∃ T g es, diRows n l f = (T, g, es) := ⟨_, _, _, rfl⟩
      exact rditakeO_rows l hl p h hn h2 w
  · exact rditakeO_get l hl p h he w

end Go.Proofs.Ytohfhphiofobcaa

end
