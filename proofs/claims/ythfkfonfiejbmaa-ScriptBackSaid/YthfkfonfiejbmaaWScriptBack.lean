/-
  THE WALK OF ScriptBack.
-/
import Derived.Test.YthfkfonfiejbmaaScrLive
import Derived.Test.YthfkfonfiejbmaaHeldC
import Derived.Deep.RegionHeld
import Derived.Deep.RegionLaw
namespace Go.Proofs.Ythfkfonfiejbmaa
open Go.RowKit

theorem scMay_short {e : Ev} (h : scMay e = true) : evShort e := by
  have hu := (idIs_parts (scMay_parts h).2.1).2.1
  rcases scMay_kinds h with ⟨_, _, _, ho, _, hv⟩ | ⟨_, _, ho, _, _, hv⟩ | ⟨_, _, ho, _, _, hv⟩
  · have := (idIs_parts ho).2.1
    exact ⟨by omega, by omega, by rw [hv]; simp [Val.zero]⟩
  · exact ⟨by omega, by rw [ho]; simp, by have := (vaMay_parts hv).2.2.2.2.2.2; omega⟩
  · exact ⟨by omega, by rw [ho]; simp, by rw [hv]; simp [Val.zero]⟩

theorem scDec_short {s : List UInt8} {e : Ev} {n : Nat} (h : scDec s = (e, n)) (_hl : s.length ≤ 4294967296) : evShort e := by
  by_cases hn : n = 0
  · subst hn; exact scMay_short (scDec_ok h).1
  · rw [scDec_err h hn]; exact ⟨by simp [Ev.zero], by simp [Ev.zero], by simp [Ev.zero, Val.zero]⟩

theorem scDec_nil : scDec [] = (⟨0, [], [], 0, ⟨0, 0, 0, []⟩⟩, 2) := rfl

theorem all_step {l : List Ev} {k : Nat} (hk : k < l.length) {e : Ev} (he : l.getD k Ev.zero = e) {g q : Bool} (hg : (l.take k).all scMay = g) (hq : scMay e = q) : (l.take (k + 1)).all scMay = (g && q) := by
  rw [List.take_succ_eq_append_getElem hk, List.all_append, hg, ← evgetD hk, he]
  simp [hq]

theorem unIs_batch {s : List UInt8} {m : List Ev} {er : Nat} (h : UnIs s m er) : (er = 0 ∧ (∀ e ∈ m, evShort e) ∧ scBatch m = (s, 0)) ∨ (er = 3 ∧ m = []) := by
  rcases h with ⟨rfl, hl, ha, hs⟩ | ⟨rfl, rfl, _⟩
  · exact .inl ⟨rfl, fun e he => scMay_short (List.all_eq_true.1 ha e he), by rw [hs]; exact scBatch_all hl ha⟩
  · exact .inr ⟨rfl, rfl⟩

theorem back_batch {l : List Ev} {g : Bool} (hl : l.length ≤ 100) (hg : l.all scMay = g) : ∃ b n, scBatch l = (b, n) ∧ b.length ≤ 13000 ∧ ((g = true ∧ n = 0 ∧ UnIs b l 0) ∨ (g = false ∧ n = 1 ∧ b = [] ∧ UnIs b [] 0)) := by
  cases g with
  | true => exact ⟨_, _, scBatch_all hl hg, by have := scCat_len l hg; omega, .inl ⟨rfl, rfl, .inl ⟨rfl, hl, hg, rfl⟩⟩⟩
  | false =>
    refine ⟨[], 1, ?_, by simp, .inr ⟨rfl, rfl, rfl, .inl ⟨rfl, by simp, rfl, rfl⟩⟩⟩
    unfold scBatch
    rw [hg]
    simp

set_option maxHeartbeats 1600000 in
set_option maxRecDepth 100000 in
theorem scwb_1 {w : World} {v : Value} {l : List Ev} (hv : Evs w v l) (s : List UInt8) (he : evsShort 30 l = false) :
    Calls Try.prog 5 #[v, .string ⟨s.toArray⟩] w fun e w' => e = .returned (.bool true) ∧ Below w.heap.size w w' := by
  have HE := Lib.hid he
  clear he
  have V := Lib.hid hv
  obtain ⟨va, vc, rfl, -⟩ := RdS.open' hv
  clear hv
  have hs1 : (⟨s.toArray⟩ : ByteArray).size = s.length := size_bytes s
  have HB := Lib.hid (Below.refl w.heap.size w)
  go_enter Try.func5, Try.ntmps5
  go_wp2_with fail
  refine (events_any V.out 30 (by omega) HE).mono ?_
  rintro e w1 ⟨rfl, b1⟩
  replace V := Lib.hid (RdS.later V.out b1)
  replace HB := Lib.hid (below2Z HB.out b1)
  clear b1
  go_wp2_with fail
  refine (live23 _).mono ?_
  rintro e w2 ⟨rfl, b2⟩
  replace V := Lib.hid (RdS.later V.out b2)
  replace HB := Lib.hid (below2Z HB.out b2)
  clear b2
  go_wp2_with fail
  go_ret
  exact ⟨rfl, HB.out⟩

set_option maxHeartbeats 1600000 in
set_option maxRecDepth 100000 in
theorem scwb_2 {w : World} {v : Value} {l : List Ev} (hv : Evs w v l) (s : List UInt8) (he : evsShort 30 l = true) (hs : 1500 < s.length) :
    Calls Try.prog 5 #[v, .string ⟨s.toArray⟩] w fun e w' => e = .returned (.bool true) ∧ Below w.heap.size w w' := by
  have HE := Lib.hid he
  clear he
  have t1 : decide ((1500 : Int) < (s.length : Int)) = true := by rw [decide_eq_true_eq]; omega
  have t2 : decide (1500 < s.length) = true := by rw [decide_eq_true_eq]; omega
  have V := Lib.hid hv
  obtain ⟨va, vc, rfl, -⟩ := RdS.open' hv
  clear hv
  have hs1 : (⟨s.toArray⟩ : ByteArray).size = s.length := size_bytes s
  have HB := Lib.hid (Below.refl w.heap.size w)
  go_enter Try.func5, Try.ntmps5
  go_wp2_with fail
  refine (events_any V.out 30 (by omega) HE).mono ?_
  rintro e w1 ⟨rfl, b1⟩
  replace V := Lib.hid (RdS.later V.out b1)
  replace HB := Lib.hid (below2Z HB.out b1)
  clear b1
  go_wp2_with fail
  refine (live23 _).mono ?_
  rintro e w2 ⟨rfl, b2⟩
  replace V := Lib.hid (RdS.later V.out b2)
  replace HB := Lib.hid (below2Z HB.out b2)
  clear b2
  go_wp2_with fail
  go_ret
  exact ⟨rfl, HB.out⟩

set_option maxHeartbeats 6400000 in
set_option maxRecDepth 100000 in
theorem scwb_3 {w : World} {v : Value} {l : List Ev} (hv : Evs w v l) (s : List UInt8) (he : evsShort 30 l = true) (hs : s.length ≤ 1500) :
    Calls Try.prog 5 #[v, .string ⟨s.toArray⟩] w fun e w' => e = .returned (.bool true) ∧ Below w.heap.size w w' := by
  have hl30 := (evsShort_get he).1
  have HSL := Lib.hid (evsShort_ev he)
  have HE := Lib.hid he
  clear he
  have t1 : decide ((1500 : Int) < (s.length : Int)) = false := by rw [decide_eq_false_iff_not]; omega
  have t2 : decide (1500 < s.length) = false := by rw [decide_eq_false_iff_not]; omega
  have hsl2 : s.length ≤ 4294967296 := by omega
  have hsl3 : s.length ≤ 1000000 := by omega
  have V := Lib.hid hv
  obtain ⟨va, vc, rfl, -⟩ := RdS.open' hv
  clear hv
  have hs1 : (⟨s.toArray⟩ : ByteArray).size = s.length := size_bytes s
  have HB := Lib.hid (Below.refl w.heap.size w)
  go_enter Try.func5, Try.ntmps5
  go_wp2_with fail
  refine (events_any V.out 30 (by omega) HE).mono ?_
  rintro e w1 ⟨rfl, b1⟩
  replace V := Lib.hid (RdS.later V.out b1)
  replace HB := Lib.hid (below2Z HB.out b1)
  clear b1
  go_wp2_with fail
  go_loopw [5, 6] (fun v5 v6 wr => ∃ (k : Nat) (g : Bool), k ≤ l.length ∧ v5 = .bool g ∧ v6 = .int .i64 k ∧ Hid ((l.take k).all scMay = g) ∧ Hid (Evs wr (.slice va l.length vc) l) ∧ Hid (Below w.heap.size w wr)) (fun _ v6 _ => l.length - (intOf v6).toNat)
  case atStart => exact ⟨0, true, by omega, rfl, rfl, Lib.hid (by simp), V, HB⟩
  case round =>
    clear V HB
    obtain ⟨k, g, hk, rfl, rfl, HG, V, HB⟩ := hrel
    by_cases hlt : k < l.length
    case pos =>
      obtain ⟨b, off, rfl, hc⟩ := RdS.row V.out (Below.refl _ _) k hlt
      obtain ⟨⟨k1, u1, o1, id1, ⟨a1, b1, c1, st1⟩⟩, he⟩ : ∃ r, l.getD k Ev.zero = r := ⟨_, rfl⟩
      have hes := HSL.out _ (by rw [evgetD hlt]; exact List.getElem_mem hlt : l.getD k Ev.zero ∈ l)
      rw [he] at hc hes
      have HC := Lib.hid hc
      obtain ⟨q, hq⟩ : ∃ q, scMay ⟨k1, u1, o1, id1, ⟨a1, b1, c1, st1⟩⟩ = q := ⟨_, rfl⟩
      have HG2 := Lib.hid (all_step hlt he HG.out hq)
      have HM := Lib.hid hq
      clear hc he
      have hkl : (k : Int) < (l.length : Int) := by omega
      cases q with
      | false =>
        obtain ⟨⟨k2, u2, o2, id2, ⟨a2, b2, c2, st2⟩⟩, r, hr⟩ : ∃ f r, scFold ⟨k1, u1, o1, id1, ⟨a1, b1, c1, st1⟩⟩ = (f, r) := ⟨_, _, rfl⟩
        have hsf := scFold_short hr
        have hes2 : evShort ⟨k2, u2, o2, id2, ⟨a2, b2, c2, st2⟩⟩ := ⟨Nat.le_trans hsf.1 hes.1, Nat.le_trans hsf.2.1 hes.2.1, Nat.le_trans hsf.2.2 hes.2.2⟩
        have HF := Lib.hid hr
        cases r with
        | true =>
          have HM2 := Lib.hid (scFold_is hr)
          clear hr hsf
          cases g with
          | true =>
            have HX := Lib.hid (scEnc_no HM.out)
            have HD := Lib.hid scDec_nil
            have hs1l : ([] : List UInt8).length ≤ 4294967296 := by simp
            obtain ⟨m0, m1, m2, m3, m4, m5, m6, m7⟩ := eightAt HC.out
            go_wp2_with fail
            clear m0 m1 m2 m3 m4 m5 m6 m7
            refine (scenc_any k1 u1 o1 st1 id1 a1 b1 c1 hes HX _).mono ?_
            rintro e w201 ⟨rfl, b201⟩
            replace V := Lib.hid (RdS.later V.out b201)
            replace HC := Lib.hid ((HC.out).later b201)
            replace HB := Lib.hid (below2Z HB.out b201)
            clear b201
            go_wp2_with fail
            refine (scdec_any [] hs1l HD _).mono ?_
            rintro e w202 ⟨rfl, b202⟩
            replace V := Lib.hid (RdS.later V.out b202)
            replace HC := Lib.hid ((HC.out).later b202)
            replace HB := Lib.hid (below2Z HB.out b202)
            clear b202
            obtain ⟨m0, m1, m2, m3, m4, m5, m6, m7⟩ := eightAt HC.out
            have hbw := World.block_lt_of_cell? _ _ m0
            go_wp2_with fail
            clear m0 m1 m2 m3 m4 m5 m6 m7 hbw
            have b203 := bl_newZ w202 (.cells #[.int .i64 0, .string ⟨#[]⟩, .string ⟨#[]⟩, .int .i64 0, .int .i64 0, .int .i64 0, .int .i64 0, .string ⟨#[]⟩] 26)
            have D := newQ w202 (.cells #[.int .i64 0, .string ⟨#[]⟩, .string ⟨#[]⟩, .int .i64 0, .int .i64 0, .int .i64 0, .int .i64 0, .string ⟨#[]⟩] 26)
            have hD : w.heap.size ≤ w202.heap.size := HB.out.size
            replace V := Lib.hid (RdS.later V.out b203)
            replace HC := Lib.hid ((HC.out).later b203)
            replace HB := Lib.hid (below2Z HB.out b203)
            clear b203
            replace D := Lib.hid D
            generalize w202.alloc (.cells #[.int .i64 0, .string ⟨#[]⟩, .string ⟨#[]⟩, .int .i64 0, .int .i64 0, .int .i64 0, .int .i64 0, .string ⟨#[]⟩] 26) = w204 at D V HC HB ⊢
            generalize w202.heap.size = BD at D hD ⊢
            refine (scmay_any k1 u1 o1 st1 id1 a1 b1 c1 hes HM _).mono ?_
            rintro e w205 ⟨rfl, b205⟩
            replace D := Lib.hid (upQ D.out b205)
            replace V := Lib.hid (RdS.later V.out b205)
            replace HC := Lib.hid ((HC.out).later b205)
            replace HB := Lib.hid (below2Z HB.out b205)
            clear b205
            obtain ⟨⟨Dc0, Dc1, Dc2, Dc3, Dc4, Dc5, Dc6, Dc7⟩, ⟨Df0, Df1, Df2, Df3, Df4, Df5, Df6, Df7⟩⟩ := blk8 D.out
            obtain ⟨m0, m1, m2, m3, m4, m5, m6, m7⟩ := eightAt HC.out
            go_wp2_with fail
            go_region
            clear Dc0 Dc1 Dc2 Dc3 Dc4 Dc5 Dc6 Dc7 Df0 Df1 Df2 Df3 Df4 Df5 Df6 Df7 m0 m1 m2 m3 m4 m5 m6 m7
            have bd : Below w205.heap.size w205 w205.drew := (Below.refl _ _).drew
            replace D := Lib.hid (upQ D.out bd)
            replace V := Lib.hid (RdS.later V.out bd)
            replace HC := Lib.hid ((HC.out).later bd)
            replace HB := Lib.hid (below2Z HB.out bd)
            clear bd
            generalize w205.drew = w206 at V HC HB D ⊢
            obtain ⟨m0, m1, m2, m3, m4, m5, m6, m7⟩ := eightAt HC.out
            go_wp2_with fail
            clear m0 m1 m2 m3 m4 m5 m6 m7
            refine (scfold_any k1 u1 o1 st1 id1 a1 b1 c1 hes HF _).mono ?_
            rintro e w207 ⟨rfl, b207⟩
            replace D := Lib.hid (upQ D.out b207)
            replace V := Lib.hid (RdS.later V.out b207)
            replace HC := Lib.hid ((HC.out).later b207)
            replace HB := Lib.hid (below2Z HB.out b207)
            clear b207
            go_wp2_with fail
            have b208 := bl_newZ w207 (.cells #[.int .i64 k2, .string ⟨u2.toArray⟩, .string ⟨o2.toArray⟩, .int .i64 id2, .int .i64 a2, .int .i64 b2, .int .i64 c2, .string ⟨st2.toArray⟩] 26)
            have G := newQ w207 (.cells #[.int .i64 k2, .string ⟨u2.toArray⟩, .string ⟨o2.toArray⟩, .int .i64 id2, .int .i64 a2, .int .i64 b2, .int .i64 c2, .string ⟨st2.toArray⟩] 26)
            have hG : w.heap.size ≤ w207.heap.size := HB.out.size
            replace D := Lib.hid (upQ D.out b208)
            replace V := Lib.hid (RdS.later V.out b208)
            replace HC := Lib.hid ((HC.out).later b208)
            replace HB := Lib.hid (below2Z HB.out b208)
            clear b208
            replace G := Lib.hid G
            generalize w207.alloc (.cells #[.int .i64 k2, .string ⟨u2.toArray⟩, .string ⟨o2.toArray⟩, .int .i64 id2, .int .i64 a2, .int .i64 b2, .int .i64 c2, .string ⟨st2.toArray⟩] 26) = w209 at D G V HC HB ⊢
            generalize w207.heap.size = BG at G hG ⊢
            obtain ⟨m0, m1, m2, m3, m4, m5, m6, m7⟩ := eightAt HC.out
            obtain ⟨⟨Gc0, Gc1, Gc2, Gc3, Gc4, Gc5, Gc6, Gc7⟩, ⟨Gf0, Gf1, Gf2, Gf3, Gf4, Gf5, Gf6, Gf7⟩⟩ := blk8 G.out
            obtain ⟨BS, hBS⟩ : ∃ BS : List (Nat × List Value), BS = [] := ⟨_, rfl⟩
            obtain ⟨CS, hCS⟩ : ∃ CS : List (Nat × Nat × Value), CS = [(BG, 0, .int .i64 k2), (BG, 1, .string ⟨u2.toArray⟩), (BG, 2, .string ⟨o2.toArray⟩), (BG, 3, .int .i64 id2), (BG, 4, .int .i64 a2), (BG, 5, .int .i64 b2), (BG, 6, .int .i64 c2), (BG, 7, .string ⟨st2.toArray⟩), (b, off + k * 8, .int .i64 k1), (b, off + k * 8 + 1, .string ⟨u1.toArray⟩), (b, off + k * 8 + 2, .string ⟨o1.toArray⟩), (b, off + k * 8 + 3, .int .i64 id1), (b, off + k * 8 + 4, .int .i64 a1), (b, off + k * 8 + 5, .int .i64 b1), (b, off + k * 8 + 6, .int .i64 c1), (b, off + k * 8 + 7, .string ⟨st1.toArray⟩)] := ⟨_, rfl⟩
            have D0 := Lib.hid (show heldC w209 CS from by rw [hCS]; exact heldC_cons (Gc0) (heldC_cons (Gc1) (heldC_cons (Gc2) (heldC_cons (Gc3) (heldC_cons (Gc4) (heldC_cons (Gc5) (heldC_cons (Gc6) (heldC_cons (Gc7) (heldC_cons (m0) (heldC_cons (m1) (heldC_cons (m2) (heldC_cons (m3) (heldC_cons (m4) (heldC_cons (m5) (heldC_cons (m6) (heldC_cons (m7) (heldC_nil _)))))))))))))))))
            have hq0 : ∀ X, heldC X CS → X.cell? ⟨BG, 0, none⟩ = some (.int .i64 k2) := fun X hx => heldC_get hx (by rw [hCS]; simp)
            have hq1 : ∀ X, heldC X CS → X.cell? ⟨BG, 1, none⟩ = some (.string ⟨u2.toArray⟩) := fun X hx => heldC_get hx (by rw [hCS]; simp)
            have hq2 : ∀ X, heldC X CS → X.cell? ⟨BG, 2, none⟩ = some (.string ⟨o2.toArray⟩) := fun X hx => heldC_get hx (by rw [hCS]; simp)
            have hq3 : ∀ X, heldC X CS → X.cell? ⟨BG, 3, none⟩ = some (.int .i64 id2) := fun X hx => heldC_get hx (by rw [hCS]; simp)
            have hq4 : ∀ X, heldC X CS → X.cell? ⟨BG, 4, none⟩ = some (.int .i64 a2) := fun X hx => heldC_get hx (by rw [hCS]; simp)
            have hq5 : ∀ X, heldC X CS → X.cell? ⟨BG, 5, none⟩ = some (.int .i64 b2) := fun X hx => heldC_get hx (by rw [hCS]; simp)
            have hq6 : ∀ X, heldC X CS → X.cell? ⟨BG, 6, none⟩ = some (.int .i64 c2) := fun X hx => heldC_get hx (by rw [hCS]; simp)
            have hq7 : ∀ X, heldC X CS → X.cell? ⟨BG, 7, none⟩ = some (.string ⟨st2.toArray⟩) := fun X hx => heldC_get hx (by rw [hCS]; simp)
            have hq8 : ∀ X, heldC X CS → X.cell? ⟨b, off + k * 8, none⟩ = some (.int .i64 k1) := fun X hx => heldC_get hx (by rw [hCS]; simp)
            have hq9 : ∀ X, heldC X CS → X.cell? ⟨b, off + k * 8 + 1, none⟩ = some (.string ⟨u1.toArray⟩) := fun X hx => heldC_get hx (by rw [hCS]; simp)
            have hq10 : ∀ X, heldC X CS → X.cell? ⟨b, off + k * 8 + 2, none⟩ = some (.string ⟨o1.toArray⟩) := fun X hx => heldC_get hx (by rw [hCS]; simp)
            have hq11 : ∀ X, heldC X CS → X.cell? ⟨b, off + k * 8 + 3, none⟩ = some (.int .i64 id1) := fun X hx => heldC_get hx (by rw [hCS]; simp)
            have hq12 : ∀ X, heldC X CS → X.cell? ⟨b, off + k * 8 + 4, none⟩ = some (.int .i64 a1) := fun X hx => heldC_get hx (by rw [hCS]; simp)
            have hq13 : ∀ X, heldC X CS → X.cell? ⟨b, off + k * 8 + 5, none⟩ = some (.int .i64 b1) := fun X hx => heldC_get hx (by rw [hCS]; simp)
            have hq14 : ∀ X, heldC X CS → X.cell? ⟨b, off + k * 8 + 6, none⟩ = some (.int .i64 c1) := fun X hx => heldC_get hx (by rw [hCS]; simp)
            have hq15 : ∀ X, heldC X CS → X.cell? ⟨b, off + k * 8 + 7, none⟩ = some (.string ⟨st1.toArray⟩) := fun X hx => heldC_get hx (by rw [hCS]; simp)
            clear hCS
            clear hBS
            have K0 : Hid (Below w209.heap.size w209 w209.drew) := Lib.hid (Below.refl _ _).drew
            refine wp_region_held_drew (S := (fun X => heldC X CS)) (by kernel_rfl) ?_ (fun hHeld => ?_)
            · exact heldC_up K0.out D0.out
            generalize w209.drew = z0 at K0 hHeld ⊢
            refine wpAnyH_take (i := 0) (oi := { dst := some 98, op := Op.move (Operand.tmp 11), type := 4, pos := "law.go:82", after := #[], guard := none }) (v := ?_) rfl (by as_aux_lemma => kernel_rfl) (by as_aux_lemma => kernel_rfl) (by as_aux_lemma => kernel_rfl) (fun _ _ _ h => h) (Or.inl ⟨by rfl, ?_⟩) (by assumption) ?_
            rotate_left
            · intro w' hSw
              try dsimp only at hSw
              go_simp
              try with_reducible rfl
            try simp only [Act.put, List.setIfInBounds_toArray, List.set_cons_zero, List.set_cons_succ]
            refine wpAnyH_take (i := 1) (oi := { dst := some 99, op := Op.move (Operand.tmp 98), type := 4, pos := "law.go:82", after := #[{ on := 0, ground := Ground.data }], guard := none }) (v := ?_) rfl (by as_aux_lemma => kernel_rfl) (by as_aux_lemma => kernel_rfl) (by as_aux_lemma => kernel_rfl) (fun _ _ _ h => h) (Or.inl ⟨by rfl, ?_⟩) (by assumption) ?_
            rotate_left
            · intro w' hSw
              try dsimp only at hSw
              go_simp
              try with_reducible rfl
            try simp only [Act.put, List.setIfInBounds_toArray, List.set_cons_zero, List.set_cons_succ]
            refine wpAnyH_take (i := 2) (oi := { dst := some 100, op := Op.move (Operand.tmp 13), type := 4, pos := "law.go:82", after := #[{ on := 1, ground := Ground.guard }], guard := some (1, true) }) (v := undef) rfl (by as_aux_lemma => kernel_rfl) (by as_aux_lemma => kernel_rfl) (by as_aux_lemma => kernel_rfl) (fun _ _ _ h => h) (Or.inr ⟨by rfl, rfl⟩) (by assumption) ?_
            try simp only [Act.put, List.setIfInBounds_toArray, List.set_cons_zero, List.set_cons_succ]
            refine wpAnyH_take (i := 3) (oi := { dst := some 101, op := Op.unOp UnOp.not 4 (Operand.tmp 100), type := 4, pos := "law.go:82", after := #[{ on := 2, ground := Ground.data }, { on := 1, ground := Ground.guard }], guard := some (1, true) }) (v := undef) rfl (by as_aux_lemma => kernel_rfl) (by as_aux_lemma => kernel_rfl) (by as_aux_lemma => kernel_rfl) (fun _ _ _ h => h) (Or.inr ⟨by rfl, rfl⟩) (by assumption) ?_
            try simp only [Act.put, List.setIfInBounds_toArray, List.set_cons_zero, List.set_cons_succ]
            refine wpAnyH_take (i := 4) (oi := { dst := some 102, op := Op.move (Operand.tmp 101), type := 4, pos := "law.go:82", after := #[{ on := 3, ground := Ground.data }, { on := 1, ground := Ground.chain }, { on := 1, ground := Ground.guard }], guard := some (1, true) }) (v := undef) rfl (by as_aux_lemma => kernel_rfl) (by as_aux_lemma => kernel_rfl) (by as_aux_lemma => kernel_rfl) (fun _ _ _ h => h) (Or.inr ⟨by rfl, rfl⟩) (by assumption) ?_
            try simp only [Act.put, List.setIfInBounds_toArray, List.set_cons_zero, List.set_cons_succ]
            refine wpAnyH_take (i := 5) (oi := { dst := some 103, op := Op.load 26 (Operand.tmp 12), type := 26, pos := "law.go:82", after := #[{ on := 4, ground := Ground.guard }], guard := some (4, false) }) (v := undef) rfl (by as_aux_lemma => kernel_rfl) (by as_aux_lemma => kernel_rfl) (by as_aux_lemma => kernel_rfl) (fun _ _ _ h => h) (Or.inr ⟨by rfl, rfl⟩) (by assumption) ?_
            try simp only [Act.put, List.setIfInBounds_toArray, List.set_cons_zero, List.set_cons_succ]
            refine wpAnyH_take (i := 6) (oi := { dst := some 104, op := Op.move (Operand.tmp 0), type := 31, pos := "law.go:82", after := #[{ on := 4, ground := Ground.guard }], guard := some (4, false) }) (v := undef) rfl (by as_aux_lemma => kernel_rfl) (by as_aux_lemma => kernel_rfl) (by as_aux_lemma => kernel_rfl) (fun _ _ _ h => h) (Or.inr ⟨by rfl, rfl⟩) (by assumption) ?_
            try simp only [Act.put, List.setIfInBounds_toArray, List.set_cons_zero, List.set_cons_succ]
            refine wpAnyH_take (i := 7) (oi := { dst := some 105, op := Op.move (Operand.tmp 6), type := 3, pos := "law.go:82", after := #[{ on := 4, ground := Ground.guard }], guard := some (4, false) }) (v := undef) rfl (by as_aux_lemma => kernel_rfl) (by as_aux_lemma => kernel_rfl) (by as_aux_lemma => kernel_rfl) (fun _ _ _ h => h) (Or.inr ⟨by rfl, rfl⟩) (by assumption) ?_
            try simp only [Act.put, List.setIfInBounds_toArray, List.set_cons_zero, List.set_cons_succ]
            refine wpAnyH_take (i := 8) (oi := { dst := some 106, op := Op.indexAddr 31 (Operand.tmp 104) (Operand.tmp 105), type := 0, pos := "law.go:82", after := #[{ on := 6, ground := Ground.data }, { on := 7, ground := Ground.data }, { on := 4, ground := Ground.guard }], guard := some (4, false) }) (v := undef) rfl (by as_aux_lemma => kernel_rfl) (by as_aux_lemma => kernel_rfl) (by as_aux_lemma => kernel_rfl) (fun _ _ _ h => h) (Or.inr ⟨by rfl, rfl⟩) (by assumption) ?_
            try simp only [Act.put, List.setIfInBounds_toArray, List.set_cons_zero, List.set_cons_succ]
            refine wpAnyH_take (i := 9) (oi := { dst := some 107, op := Op.load 26 (Operand.tmp 106), type := 26, pos := "law.go:82", after := #[{ on := 8, ground := Ground.data }, { on := 4, ground := Ground.guard }], guard := some (4, false) }) (v := undef) rfl (by as_aux_lemma => kernel_rfl) (by as_aux_lemma => kernel_rfl) (by as_aux_lemma => kernel_rfl) (fun _ _ _ h => h) (Or.inr ⟨by rfl, rfl⟩) (by assumption) ?_
            try simp only [Act.put, List.setIfInBounds_toArray, List.set_cons_zero, List.set_cons_succ]
            refine wpAnyH_take (i := 10) (oi := { dst := some 108, op := Op.binOp BinOp.neq 26 (Operand.tmp 103) (Operand.tmp 107) 26, type := 4, pos := "law.go:82", after := #[{ on := 5, ground := Ground.data }, { on := 9, ground := Ground.data }, { on := 4, ground := Ground.guard }], guard := some (4, false) }) (v := undef) rfl (by as_aux_lemma => kernel_rfl) (by as_aux_lemma => kernel_rfl) (by as_aux_lemma => kernel_rfl) (fun _ _ _ h => h) (Or.inr ⟨by rfl, rfl⟩) (by assumption) ?_
            try simp only [Act.put, List.setIfInBounds_toArray, List.set_cons_zero, List.set_cons_succ]
            refine wpAnyH_take (i := 11) (oi := { dst := some 109, op := Op.pick (Operand.tmp 102) (Operand.const (Value.bool true)) (Operand.tmp 108), type := 4, pos := "law.go:82", after := #[{ on := 4, ground := Ground.data }, { on := 10, ground := Ground.data }, { on := 1, ground := Ground.guard }], guard := some (1, true) }) (v := undef) rfl (by as_aux_lemma => kernel_rfl) (by as_aux_lemma => kernel_rfl) (by as_aux_lemma => kernel_rfl) (fun _ _ _ h => h) (Or.inr ⟨by rfl, rfl⟩) (by assumption) ?_
            try simp only [Act.put, List.setIfInBounds_toArray, List.set_cons_zero, List.set_cons_succ]
            refine wpAnyH_take (i := 12) (oi := { dst := some 110, op := Op.pick (Operand.tmp 99) (Operand.tmp 109) (Operand.const (Value.bool false)), type := 4, pos := "law.go:82", after := #[{ on := 1, ground := Ground.data }, { on := 11, ground := Ground.data }], guard := none }) (v := ?_) rfl (by as_aux_lemma => kernel_rfl) (by as_aux_lemma => kernel_rfl) (by as_aux_lemma => kernel_rfl) (fun _ _ _ h => h) (Or.inl ⟨by rfl, ?_⟩) (by assumption) ?_
            rotate_left
            · intro w' hSw
              try dsimp only at hSw
              go_simp
              try with_reducible rfl
            try simp only [Act.put, List.setIfInBounds_toArray, List.set_cons_zero, List.set_cons_succ]
            refine wpAnyH_take (i := 13) (oi := { dst := some 111, op := Op.move (Operand.tmp 110), type := 4, pos := "law.go:82", after := #[{ on := 12, ground := Ground.data }, { on := 4, ground := Ground.chain }], guard := none }) (v := ?_) rfl (by as_aux_lemma => kernel_rfl) (by as_aux_lemma => kernel_rfl) (by as_aux_lemma => kernel_rfl) (fun _ _ _ h => h) (Or.inl ⟨by rfl, ?_⟩) (by assumption) ?_
            rotate_left
            · intro w' hSw
              try dsimp only at hSw
              go_simp
              try with_reducible rfl
            try simp only [Act.put, List.setIfInBounds_toArray, List.set_cons_zero, List.set_cons_succ]
            refine wpAnyH_take (i := 14) (oi := { dst := some 112, op := Op.move (Operand.tmp 13), type := 4, pos := "law.go:82", after := #[{ on := 13, ground := Ground.guard }], guard := some (13, false) }) (v := ?_) rfl (by as_aux_lemma => kernel_rfl) (by as_aux_lemma => kernel_rfl) (by as_aux_lemma => kernel_rfl) (fun _ _ _ h => h) (Or.inl ⟨by rfl, ?_⟩) (by assumption) ?_
            rotate_left
            · intro w' hSw
              try dsimp only at hSw
              go_simp
              try with_reducible rfl
            try simp only [Act.put, List.setIfInBounds_toArray, List.set_cons_zero, List.set_cons_succ]
            refine wpAnyH_take (i := 15) (oi := { dst := some 113, op := Op.move (Operand.tmp 112), type := 4, pos := "law.go:82", after := #[{ on := 14, ground := Ground.data }, { on := 13, ground := Ground.chain }, { on := 13, ground := Ground.guard }], guard := some (13, false) }) (v := ?_) rfl (by as_aux_lemma => kernel_rfl) (by as_aux_lemma => kernel_rfl) (by as_aux_lemma => kernel_rfl) (fun _ _ _ h => h) (Or.inl ⟨by rfl, ?_⟩) (by assumption) ?_
            rotate_left
            · intro w' hSw
              try dsimp only at hSw
              go_simp
              try with_reducible rfl
            try simp only [Act.put, List.setIfInBounds_toArray, List.set_cons_zero, List.set_cons_succ]
            refine wpAnyH_take (i := 16) (oi := { dst := some 114, op := Op.load 26 (Operand.tmp 12), type := 26, pos := "law.go:82", after := #[{ on := 15, ground := Ground.guard }], guard := some (15, true) }) (v := ?_) rfl (by as_aux_lemma => kernel_rfl) (by as_aux_lemma => kernel_rfl) (by as_aux_lemma => kernel_rfl) (fun _ _ _ h => h) (Or.inl ⟨by rfl, ?_⟩) (by assumption) ?_
            rotate_left
            · intro w' hSw
              try dsimp only at hSw
              go_simp
              try with_reducible rfl
            try simp only [Act.put, List.setIfInBounds_toArray, List.set_cons_zero, List.set_cons_succ]
            refine wpAnyH_ready (rs := [17]) (by as_aux_lemma => kernel_rfl) (by simp) ?_
            refine AllReadyH.cons (o := { dst := some 115, op := Op.call { callee := Callee.value (Operand.func 19), args := #[Operand.tmp 114], argTypes := #[26] }, type := 4, pos := "law.go:82", after := #[{ on := 16, ground := Ground.data }, { on := 15, ground := Ground.chain }, { on := 15, ground := Ground.guard }], guard := some (15, true) }) rfl (fun Kx hK => ?_) AllReadyH.nil
            go_simp
            refine (scmay_any k2 u2 o2 st2 id2 a2 b2 c2 hes2 HM2 _).mono ?_
            rintro e z2001 ⟨rfl, bz2001⟩
            have K2001 := Lib.hid (below2Z K0.out bz2001)
            have D2001 := Lib.hid (heldC_up K2001.out D0.out)
            clear bz2001
            go_wp2_with fail
            refine hK.out _ _ ?_ (fun hHeld2 => ?_)
            · exact D2001.out
            clear hK Kx hHeld
            have hHeld := hHeld2
            clear hHeld2
            try simp only [Act.put, List.setIfInBounds_toArray, List.set_cons_zero, List.set_cons_succ]
            refine wpAnyH_take (i := 18) (oi := { dst := some 116, op := Op.unOp UnOp.not 4 (Operand.tmp 115), type := 4, pos := "law.go:82", after := #[{ on := 17, ground := Ground.data }, { on := 15, ground := Ground.guard }], guard := some (15, true) }) (v := ?_) rfl (by as_aux_lemma => kernel_rfl) (by as_aux_lemma => kernel_rfl) (by as_aux_lemma => kernel_rfl) (fun _ _ _ h => h) (Or.inl ⟨by rfl, ?_⟩) (by assumption) ?_
            rotate_left
            · intro w' hSw
              try dsimp only at hSw
              go_simp
              try with_reducible rfl
            try simp only [Act.put, List.setIfInBounds_toArray, List.set_cons_zero, List.set_cons_succ]
            refine wpAnyH_take (i := 19) (oi := { dst := some 117, op := Op.pick (Operand.tmp 113) (Operand.tmp 116) (Operand.const (Value.bool false)), type := 4, pos := "law.go:82", after := #[{ on := 15, ground := Ground.data }, { on := 18, ground := Ground.data }, { on := 13, ground := Ground.guard }], guard := some (13, false) }) (v := ?_) rfl (by as_aux_lemma => kernel_rfl) (by as_aux_lemma => kernel_rfl) (by as_aux_lemma => kernel_rfl) (fun _ _ _ h => h) (Or.inl ⟨by rfl, ?_⟩) (by assumption) ?_
            rotate_left
            · intro w' hSw
              try dsimp only at hSw
              go_simp
              try with_reducible rfl
            try simp only [Act.put, List.setIfInBounds_toArray, List.set_cons_zero, List.set_cons_succ]
            refine wpAnyH_take (i := 20) (oi := { dst := some 118, op := Op.pick (Operand.tmp 111) (Operand.const (Value.bool true)) (Operand.tmp 117), type := 4, pos := "law.go:82", after := #[{ on := 13, ground := Ground.data }, { on := 19, ground := Ground.data }], guard := none }) (v := ?_) rfl (by as_aux_lemma => kernel_rfl) (by as_aux_lemma => kernel_rfl) (by as_aux_lemma => kernel_rfl) (fun _ _ _ h => h) (Or.inl ⟨by rfl, ?_⟩) (by assumption) ?_
            rotate_left
            · intro w' hSw
              try dsimp only at hSw
              go_simp
              try with_reducible rfl
            try simp only [Act.put, List.setIfInBounds_toArray, List.set_cons_zero, List.set_cons_succ]
            refine wpAnyH_done (by kernel_rfl) ?_ _
            clear m0 m1 m2 m3 m4 m5 m6 m7 Gc0 Gc1 Gc2 Gc3 Gc4 Gc5 Gc6 Gc7 Gf0 Gf1 Gf2 Gf3 Gf4 Gf5 Gf6 Gf7
            replace D := Lib.hid (upQ D.out K2001.out)
            replace G := Lib.hid (upQ G.out K2001.out)
            replace V := Lib.hid (RdS.later V.out K2001.out)
            replace HC := Lib.hid ((HC.out).later K2001.out)
            replace HB := Lib.hid (below2Z HB.out K2001.out)
            try clear hHeld D0 K0
            go_wp2_with fail
            go_roundw
            case rel => exact ⟨k + 1, _, by omega, rfl, by go_num, HG2, V, HB⟩
            case measure => simp [intOf]; omega
          | false =>
            have HX := Lib.hid (scEnc_no HM.out)
            have HD := Lib.hid scDec_nil
            have hs1l : ([] : List UInt8).length ≤ 4294967296 := by simp
            obtain ⟨m0, m1, m2, m3, m4, m5, m6, m7⟩ := eightAt HC.out
            go_wp2_with fail
            clear m0 m1 m2 m3 m4 m5 m6 m7
            refine (scenc_any k1 u1 o1 st1 id1 a1 b1 c1 hes HX _).mono ?_
            rintro e w501 ⟨rfl, b501⟩
            replace V := Lib.hid (RdS.later V.out b501)
            replace HC := Lib.hid ((HC.out).later b501)
            replace HB := Lib.hid (below2Z HB.out b501)
            clear b501
            go_wp2_with fail
            refine (scdec_any [] hs1l HD _).mono ?_
            rintro e w502 ⟨rfl, b502⟩
            replace V := Lib.hid (RdS.later V.out b502)
            replace HC := Lib.hid ((HC.out).later b502)
            replace HB := Lib.hid (below2Z HB.out b502)
            clear b502
            obtain ⟨m0, m1, m2, m3, m4, m5, m6, m7⟩ := eightAt HC.out
            have hbw := World.block_lt_of_cell? _ _ m0
            go_wp2_with fail
            clear m0 m1 m2 m3 m4 m5 m6 m7 hbw
            have b503 := bl_newZ w502 (.cells #[.int .i64 0, .string ⟨#[]⟩, .string ⟨#[]⟩, .int .i64 0, .int .i64 0, .int .i64 0, .int .i64 0, .string ⟨#[]⟩] 26)
            have D := newQ w502 (.cells #[.int .i64 0, .string ⟨#[]⟩, .string ⟨#[]⟩, .int .i64 0, .int .i64 0, .int .i64 0, .int .i64 0, .string ⟨#[]⟩] 26)
            have hD : w.heap.size ≤ w502.heap.size := HB.out.size
            replace V := Lib.hid (RdS.later V.out b503)
            replace HC := Lib.hid ((HC.out).later b503)
            replace HB := Lib.hid (below2Z HB.out b503)
            clear b503
            replace D := Lib.hid D
            generalize w502.alloc (.cells #[.int .i64 0, .string ⟨#[]⟩, .string ⟨#[]⟩, .int .i64 0, .int .i64 0, .int .i64 0, .int .i64 0, .string ⟨#[]⟩] 26) = w504 at D V HC HB ⊢
            generalize w502.heap.size = BD at D hD ⊢
            refine (scmay_any k1 u1 o1 st1 id1 a1 b1 c1 hes HM _).mono ?_
            rintro e w505 ⟨rfl, b505⟩
            replace D := Lib.hid (upQ D.out b505)
            replace V := Lib.hid (RdS.later V.out b505)
            replace HC := Lib.hid ((HC.out).later b505)
            replace HB := Lib.hid (below2Z HB.out b505)
            clear b505
            obtain ⟨⟨Dc0, Dc1, Dc2, Dc3, Dc4, Dc5, Dc6, Dc7⟩, ⟨Df0, Df1, Df2, Df3, Df4, Df5, Df6, Df7⟩⟩ := blk8 D.out
            obtain ⟨m0, m1, m2, m3, m4, m5, m6, m7⟩ := eightAt HC.out
            go_wp2_with fail
            go_region
            clear Dc0 Dc1 Dc2 Dc3 Dc4 Dc5 Dc6 Dc7 Df0 Df1 Df2 Df3 Df4 Df5 Df6 Df7 m0 m1 m2 m3 m4 m5 m6 m7
            have bd : Below w505.heap.size w505 w505.drew := (Below.refl _ _).drew
            replace D := Lib.hid (upQ D.out bd)
            replace V := Lib.hid (RdS.later V.out bd)
            replace HC := Lib.hid ((HC.out).later bd)
            replace HB := Lib.hid (below2Z HB.out bd)
            clear bd
            generalize w505.drew = w506 at V HC HB D ⊢
            obtain ⟨m0, m1, m2, m3, m4, m5, m6, m7⟩ := eightAt HC.out
            go_wp2_with fail
            clear m0 m1 m2 m3 m4 m5 m6 m7
            refine (scfold_any k1 u1 o1 st1 id1 a1 b1 c1 hes HF _).mono ?_
            rintro e w507 ⟨rfl, b507⟩
            replace D := Lib.hid (upQ D.out b507)
            replace V := Lib.hid (RdS.later V.out b507)
            replace HC := Lib.hid ((HC.out).later b507)
            replace HB := Lib.hid (below2Z HB.out b507)
            clear b507
            go_wp2_with fail
            have b508 := bl_newZ w507 (.cells #[.int .i64 k2, .string ⟨u2.toArray⟩, .string ⟨o2.toArray⟩, .int .i64 id2, .int .i64 a2, .int .i64 b2, .int .i64 c2, .string ⟨st2.toArray⟩] 26)
            have G := newQ w507 (.cells #[.int .i64 k2, .string ⟨u2.toArray⟩, .string ⟨o2.toArray⟩, .int .i64 id2, .int .i64 a2, .int .i64 b2, .int .i64 c2, .string ⟨st2.toArray⟩] 26)
            have hG : w.heap.size ≤ w507.heap.size := HB.out.size
            replace D := Lib.hid (upQ D.out b508)
            replace V := Lib.hid (RdS.later V.out b508)
            replace HC := Lib.hid ((HC.out).later b508)
            replace HB := Lib.hid (below2Z HB.out b508)
            clear b508
            replace G := Lib.hid G
            generalize w507.alloc (.cells #[.int .i64 k2, .string ⟨u2.toArray⟩, .string ⟨o2.toArray⟩, .int .i64 id2, .int .i64 a2, .int .i64 b2, .int .i64 c2, .string ⟨st2.toArray⟩] 26) = w509 at D G V HC HB ⊢
            generalize w507.heap.size = BG at G hG ⊢
            obtain ⟨m0, m1, m2, m3, m4, m5, m6, m7⟩ := eightAt HC.out
            obtain ⟨⟨Gc0, Gc1, Gc2, Gc3, Gc4, Gc5, Gc6, Gc7⟩, ⟨Gf0, Gf1, Gf2, Gf3, Gf4, Gf5, Gf6, Gf7⟩⟩ := blk8 G.out
            obtain ⟨BS, hBS⟩ : ∃ BS : List (Nat × List Value), BS = [] := ⟨_, rfl⟩
            obtain ⟨CS, hCS⟩ : ∃ CS : List (Nat × Nat × Value), CS = [(BG, 0, .int .i64 k2), (BG, 1, .string ⟨u2.toArray⟩), (BG, 2, .string ⟨o2.toArray⟩), (BG, 3, .int .i64 id2), (BG, 4, .int .i64 a2), (BG, 5, .int .i64 b2), (BG, 6, .int .i64 c2), (BG, 7, .string ⟨st2.toArray⟩), (b, off + k * 8, .int .i64 k1), (b, off + k * 8 + 1, .string ⟨u1.toArray⟩), (b, off + k * 8 + 2, .string ⟨o1.toArray⟩), (b, off + k * 8 + 3, .int .i64 id1), (b, off + k * 8 + 4, .int .i64 a1), (b, off + k * 8 + 5, .int .i64 b1), (b, off + k * 8 + 6, .int .i64 c1), (b, off + k * 8 + 7, .string ⟨st1.toArray⟩)] := ⟨_, rfl⟩
            have D0 := Lib.hid (show heldC w509 CS from by rw [hCS]; exact heldC_cons (Gc0) (heldC_cons (Gc1) (heldC_cons (Gc2) (heldC_cons (Gc3) (heldC_cons (Gc4) (heldC_cons (Gc5) (heldC_cons (Gc6) (heldC_cons (Gc7) (heldC_cons (m0) (heldC_cons (m1) (heldC_cons (m2) (heldC_cons (m3) (heldC_cons (m4) (heldC_cons (m5) (heldC_cons (m6) (heldC_cons (m7) (heldC_nil _)))))))))))))))))
            have hq0 : ∀ X, heldC X CS → X.cell? ⟨BG, 0, none⟩ = some (.int .i64 k2) := fun X hx => heldC_get hx (by rw [hCS]; simp)
            have hq1 : ∀ X, heldC X CS → X.cell? ⟨BG, 1, none⟩ = some (.string ⟨u2.toArray⟩) := fun X hx => heldC_get hx (by rw [hCS]; simp)
            have hq2 : ∀ X, heldC X CS → X.cell? ⟨BG, 2, none⟩ = some (.string ⟨o2.toArray⟩) := fun X hx => heldC_get hx (by rw [hCS]; simp)
            have hq3 : ∀ X, heldC X CS → X.cell? ⟨BG, 3, none⟩ = some (.int .i64 id2) := fun X hx => heldC_get hx (by rw [hCS]; simp)
            have hq4 : ∀ X, heldC X CS → X.cell? ⟨BG, 4, none⟩ = some (.int .i64 a2) := fun X hx => heldC_get hx (by rw [hCS]; simp)
            have hq5 : ∀ X, heldC X CS → X.cell? ⟨BG, 5, none⟩ = some (.int .i64 b2) := fun X hx => heldC_get hx (by rw [hCS]; simp)
            have hq6 : ∀ X, heldC X CS → X.cell? ⟨BG, 6, none⟩ = some (.int .i64 c2) := fun X hx => heldC_get hx (by rw [hCS]; simp)
            have hq7 : ∀ X, heldC X CS → X.cell? ⟨BG, 7, none⟩ = some (.string ⟨st2.toArray⟩) := fun X hx => heldC_get hx (by rw [hCS]; simp)
            have hq8 : ∀ X, heldC X CS → X.cell? ⟨b, off + k * 8, none⟩ = some (.int .i64 k1) := fun X hx => heldC_get hx (by rw [hCS]; simp)
            have hq9 : ∀ X, heldC X CS → X.cell? ⟨b, off + k * 8 + 1, none⟩ = some (.string ⟨u1.toArray⟩) := fun X hx => heldC_get hx (by rw [hCS]; simp)
            have hq10 : ∀ X, heldC X CS → X.cell? ⟨b, off + k * 8 + 2, none⟩ = some (.string ⟨o1.toArray⟩) := fun X hx => heldC_get hx (by rw [hCS]; simp)
            have hq11 : ∀ X, heldC X CS → X.cell? ⟨b, off + k * 8 + 3, none⟩ = some (.int .i64 id1) := fun X hx => heldC_get hx (by rw [hCS]; simp)
            have hq12 : ∀ X, heldC X CS → X.cell? ⟨b, off + k * 8 + 4, none⟩ = some (.int .i64 a1) := fun X hx => heldC_get hx (by rw [hCS]; simp)
            have hq13 : ∀ X, heldC X CS → X.cell? ⟨b, off + k * 8 + 5, none⟩ = some (.int .i64 b1) := fun X hx => heldC_get hx (by rw [hCS]; simp)
            have hq14 : ∀ X, heldC X CS → X.cell? ⟨b, off + k * 8 + 6, none⟩ = some (.int .i64 c1) := fun X hx => heldC_get hx (by rw [hCS]; simp)
            have hq15 : ∀ X, heldC X CS → X.cell? ⟨b, off + k * 8 + 7, none⟩ = some (.string ⟨st1.toArray⟩) := fun X hx => heldC_get hx (by rw [hCS]; simp)
            clear hCS
            clear hBS
            have K0 : Hid (Below w509.heap.size w509 w509.drew) := Lib.hid (Below.refl _ _).drew
            refine wp_region_held_drew (S := (fun X => heldC X CS)) (by kernel_rfl) ?_ (fun hHeld => ?_)
            · exact heldC_up K0.out D0.out
            generalize w509.drew = z0 at K0 hHeld ⊢
            refine wpAnyH_take (i := 0) (oi := { dst := some 98, op := Op.move (Operand.tmp 11), type := 4, pos := "law.go:82", after := #[], guard := none }) (v := ?_) rfl (by as_aux_lemma => kernel_rfl) (by as_aux_lemma => kernel_rfl) (by as_aux_lemma => kernel_rfl) (fun _ _ _ h => h) (Or.inl ⟨by rfl, ?_⟩) (by assumption) ?_
            rotate_left
            · intro w' hSw
              try dsimp only at hSw
              go_simp
              try with_reducible rfl
            try simp only [Act.put, List.setIfInBounds_toArray, List.set_cons_zero, List.set_cons_succ]
            refine wpAnyH_take (i := 1) (oi := { dst := some 99, op := Op.move (Operand.tmp 98), type := 4, pos := "law.go:82", after := #[{ on := 0, ground := Ground.data }], guard := none }) (v := ?_) rfl (by as_aux_lemma => kernel_rfl) (by as_aux_lemma => kernel_rfl) (by as_aux_lemma => kernel_rfl) (fun _ _ _ h => h) (Or.inl ⟨by rfl, ?_⟩) (by assumption) ?_
            rotate_left
            · intro w' hSw
              try dsimp only at hSw
              go_simp
              try with_reducible rfl
            try simp only [Act.put, List.setIfInBounds_toArray, List.set_cons_zero, List.set_cons_succ]
            refine wpAnyH_take (i := 2) (oi := { dst := some 100, op := Op.move (Operand.tmp 13), type := 4, pos := "law.go:82", after := #[{ on := 1, ground := Ground.guard }], guard := some (1, true) }) (v := undef) rfl (by as_aux_lemma => kernel_rfl) (by as_aux_lemma => kernel_rfl) (by as_aux_lemma => kernel_rfl) (fun _ _ _ h => h) (Or.inr ⟨by rfl, rfl⟩) (by assumption) ?_
            try simp only [Act.put, List.setIfInBounds_toArray, List.set_cons_zero, List.set_cons_succ]
            refine wpAnyH_take (i := 3) (oi := { dst := some 101, op := Op.unOp UnOp.not 4 (Operand.tmp 100), type := 4, pos := "law.go:82", after := #[{ on := 2, ground := Ground.data }, { on := 1, ground := Ground.guard }], guard := some (1, true) }) (v := undef) rfl (by as_aux_lemma => kernel_rfl) (by as_aux_lemma => kernel_rfl) (by as_aux_lemma => kernel_rfl) (fun _ _ _ h => h) (Or.inr ⟨by rfl, rfl⟩) (by assumption) ?_
            try simp only [Act.put, List.setIfInBounds_toArray, List.set_cons_zero, List.set_cons_succ]
            refine wpAnyH_take (i := 4) (oi := { dst := some 102, op := Op.move (Operand.tmp 101), type := 4, pos := "law.go:82", after := #[{ on := 3, ground := Ground.data }, { on := 1, ground := Ground.chain }, { on := 1, ground := Ground.guard }], guard := some (1, true) }) (v := undef) rfl (by as_aux_lemma => kernel_rfl) (by as_aux_lemma => kernel_rfl) (by as_aux_lemma => kernel_rfl) (fun _ _ _ h => h) (Or.inr ⟨by rfl, rfl⟩) (by assumption) ?_
            try simp only [Act.put, List.setIfInBounds_toArray, List.set_cons_zero, List.set_cons_succ]
            refine wpAnyH_take (i := 5) (oi := { dst := some 103, op := Op.load 26 (Operand.tmp 12), type := 26, pos := "law.go:82", after := #[{ on := 4, ground := Ground.guard }], guard := some (4, false) }) (v := undef) rfl (by as_aux_lemma => kernel_rfl) (by as_aux_lemma => kernel_rfl) (by as_aux_lemma => kernel_rfl) (fun _ _ _ h => h) (Or.inr ⟨by rfl, rfl⟩) (by assumption) ?_
            try simp only [Act.put, List.setIfInBounds_toArray, List.set_cons_zero, List.set_cons_succ]
            refine wpAnyH_take (i := 6) (oi := { dst := some 104, op := Op.move (Operand.tmp 0), type := 31, pos := "law.go:82", after := #[{ on := 4, ground := Ground.guard }], guard := some (4, false) }) (v := undef) rfl (by as_aux_lemma => kernel_rfl) (by as_aux_lemma => kernel_rfl) (by as_aux_lemma => kernel_rfl) (fun _ _ _ h => h) (Or.inr ⟨by rfl, rfl⟩) (by assumption) ?_
            try simp only [Act.put, List.setIfInBounds_toArray, List.set_cons_zero, List.set_cons_succ]
            refine wpAnyH_take (i := 7) (oi := { dst := some 105, op := Op.move (Operand.tmp 6), type := 3, pos := "law.go:82", after := #[{ on := 4, ground := Ground.guard }], guard := some (4, false) }) (v := undef) rfl (by as_aux_lemma => kernel_rfl) (by as_aux_lemma => kernel_rfl) (by as_aux_lemma => kernel_rfl) (fun _ _ _ h => h) (Or.inr ⟨by rfl, rfl⟩) (by assumption) ?_
            try simp only [Act.put, List.setIfInBounds_toArray, List.set_cons_zero, List.set_cons_succ]
            refine wpAnyH_take (i := 8) (oi := { dst := some 106, op := Op.indexAddr 31 (Operand.tmp 104) (Operand.tmp 105), type := 0, pos := "law.go:82", after := #[{ on := 6, ground := Ground.data }, { on := 7, ground := Ground.data }, { on := 4, ground := Ground.guard }], guard := some (4, false) }) (v := undef) rfl (by as_aux_lemma => kernel_rfl) (by as_aux_lemma => kernel_rfl) (by as_aux_lemma => kernel_rfl) (fun _ _ _ h => h) (Or.inr ⟨by rfl, rfl⟩) (by assumption) ?_
            try simp only [Act.put, List.setIfInBounds_toArray, List.set_cons_zero, List.set_cons_succ]
            refine wpAnyH_take (i := 9) (oi := { dst := some 107, op := Op.load 26 (Operand.tmp 106), type := 26, pos := "law.go:82", after := #[{ on := 8, ground := Ground.data }, { on := 4, ground := Ground.guard }], guard := some (4, false) }) (v := undef) rfl (by as_aux_lemma => kernel_rfl) (by as_aux_lemma => kernel_rfl) (by as_aux_lemma => kernel_rfl) (fun _ _ _ h => h) (Or.inr ⟨by rfl, rfl⟩) (by assumption) ?_
            try simp only [Act.put, List.setIfInBounds_toArray, List.set_cons_zero, List.set_cons_succ]
            refine wpAnyH_take (i := 10) (oi := { dst := some 108, op := Op.binOp BinOp.neq 26 (Operand.tmp 103) (Operand.tmp 107) 26, type := 4, pos := "law.go:82", after := #[{ on := 5, ground := Ground.data }, { on := 9, ground := Ground.data }, { on := 4, ground := Ground.guard }], guard := some (4, false) }) (v := undef) rfl (by as_aux_lemma => kernel_rfl) (by as_aux_lemma => kernel_rfl) (by as_aux_lemma => kernel_rfl) (fun _ _ _ h => h) (Or.inr ⟨by rfl, rfl⟩) (by assumption) ?_
            try simp only [Act.put, List.setIfInBounds_toArray, List.set_cons_zero, List.set_cons_succ]
            refine wpAnyH_take (i := 11) (oi := { dst := some 109, op := Op.pick (Operand.tmp 102) (Operand.const (Value.bool true)) (Operand.tmp 108), type := 4, pos := "law.go:82", after := #[{ on := 4, ground := Ground.data }, { on := 10, ground := Ground.data }, { on := 1, ground := Ground.guard }], guard := some (1, true) }) (v := undef) rfl (by as_aux_lemma => kernel_rfl) (by as_aux_lemma => kernel_rfl) (by as_aux_lemma => kernel_rfl) (fun _ _ _ h => h) (Or.inr ⟨by rfl, rfl⟩) (by assumption) ?_
            try simp only [Act.put, List.setIfInBounds_toArray, List.set_cons_zero, List.set_cons_succ]
            refine wpAnyH_take (i := 12) (oi := { dst := some 110, op := Op.pick (Operand.tmp 99) (Operand.tmp 109) (Operand.const (Value.bool false)), type := 4, pos := "law.go:82", after := #[{ on := 1, ground := Ground.data }, { on := 11, ground := Ground.data }], guard := none }) (v := ?_) rfl (by as_aux_lemma => kernel_rfl) (by as_aux_lemma => kernel_rfl) (by as_aux_lemma => kernel_rfl) (fun _ _ _ h => h) (Or.inl ⟨by rfl, ?_⟩) (by assumption) ?_
            rotate_left
            · intro w' hSw
              try dsimp only at hSw
              go_simp
              try with_reducible rfl
            try simp only [Act.put, List.setIfInBounds_toArray, List.set_cons_zero, List.set_cons_succ]
            refine wpAnyH_take (i := 13) (oi := { dst := some 111, op := Op.move (Operand.tmp 110), type := 4, pos := "law.go:82", after := #[{ on := 12, ground := Ground.data }, { on := 4, ground := Ground.chain }], guard := none }) (v := ?_) rfl (by as_aux_lemma => kernel_rfl) (by as_aux_lemma => kernel_rfl) (by as_aux_lemma => kernel_rfl) (fun _ _ _ h => h) (Or.inl ⟨by rfl, ?_⟩) (by assumption) ?_
            rotate_left
            · intro w' hSw
              try dsimp only at hSw
              go_simp
              try with_reducible rfl
            try simp only [Act.put, List.setIfInBounds_toArray, List.set_cons_zero, List.set_cons_succ]
            refine wpAnyH_take (i := 14) (oi := { dst := some 112, op := Op.move (Operand.tmp 13), type := 4, pos := "law.go:82", after := #[{ on := 13, ground := Ground.guard }], guard := some (13, false) }) (v := ?_) rfl (by as_aux_lemma => kernel_rfl) (by as_aux_lemma => kernel_rfl) (by as_aux_lemma => kernel_rfl) (fun _ _ _ h => h) (Or.inl ⟨by rfl, ?_⟩) (by assumption) ?_
            rotate_left
            · intro w' hSw
              try dsimp only at hSw
              go_simp
              try with_reducible rfl
            try simp only [Act.put, List.setIfInBounds_toArray, List.set_cons_zero, List.set_cons_succ]
            refine wpAnyH_take (i := 15) (oi := { dst := some 113, op := Op.move (Operand.tmp 112), type := 4, pos := "law.go:82", after := #[{ on := 14, ground := Ground.data }, { on := 13, ground := Ground.chain }, { on := 13, ground := Ground.guard }], guard := some (13, false) }) (v := ?_) rfl (by as_aux_lemma => kernel_rfl) (by as_aux_lemma => kernel_rfl) (by as_aux_lemma => kernel_rfl) (fun _ _ _ h => h) (Or.inl ⟨by rfl, ?_⟩) (by assumption) ?_
            rotate_left
            · intro w' hSw
              try dsimp only at hSw
              go_simp
              try with_reducible rfl
            try simp only [Act.put, List.setIfInBounds_toArray, List.set_cons_zero, List.set_cons_succ]
            refine wpAnyH_take (i := 16) (oi := { dst := some 114, op := Op.load 26 (Operand.tmp 12), type := 26, pos := "law.go:82", after := #[{ on := 15, ground := Ground.guard }], guard := some (15, true) }) (v := ?_) rfl (by as_aux_lemma => kernel_rfl) (by as_aux_lemma => kernel_rfl) (by as_aux_lemma => kernel_rfl) (fun _ _ _ h => h) (Or.inl ⟨by rfl, ?_⟩) (by assumption) ?_
            rotate_left
            · intro w' hSw
              try dsimp only at hSw
              go_simp
              try with_reducible rfl
            try simp only [Act.put, List.setIfInBounds_toArray, List.set_cons_zero, List.set_cons_succ]
            refine wpAnyH_ready (rs := [17]) (by as_aux_lemma => kernel_rfl) (by simp) ?_
            refine AllReadyH.cons (o := { dst := some 115, op := Op.call { callee := Callee.value (Operand.func 19), args := #[Operand.tmp 114], argTypes := #[26] }, type := 4, pos := "law.go:82", after := #[{ on := 16, ground := Ground.data }, { on := 15, ground := Ground.chain }, { on := 15, ground := Ground.guard }], guard := some (15, true) }) rfl (fun Kx hK => ?_) AllReadyH.nil
            go_simp
            refine (scmay_any k2 u2 o2 st2 id2 a2 b2 c2 hes2 HM2 _).mono ?_
            rintro e z5001 ⟨rfl, bz5001⟩
            have K5001 := Lib.hid (below2Z K0.out bz5001)
            have D5001 := Lib.hid (heldC_up K5001.out D0.out)
            clear bz5001
            go_wp2_with fail
            refine hK.out _ _ ?_ (fun hHeld2 => ?_)
            · exact D5001.out
            clear hK Kx hHeld
            have hHeld := hHeld2
            clear hHeld2
            try simp only [Act.put, List.setIfInBounds_toArray, List.set_cons_zero, List.set_cons_succ]
            refine wpAnyH_take (i := 18) (oi := { dst := some 116, op := Op.unOp UnOp.not 4 (Operand.tmp 115), type := 4, pos := "law.go:82", after := #[{ on := 17, ground := Ground.data }, { on := 15, ground := Ground.guard }], guard := some (15, true) }) (v := ?_) rfl (by as_aux_lemma => kernel_rfl) (by as_aux_lemma => kernel_rfl) (by as_aux_lemma => kernel_rfl) (fun _ _ _ h => h) (Or.inl ⟨by rfl, ?_⟩) (by assumption) ?_
            rotate_left
            · intro w' hSw
              try dsimp only at hSw
              go_simp
              try with_reducible rfl
            try simp only [Act.put, List.setIfInBounds_toArray, List.set_cons_zero, List.set_cons_succ]
            refine wpAnyH_take (i := 19) (oi := { dst := some 117, op := Op.pick (Operand.tmp 113) (Operand.tmp 116) (Operand.const (Value.bool false)), type := 4, pos := "law.go:82", after := #[{ on := 15, ground := Ground.data }, { on := 18, ground := Ground.data }, { on := 13, ground := Ground.guard }], guard := some (13, false) }) (v := ?_) rfl (by as_aux_lemma => kernel_rfl) (by as_aux_lemma => kernel_rfl) (by as_aux_lemma => kernel_rfl) (fun _ _ _ h => h) (Or.inl ⟨by rfl, ?_⟩) (by assumption) ?_
            rotate_left
            · intro w' hSw
              try dsimp only at hSw
              go_simp
              try with_reducible rfl
            try simp only [Act.put, List.setIfInBounds_toArray, List.set_cons_zero, List.set_cons_succ]
            refine wpAnyH_take (i := 20) (oi := { dst := some 118, op := Op.pick (Operand.tmp 111) (Operand.const (Value.bool true)) (Operand.tmp 117), type := 4, pos := "law.go:82", after := #[{ on := 13, ground := Ground.data }, { on := 19, ground := Ground.data }], guard := none }) (v := ?_) rfl (by as_aux_lemma => kernel_rfl) (by as_aux_lemma => kernel_rfl) (by as_aux_lemma => kernel_rfl) (fun _ _ _ h => h) (Or.inl ⟨by rfl, ?_⟩) (by assumption) ?_
            rotate_left
            · intro w' hSw
              try dsimp only at hSw
              go_simp
              try with_reducible rfl
            try simp only [Act.put, List.setIfInBounds_toArray, List.set_cons_zero, List.set_cons_succ]
            refine wpAnyH_done (by kernel_rfl) ?_ _
            clear m0 m1 m2 m3 m4 m5 m6 m7 Gc0 Gc1 Gc2 Gc3 Gc4 Gc5 Gc6 Gc7 Gf0 Gf1 Gf2 Gf3 Gf4 Gf5 Gf6 Gf7
            replace D := Lib.hid (upQ D.out K5001.out)
            replace G := Lib.hid (upQ G.out K5001.out)
            replace V := Lib.hid (RdS.later V.out K5001.out)
            replace HC := Lib.hid ((HC.out).later K5001.out)
            replace HB := Lib.hid (below2Z HB.out K5001.out)
            try clear hHeld D0 K0
            go_wp2_with fail
            go_roundw
            case rel => exact ⟨k + 1, _, by omega, rfl, by go_num, HG2, V, HB⟩
            case measure => simp [intOf]; omega
        | false =>
          clear hr hsf
          cases g with
          | true =>
            have HX := Lib.hid (scEnc_no HM.out)
            have HD := Lib.hid scDec_nil
            have hs1l : ([] : List UInt8).length ≤ 4294967296 := by simp
            obtain ⟨m0, m1, m2, m3, m4, m5, m6, m7⟩ := eightAt HC.out
            go_wp2_with fail
            clear m0 m1 m2 m3 m4 m5 m6 m7
            refine (scenc_any k1 u1 o1 st1 id1 a1 b1 c1 hes HX _).mono ?_
            rintro e w301 ⟨rfl, b301⟩
            replace V := Lib.hid (RdS.later V.out b301)
            replace HC := Lib.hid ((HC.out).later b301)
            replace HB := Lib.hid (below2Z HB.out b301)
            clear b301
            go_wp2_with fail
            refine (scdec_any [] hs1l HD _).mono ?_
            rintro e w302 ⟨rfl, b302⟩
            replace V := Lib.hid (RdS.later V.out b302)
            replace HC := Lib.hid ((HC.out).later b302)
            replace HB := Lib.hid (below2Z HB.out b302)
            clear b302
            obtain ⟨m0, m1, m2, m3, m4, m5, m6, m7⟩ := eightAt HC.out
            have hbw := World.block_lt_of_cell? _ _ m0
            go_wp2_with fail
            clear m0 m1 m2 m3 m4 m5 m6 m7 hbw
            have b303 := bl_newZ w302 (.cells #[.int .i64 0, .string ⟨#[]⟩, .string ⟨#[]⟩, .int .i64 0, .int .i64 0, .int .i64 0, .int .i64 0, .string ⟨#[]⟩] 26)
            have D := newQ w302 (.cells #[.int .i64 0, .string ⟨#[]⟩, .string ⟨#[]⟩, .int .i64 0, .int .i64 0, .int .i64 0, .int .i64 0, .string ⟨#[]⟩] 26)
            have hD : w.heap.size ≤ w302.heap.size := HB.out.size
            replace V := Lib.hid (RdS.later V.out b303)
            replace HC := Lib.hid ((HC.out).later b303)
            replace HB := Lib.hid (below2Z HB.out b303)
            clear b303
            replace D := Lib.hid D
            generalize w302.alloc (.cells #[.int .i64 0, .string ⟨#[]⟩, .string ⟨#[]⟩, .int .i64 0, .int .i64 0, .int .i64 0, .int .i64 0, .string ⟨#[]⟩] 26) = w304 at D V HC HB ⊢
            generalize w302.heap.size = BD at D hD ⊢
            refine (scmay_any k1 u1 o1 st1 id1 a1 b1 c1 hes HM _).mono ?_
            rintro e w305 ⟨rfl, b305⟩
            replace D := Lib.hid (upQ D.out b305)
            replace V := Lib.hid (RdS.later V.out b305)
            replace HC := Lib.hid ((HC.out).later b305)
            replace HB := Lib.hid (below2Z HB.out b305)
            clear b305
            obtain ⟨⟨Dc0, Dc1, Dc2, Dc3, Dc4, Dc5, Dc6, Dc7⟩, ⟨Df0, Df1, Df2, Df3, Df4, Df5, Df6, Df7⟩⟩ := blk8 D.out
            obtain ⟨m0, m1, m2, m3, m4, m5, m6, m7⟩ := eightAt HC.out
            go_wp2_with fail
            go_region
            clear Dc0 Dc1 Dc2 Dc3 Dc4 Dc5 Dc6 Dc7 Df0 Df1 Df2 Df3 Df4 Df5 Df6 Df7 m0 m1 m2 m3 m4 m5 m6 m7
            have bd : Below w305.heap.size w305 w305.drew := (Below.refl _ _).drew
            replace D := Lib.hid (upQ D.out bd)
            replace V := Lib.hid (RdS.later V.out bd)
            replace HC := Lib.hid ((HC.out).later bd)
            replace HB := Lib.hid (below2Z HB.out bd)
            clear bd
            generalize w305.drew = w306 at V HC HB D ⊢
            obtain ⟨m0, m1, m2, m3, m4, m5, m6, m7⟩ := eightAt HC.out
            go_wp2_with fail
            clear m0 m1 m2 m3 m4 m5 m6 m7
            refine (scfold_any k1 u1 o1 st1 id1 a1 b1 c1 hes HF _).mono ?_
            rintro e w307 ⟨rfl, b307⟩
            replace D := Lib.hid (upQ D.out b307)
            replace V := Lib.hid (RdS.later V.out b307)
            replace HC := Lib.hid ((HC.out).later b307)
            replace HB := Lib.hid (below2Z HB.out b307)
            clear b307
            go_wp2_with fail
            have b308 := bl_newZ w307 (.cells #[.int .i64 k2, .string ⟨u2.toArray⟩, .string ⟨o2.toArray⟩, .int .i64 id2, .int .i64 a2, .int .i64 b2, .int .i64 c2, .string ⟨st2.toArray⟩] 26)
            have G := newQ w307 (.cells #[.int .i64 k2, .string ⟨u2.toArray⟩, .string ⟨o2.toArray⟩, .int .i64 id2, .int .i64 a2, .int .i64 b2, .int .i64 c2, .string ⟨st2.toArray⟩] 26)
            have hG : w.heap.size ≤ w307.heap.size := HB.out.size
            replace D := Lib.hid (upQ D.out b308)
            replace V := Lib.hid (RdS.later V.out b308)
            replace HC := Lib.hid ((HC.out).later b308)
            replace HB := Lib.hid (below2Z HB.out b308)
            clear b308
            replace G := Lib.hid G
            generalize w307.alloc (.cells #[.int .i64 k2, .string ⟨u2.toArray⟩, .string ⟨o2.toArray⟩, .int .i64 id2, .int .i64 a2, .int .i64 b2, .int .i64 c2, .string ⟨st2.toArray⟩] 26) = w309 at D G V HC HB ⊢
            generalize w307.heap.size = BG at G hG ⊢
            obtain ⟨m0, m1, m2, m3, m4, m5, m6, m7⟩ := eightAt HC.out
            obtain ⟨⟨Gc0, Gc1, Gc2, Gc3, Gc4, Gc5, Gc6, Gc7⟩, ⟨Gf0, Gf1, Gf2, Gf3, Gf4, Gf5, Gf6, Gf7⟩⟩ := blk8 G.out
            obtain ⟨BS, hBS⟩ : ∃ BS : List (Nat × List Value), BS = [] := ⟨_, rfl⟩
            obtain ⟨CS, hCS⟩ : ∃ CS : List (Nat × Nat × Value), CS = [(BG, 0, .int .i64 k2), (BG, 1, .string ⟨u2.toArray⟩), (BG, 2, .string ⟨o2.toArray⟩), (BG, 3, .int .i64 id2), (BG, 4, .int .i64 a2), (BG, 5, .int .i64 b2), (BG, 6, .int .i64 c2), (BG, 7, .string ⟨st2.toArray⟩), (b, off + k * 8, .int .i64 k1), (b, off + k * 8 + 1, .string ⟨u1.toArray⟩), (b, off + k * 8 + 2, .string ⟨o1.toArray⟩), (b, off + k * 8 + 3, .int .i64 id1), (b, off + k * 8 + 4, .int .i64 a1), (b, off + k * 8 + 5, .int .i64 b1), (b, off + k * 8 + 6, .int .i64 c1), (b, off + k * 8 + 7, .string ⟨st1.toArray⟩)] := ⟨_, rfl⟩
            have D0 := Lib.hid (show heldC w309 CS from by rw [hCS]; exact heldC_cons (Gc0) (heldC_cons (Gc1) (heldC_cons (Gc2) (heldC_cons (Gc3) (heldC_cons (Gc4) (heldC_cons (Gc5) (heldC_cons (Gc6) (heldC_cons (Gc7) (heldC_cons (m0) (heldC_cons (m1) (heldC_cons (m2) (heldC_cons (m3) (heldC_cons (m4) (heldC_cons (m5) (heldC_cons (m6) (heldC_cons (m7) (heldC_nil _)))))))))))))))))
            have hq0 : ∀ X, heldC X CS → X.cell? ⟨BG, 0, none⟩ = some (.int .i64 k2) := fun X hx => heldC_get hx (by rw [hCS]; simp)
            have hq1 : ∀ X, heldC X CS → X.cell? ⟨BG, 1, none⟩ = some (.string ⟨u2.toArray⟩) := fun X hx => heldC_get hx (by rw [hCS]; simp)
            have hq2 : ∀ X, heldC X CS → X.cell? ⟨BG, 2, none⟩ = some (.string ⟨o2.toArray⟩) := fun X hx => heldC_get hx (by rw [hCS]; simp)
            have hq3 : ∀ X, heldC X CS → X.cell? ⟨BG, 3, none⟩ = some (.int .i64 id2) := fun X hx => heldC_get hx (by rw [hCS]; simp)
            have hq4 : ∀ X, heldC X CS → X.cell? ⟨BG, 4, none⟩ = some (.int .i64 a2) := fun X hx => heldC_get hx (by rw [hCS]; simp)
            have hq5 : ∀ X, heldC X CS → X.cell? ⟨BG, 5, none⟩ = some (.int .i64 b2) := fun X hx => heldC_get hx (by rw [hCS]; simp)
            have hq6 : ∀ X, heldC X CS → X.cell? ⟨BG, 6, none⟩ = some (.int .i64 c2) := fun X hx => heldC_get hx (by rw [hCS]; simp)
            have hq7 : ∀ X, heldC X CS → X.cell? ⟨BG, 7, none⟩ = some (.string ⟨st2.toArray⟩) := fun X hx => heldC_get hx (by rw [hCS]; simp)
            have hq8 : ∀ X, heldC X CS → X.cell? ⟨b, off + k * 8, none⟩ = some (.int .i64 k1) := fun X hx => heldC_get hx (by rw [hCS]; simp)
            have hq9 : ∀ X, heldC X CS → X.cell? ⟨b, off + k * 8 + 1, none⟩ = some (.string ⟨u1.toArray⟩) := fun X hx => heldC_get hx (by rw [hCS]; simp)
            have hq10 : ∀ X, heldC X CS → X.cell? ⟨b, off + k * 8 + 2, none⟩ = some (.string ⟨o1.toArray⟩) := fun X hx => heldC_get hx (by rw [hCS]; simp)
            have hq11 : ∀ X, heldC X CS → X.cell? ⟨b, off + k * 8 + 3, none⟩ = some (.int .i64 id1) := fun X hx => heldC_get hx (by rw [hCS]; simp)
            have hq12 : ∀ X, heldC X CS → X.cell? ⟨b, off + k * 8 + 4, none⟩ = some (.int .i64 a1) := fun X hx => heldC_get hx (by rw [hCS]; simp)
            have hq13 : ∀ X, heldC X CS → X.cell? ⟨b, off + k * 8 + 5, none⟩ = some (.int .i64 b1) := fun X hx => heldC_get hx (by rw [hCS]; simp)
            have hq14 : ∀ X, heldC X CS → X.cell? ⟨b, off + k * 8 + 6, none⟩ = some (.int .i64 c1) := fun X hx => heldC_get hx (by rw [hCS]; simp)
            have hq15 : ∀ X, heldC X CS → X.cell? ⟨b, off + k * 8 + 7, none⟩ = some (.string ⟨st1.toArray⟩) := fun X hx => heldC_get hx (by rw [hCS]; simp)
            clear hCS
            clear hBS
            have K0 : Hid (Below w309.heap.size w309 w309.drew) := Lib.hid (Below.refl _ _).drew
            refine wp_region_held_drew (S := (fun X => heldC X CS)) (by kernel_rfl) ?_ (fun hHeld => ?_)
            · exact heldC_up K0.out D0.out
            generalize w309.drew = z0 at K0 hHeld ⊢
            refine wpAnyH_take (i := 0) (oi := { dst := some 98, op := Op.move (Operand.tmp 11), type := 4, pos := "law.go:82", after := #[], guard := none }) (v := ?_) rfl (by as_aux_lemma => kernel_rfl) (by as_aux_lemma => kernel_rfl) (by as_aux_lemma => kernel_rfl) (fun _ _ _ h => h) (Or.inl ⟨by rfl, ?_⟩) (by assumption) ?_
            rotate_left
            · intro w' hSw
              try dsimp only at hSw
              go_simp
              try with_reducible rfl
            try simp only [Act.put, List.setIfInBounds_toArray, List.set_cons_zero, List.set_cons_succ]
            refine wpAnyH_take (i := 1) (oi := { dst := some 99, op := Op.move (Operand.tmp 98), type := 4, pos := "law.go:82", after := #[{ on := 0, ground := Ground.data }], guard := none }) (v := ?_) rfl (by as_aux_lemma => kernel_rfl) (by as_aux_lemma => kernel_rfl) (by as_aux_lemma => kernel_rfl) (fun _ _ _ h => h) (Or.inl ⟨by rfl, ?_⟩) (by assumption) ?_
            rotate_left
            · intro w' hSw
              try dsimp only at hSw
              go_simp
              try with_reducible rfl
            try simp only [Act.put, List.setIfInBounds_toArray, List.set_cons_zero, List.set_cons_succ]
            refine wpAnyH_take (i := 2) (oi := { dst := some 100, op := Op.move (Operand.tmp 13), type := 4, pos := "law.go:82", after := #[{ on := 1, ground := Ground.guard }], guard := some (1, true) }) (v := undef) rfl (by as_aux_lemma => kernel_rfl) (by as_aux_lemma => kernel_rfl) (by as_aux_lemma => kernel_rfl) (fun _ _ _ h => h) (Or.inr ⟨by rfl, rfl⟩) (by assumption) ?_
            try simp only [Act.put, List.setIfInBounds_toArray, List.set_cons_zero, List.set_cons_succ]
            refine wpAnyH_take (i := 3) (oi := { dst := some 101, op := Op.unOp UnOp.not 4 (Operand.tmp 100), type := 4, pos := "law.go:82", after := #[{ on := 2, ground := Ground.data }, { on := 1, ground := Ground.guard }], guard := some (1, true) }) (v := undef) rfl (by as_aux_lemma => kernel_rfl) (by as_aux_lemma => kernel_rfl) (by as_aux_lemma => kernel_rfl) (fun _ _ _ h => h) (Or.inr ⟨by rfl, rfl⟩) (by assumption) ?_
            try simp only [Act.put, List.setIfInBounds_toArray, List.set_cons_zero, List.set_cons_succ]
            refine wpAnyH_take (i := 4) (oi := { dst := some 102, op := Op.move (Operand.tmp 101), type := 4, pos := "law.go:82", after := #[{ on := 3, ground := Ground.data }, { on := 1, ground := Ground.chain }, { on := 1, ground := Ground.guard }], guard := some (1, true) }) (v := undef) rfl (by as_aux_lemma => kernel_rfl) (by as_aux_lemma => kernel_rfl) (by as_aux_lemma => kernel_rfl) (fun _ _ _ h => h) (Or.inr ⟨by rfl, rfl⟩) (by assumption) ?_
            try simp only [Act.put, List.setIfInBounds_toArray, List.set_cons_zero, List.set_cons_succ]
            refine wpAnyH_take (i := 5) (oi := { dst := some 103, op := Op.load 26 (Operand.tmp 12), type := 26, pos := "law.go:82", after := #[{ on := 4, ground := Ground.guard }], guard := some (4, false) }) (v := undef) rfl (by as_aux_lemma => kernel_rfl) (by as_aux_lemma => kernel_rfl) (by as_aux_lemma => kernel_rfl) (fun _ _ _ h => h) (Or.inr ⟨by rfl, rfl⟩) (by assumption) ?_
            try simp only [Act.put, List.setIfInBounds_toArray, List.set_cons_zero, List.set_cons_succ]
            refine wpAnyH_take (i := 6) (oi := { dst := some 104, op := Op.move (Operand.tmp 0), type := 31, pos := "law.go:82", after := #[{ on := 4, ground := Ground.guard }], guard := some (4, false) }) (v := undef) rfl (by as_aux_lemma => kernel_rfl) (by as_aux_lemma => kernel_rfl) (by as_aux_lemma => kernel_rfl) (fun _ _ _ h => h) (Or.inr ⟨by rfl, rfl⟩) (by assumption) ?_
            try simp only [Act.put, List.setIfInBounds_toArray, List.set_cons_zero, List.set_cons_succ]
            refine wpAnyH_take (i := 7) (oi := { dst := some 105, op := Op.move (Operand.tmp 6), type := 3, pos := "law.go:82", after := #[{ on := 4, ground := Ground.guard }], guard := some (4, false) }) (v := undef) rfl (by as_aux_lemma => kernel_rfl) (by as_aux_lemma => kernel_rfl) (by as_aux_lemma => kernel_rfl) (fun _ _ _ h => h) (Or.inr ⟨by rfl, rfl⟩) (by assumption) ?_
            try simp only [Act.put, List.setIfInBounds_toArray, List.set_cons_zero, List.set_cons_succ]
            refine wpAnyH_take (i := 8) (oi := { dst := some 106, op := Op.indexAddr 31 (Operand.tmp 104) (Operand.tmp 105), type := 0, pos := "law.go:82", after := #[{ on := 6, ground := Ground.data }, { on := 7, ground := Ground.data }, { on := 4, ground := Ground.guard }], guard := some (4, false) }) (v := undef) rfl (by as_aux_lemma => kernel_rfl) (by as_aux_lemma => kernel_rfl) (by as_aux_lemma => kernel_rfl) (fun _ _ _ h => h) (Or.inr ⟨by rfl, rfl⟩) (by assumption) ?_
            try simp only [Act.put, List.setIfInBounds_toArray, List.set_cons_zero, List.set_cons_succ]
            refine wpAnyH_take (i := 9) (oi := { dst := some 107, op := Op.load 26 (Operand.tmp 106), type := 26, pos := "law.go:82", after := #[{ on := 8, ground := Ground.data }, { on := 4, ground := Ground.guard }], guard := some (4, false) }) (v := undef) rfl (by as_aux_lemma => kernel_rfl) (by as_aux_lemma => kernel_rfl) (by as_aux_lemma => kernel_rfl) (fun _ _ _ h => h) (Or.inr ⟨by rfl, rfl⟩) (by assumption) ?_
            try simp only [Act.put, List.setIfInBounds_toArray, List.set_cons_zero, List.set_cons_succ]
            refine wpAnyH_take (i := 10) (oi := { dst := some 108, op := Op.binOp BinOp.neq 26 (Operand.tmp 103) (Operand.tmp 107) 26, type := 4, pos := "law.go:82", after := #[{ on := 5, ground := Ground.data }, { on := 9, ground := Ground.data }, { on := 4, ground := Ground.guard }], guard := some (4, false) }) (v := undef) rfl (by as_aux_lemma => kernel_rfl) (by as_aux_lemma => kernel_rfl) (by as_aux_lemma => kernel_rfl) (fun _ _ _ h => h) (Or.inr ⟨by rfl, rfl⟩) (by assumption) ?_
            try simp only [Act.put, List.setIfInBounds_toArray, List.set_cons_zero, List.set_cons_succ]
            refine wpAnyH_take (i := 11) (oi := { dst := some 109, op := Op.pick (Operand.tmp 102) (Operand.const (Value.bool true)) (Operand.tmp 108), type := 4, pos := "law.go:82", after := #[{ on := 4, ground := Ground.data }, { on := 10, ground := Ground.data }, { on := 1, ground := Ground.guard }], guard := some (1, true) }) (v := undef) rfl (by as_aux_lemma => kernel_rfl) (by as_aux_lemma => kernel_rfl) (by as_aux_lemma => kernel_rfl) (fun _ _ _ h => h) (Or.inr ⟨by rfl, rfl⟩) (by assumption) ?_
            try simp only [Act.put, List.setIfInBounds_toArray, List.set_cons_zero, List.set_cons_succ]
            refine wpAnyH_take (i := 12) (oi := { dst := some 110, op := Op.pick (Operand.tmp 99) (Operand.tmp 109) (Operand.const (Value.bool false)), type := 4, pos := "law.go:82", after := #[{ on := 1, ground := Ground.data }, { on := 11, ground := Ground.data }], guard := none }) (v := ?_) rfl (by as_aux_lemma => kernel_rfl) (by as_aux_lemma => kernel_rfl) (by as_aux_lemma => kernel_rfl) (fun _ _ _ h => h) (Or.inl ⟨by rfl, ?_⟩) (by assumption) ?_
            rotate_left
            · intro w' hSw
              try dsimp only at hSw
              go_simp
              try with_reducible rfl
            try simp only [Act.put, List.setIfInBounds_toArray, List.set_cons_zero, List.set_cons_succ]
            refine wpAnyH_take (i := 13) (oi := { dst := some 111, op := Op.move (Operand.tmp 110), type := 4, pos := "law.go:82", after := #[{ on := 12, ground := Ground.data }, { on := 4, ground := Ground.chain }], guard := none }) (v := ?_) rfl (by as_aux_lemma => kernel_rfl) (by as_aux_lemma => kernel_rfl) (by as_aux_lemma => kernel_rfl) (fun _ _ _ h => h) (Or.inl ⟨by rfl, ?_⟩) (by assumption) ?_
            rotate_left
            · intro w' hSw
              try dsimp only at hSw
              go_simp
              try with_reducible rfl
            try simp only [Act.put, List.setIfInBounds_toArray, List.set_cons_zero, List.set_cons_succ]
            refine wpAnyH_take (i := 14) (oi := { dst := some 112, op := Op.move (Operand.tmp 13), type := 4, pos := "law.go:82", after := #[{ on := 13, ground := Ground.guard }], guard := some (13, false) }) (v := ?_) rfl (by as_aux_lemma => kernel_rfl) (by as_aux_lemma => kernel_rfl) (by as_aux_lemma => kernel_rfl) (fun _ _ _ h => h) (Or.inl ⟨by rfl, ?_⟩) (by assumption) ?_
            rotate_left
            · intro w' hSw
              try dsimp only at hSw
              go_simp
              try with_reducible rfl
            try simp only [Act.put, List.setIfInBounds_toArray, List.set_cons_zero, List.set_cons_succ]
            refine wpAnyH_take (i := 15) (oi := { dst := some 113, op := Op.move (Operand.tmp 112), type := 4, pos := "law.go:82", after := #[{ on := 14, ground := Ground.data }, { on := 13, ground := Ground.chain }, { on := 13, ground := Ground.guard }], guard := some (13, false) }) (v := ?_) rfl (by as_aux_lemma => kernel_rfl) (by as_aux_lemma => kernel_rfl) (by as_aux_lemma => kernel_rfl) (fun _ _ _ h => h) (Or.inl ⟨by rfl, ?_⟩) (by assumption) ?_
            rotate_left
            · intro w' hSw
              try dsimp only at hSw
              go_simp
              try with_reducible rfl
            try simp only [Act.put, List.setIfInBounds_toArray, List.set_cons_zero, List.set_cons_succ]
            refine wpAnyH_take (i := 16) (oi := { dst := some 114, op := Op.load 26 (Operand.tmp 12), type := 26, pos := "law.go:82", after := #[{ on := 15, ground := Ground.guard }], guard := some (15, true) }) (v := undef) rfl (by as_aux_lemma => kernel_rfl) (by as_aux_lemma => kernel_rfl) (by as_aux_lemma => kernel_rfl) (fun _ _ _ h => h) (Or.inr ⟨by rfl, rfl⟩) (by assumption) ?_
            try simp only [Act.put, List.setIfInBounds_toArray, List.set_cons_zero, List.set_cons_succ]
            refine wpAnyH_take (i := 17) (oi := { dst := some 115, op := Op.call { callee := Callee.value (Operand.func 19), args := #[Operand.tmp 114], argTypes := #[26] }, type := 4, pos := "law.go:82", after := #[{ on := 16, ground := Ground.data }, { on := 15, ground := Ground.chain }, { on := 15, ground := Ground.guard }], guard := some (15, true) }) (v := undef) rfl (by as_aux_lemma => kernel_rfl) (by as_aux_lemma => kernel_rfl) (by as_aux_lemma => kernel_rfl) (fun _ _ _ h => h) (Or.inr ⟨by rfl, rfl⟩) (by assumption) ?_
            try simp only [Act.put, List.setIfInBounds_toArray, List.set_cons_zero, List.set_cons_succ]
            refine wpAnyH_take (i := 18) (oi := { dst := some 116, op := Op.unOp UnOp.not 4 (Operand.tmp 115), type := 4, pos := "law.go:82", after := #[{ on := 17, ground := Ground.data }, { on := 15, ground := Ground.guard }], guard := some (15, true) }) (v := undef) rfl (by as_aux_lemma => kernel_rfl) (by as_aux_lemma => kernel_rfl) (by as_aux_lemma => kernel_rfl) (fun _ _ _ h => h) (Or.inr ⟨by rfl, rfl⟩) (by assumption) ?_
            try simp only [Act.put, List.setIfInBounds_toArray, List.set_cons_zero, List.set_cons_succ]
            refine wpAnyH_take (i := 19) (oi := { dst := some 117, op := Op.pick (Operand.tmp 113) (Operand.tmp 116) (Operand.const (Value.bool false)), type := 4, pos := "law.go:82", after := #[{ on := 15, ground := Ground.data }, { on := 18, ground := Ground.data }, { on := 13, ground := Ground.guard }], guard := some (13, false) }) (v := ?_) rfl (by as_aux_lemma => kernel_rfl) (by as_aux_lemma => kernel_rfl) (by as_aux_lemma => kernel_rfl) (fun _ _ _ h => h) (Or.inl ⟨by rfl, ?_⟩) (by assumption) ?_
            rotate_left
            · intro w' hSw
              try dsimp only at hSw
              go_simp
              try with_reducible rfl
            try simp only [Act.put, List.setIfInBounds_toArray, List.set_cons_zero, List.set_cons_succ]
            refine wpAnyH_take (i := 20) (oi := { dst := some 118, op := Op.pick (Operand.tmp 111) (Operand.const (Value.bool true)) (Operand.tmp 117), type := 4, pos := "law.go:82", after := #[{ on := 13, ground := Ground.data }, { on := 19, ground := Ground.data }], guard := none }) (v := ?_) rfl (by as_aux_lemma => kernel_rfl) (by as_aux_lemma => kernel_rfl) (by as_aux_lemma => kernel_rfl) (fun _ _ _ h => h) (Or.inl ⟨by rfl, ?_⟩) (by assumption) ?_
            rotate_left
            · intro w' hSw
              try dsimp only at hSw
              go_simp
              try with_reducible rfl
            try simp only [Act.put, List.setIfInBounds_toArray, List.set_cons_zero, List.set_cons_succ]
            refine wpAnyH_done (by kernel_rfl) ?_ _
            clear m0 m1 m2 m3 m4 m5 m6 m7 Gc0 Gc1 Gc2 Gc3 Gc4 Gc5 Gc6 Gc7 Gf0 Gf1 Gf2 Gf3 Gf4 Gf5 Gf6 Gf7
            replace D := Lib.hid (upQ D.out K0.out)
            replace G := Lib.hid (upQ G.out K0.out)
            replace V := Lib.hid (RdS.later V.out K0.out)
            replace HC := Lib.hid ((HC.out).later K0.out)
            replace HB := Lib.hid (below2Z HB.out K0.out)
            try clear hHeld D0 K0
            go_wp2_with fail
            go_roundw
            case rel => exact ⟨k + 1, _, by omega, rfl, by go_num, HG2, V, HB⟩
            case measure => simp [intOf]; omega
          | false =>
            have HX := Lib.hid (scEnc_no HM.out)
            have HD := Lib.hid scDec_nil
            have hs1l : ([] : List UInt8).length ≤ 4294967296 := by simp
            obtain ⟨m0, m1, m2, m3, m4, m5, m6, m7⟩ := eightAt HC.out
            go_wp2_with fail
            clear m0 m1 m2 m3 m4 m5 m6 m7
            refine (scenc_any k1 u1 o1 st1 id1 a1 b1 c1 hes HX _).mono ?_
            rintro e w601 ⟨rfl, b601⟩
            replace V := Lib.hid (RdS.later V.out b601)
            replace HC := Lib.hid ((HC.out).later b601)
            replace HB := Lib.hid (below2Z HB.out b601)
            clear b601
            go_wp2_with fail
            refine (scdec_any [] hs1l HD _).mono ?_
            rintro e w602 ⟨rfl, b602⟩
            replace V := Lib.hid (RdS.later V.out b602)
            replace HC := Lib.hid ((HC.out).later b602)
            replace HB := Lib.hid (below2Z HB.out b602)
            clear b602
            obtain ⟨m0, m1, m2, m3, m4, m5, m6, m7⟩ := eightAt HC.out
            have hbw := World.block_lt_of_cell? _ _ m0
            go_wp2_with fail
            clear m0 m1 m2 m3 m4 m5 m6 m7 hbw
            have b603 := bl_newZ w602 (.cells #[.int .i64 0, .string ⟨#[]⟩, .string ⟨#[]⟩, .int .i64 0, .int .i64 0, .int .i64 0, .int .i64 0, .string ⟨#[]⟩] 26)
            have D := newQ w602 (.cells #[.int .i64 0, .string ⟨#[]⟩, .string ⟨#[]⟩, .int .i64 0, .int .i64 0, .int .i64 0, .int .i64 0, .string ⟨#[]⟩] 26)
            have hD : w.heap.size ≤ w602.heap.size := HB.out.size
            replace V := Lib.hid (RdS.later V.out b603)
            replace HC := Lib.hid ((HC.out).later b603)
            replace HB := Lib.hid (below2Z HB.out b603)
            clear b603
            replace D := Lib.hid D
            generalize w602.alloc (.cells #[.int .i64 0, .string ⟨#[]⟩, .string ⟨#[]⟩, .int .i64 0, .int .i64 0, .int .i64 0, .int .i64 0, .string ⟨#[]⟩] 26) = w604 at D V HC HB ⊢
            generalize w602.heap.size = BD at D hD ⊢
            refine (scmay_any k1 u1 o1 st1 id1 a1 b1 c1 hes HM _).mono ?_
            rintro e w605 ⟨rfl, b605⟩
            replace D := Lib.hid (upQ D.out b605)
            replace V := Lib.hid (RdS.later V.out b605)
            replace HC := Lib.hid ((HC.out).later b605)
            replace HB := Lib.hid (below2Z HB.out b605)
            clear b605
            obtain ⟨⟨Dc0, Dc1, Dc2, Dc3, Dc4, Dc5, Dc6, Dc7⟩, ⟨Df0, Df1, Df2, Df3, Df4, Df5, Df6, Df7⟩⟩ := blk8 D.out
            obtain ⟨m0, m1, m2, m3, m4, m5, m6, m7⟩ := eightAt HC.out
            go_wp2_with fail
            go_region
            clear Dc0 Dc1 Dc2 Dc3 Dc4 Dc5 Dc6 Dc7 Df0 Df1 Df2 Df3 Df4 Df5 Df6 Df7 m0 m1 m2 m3 m4 m5 m6 m7
            have bd : Below w605.heap.size w605 w605.drew := (Below.refl _ _).drew
            replace D := Lib.hid (upQ D.out bd)
            replace V := Lib.hid (RdS.later V.out bd)
            replace HC := Lib.hid ((HC.out).later bd)
            replace HB := Lib.hid (below2Z HB.out bd)
            clear bd
            generalize w605.drew = w606 at V HC HB D ⊢
            obtain ⟨m0, m1, m2, m3, m4, m5, m6, m7⟩ := eightAt HC.out
            go_wp2_with fail
            clear m0 m1 m2 m3 m4 m5 m6 m7
            refine (scfold_any k1 u1 o1 st1 id1 a1 b1 c1 hes HF _).mono ?_
            rintro e w607 ⟨rfl, b607⟩
            replace D := Lib.hid (upQ D.out b607)
            replace V := Lib.hid (RdS.later V.out b607)
            replace HC := Lib.hid ((HC.out).later b607)
            replace HB := Lib.hid (below2Z HB.out b607)
            clear b607
            go_wp2_with fail
            have b608 := bl_newZ w607 (.cells #[.int .i64 k2, .string ⟨u2.toArray⟩, .string ⟨o2.toArray⟩, .int .i64 id2, .int .i64 a2, .int .i64 b2, .int .i64 c2, .string ⟨st2.toArray⟩] 26)
            have G := newQ w607 (.cells #[.int .i64 k2, .string ⟨u2.toArray⟩, .string ⟨o2.toArray⟩, .int .i64 id2, .int .i64 a2, .int .i64 b2, .int .i64 c2, .string ⟨st2.toArray⟩] 26)
            have hG : w.heap.size ≤ w607.heap.size := HB.out.size
            replace D := Lib.hid (upQ D.out b608)
            replace V := Lib.hid (RdS.later V.out b608)
            replace HC := Lib.hid ((HC.out).later b608)
            replace HB := Lib.hid (below2Z HB.out b608)
            clear b608
            replace G := Lib.hid G
            generalize w607.alloc (.cells #[.int .i64 k2, .string ⟨u2.toArray⟩, .string ⟨o2.toArray⟩, .int .i64 id2, .int .i64 a2, .int .i64 b2, .int .i64 c2, .string ⟨st2.toArray⟩] 26) = w609 at D G V HC HB ⊢
            generalize w607.heap.size = BG at G hG ⊢
            obtain ⟨m0, m1, m2, m3, m4, m5, m6, m7⟩ := eightAt HC.out
            obtain ⟨⟨Gc0, Gc1, Gc2, Gc3, Gc4, Gc5, Gc6, Gc7⟩, ⟨Gf0, Gf1, Gf2, Gf3, Gf4, Gf5, Gf6, Gf7⟩⟩ := blk8 G.out
            obtain ⟨BS, hBS⟩ : ∃ BS : List (Nat × List Value), BS = [] := ⟨_, rfl⟩
            obtain ⟨CS, hCS⟩ : ∃ CS : List (Nat × Nat × Value), CS = [(BG, 0, .int .i64 k2), (BG, 1, .string ⟨u2.toArray⟩), (BG, 2, .string ⟨o2.toArray⟩), (BG, 3, .int .i64 id2), (BG, 4, .int .i64 a2), (BG, 5, .int .i64 b2), (BG, 6, .int .i64 c2), (BG, 7, .string ⟨st2.toArray⟩), (b, off + k * 8, .int .i64 k1), (b, off + k * 8 + 1, .string ⟨u1.toArray⟩), (b, off + k * 8 + 2, .string ⟨o1.toArray⟩), (b, off + k * 8 + 3, .int .i64 id1), (b, off + k * 8 + 4, .int .i64 a1), (b, off + k * 8 + 5, .int .i64 b1), (b, off + k * 8 + 6, .int .i64 c1), (b, off + k * 8 + 7, .string ⟨st1.toArray⟩)] := ⟨_, rfl⟩
            have D0 := Lib.hid (show heldC w609 CS from by rw [hCS]; exact heldC_cons (Gc0) (heldC_cons (Gc1) (heldC_cons (Gc2) (heldC_cons (Gc3) (heldC_cons (Gc4) (heldC_cons (Gc5) (heldC_cons (Gc6) (heldC_cons (Gc7) (heldC_cons (m0) (heldC_cons (m1) (heldC_cons (m2) (heldC_cons (m3) (heldC_cons (m4) (heldC_cons (m5) (heldC_cons (m6) (heldC_cons (m7) (heldC_nil _)))))))))))))))))
            have hq0 : ∀ X, heldC X CS → X.cell? ⟨BG, 0, none⟩ = some (.int .i64 k2) := fun X hx => heldC_get hx (by rw [hCS]; simp)
            have hq1 : ∀ X, heldC X CS → X.cell? ⟨BG, 1, none⟩ = some (.string ⟨u2.toArray⟩) := fun X hx => heldC_get hx (by rw [hCS]; simp)
            have hq2 : ∀ X, heldC X CS → X.cell? ⟨BG, 2, none⟩ = some (.string ⟨o2.toArray⟩) := fun X hx => heldC_get hx (by rw [hCS]; simp)
            have hq3 : ∀ X, heldC X CS → X.cell? ⟨BG, 3, none⟩ = some (.int .i64 id2) := fun X hx => heldC_get hx (by rw [hCS]; simp)
            have hq4 : ∀ X, heldC X CS → X.cell? ⟨BG, 4, none⟩ = some (.int .i64 a2) := fun X hx => heldC_get hx (by rw [hCS]; simp)
            have hq5 : ∀ X, heldC X CS → X.cell? ⟨BG, 5, none⟩ = some (.int .i64 b2) := fun X hx => heldC_get hx (by rw [hCS]; simp)
            have hq6 : ∀ X, heldC X CS → X.cell? ⟨BG, 6, none⟩ = some (.int .i64 c2) := fun X hx => heldC_get hx (by rw [hCS]; simp)
            have hq7 : ∀ X, heldC X CS → X.cell? ⟨BG, 7, none⟩ = some (.string ⟨st2.toArray⟩) := fun X hx => heldC_get hx (by rw [hCS]; simp)
            have hq8 : ∀ X, heldC X CS → X.cell? ⟨b, off + k * 8, none⟩ = some (.int .i64 k1) := fun X hx => heldC_get hx (by rw [hCS]; simp)
            have hq9 : ∀ X, heldC X CS → X.cell? ⟨b, off + k * 8 + 1, none⟩ = some (.string ⟨u1.toArray⟩) := fun X hx => heldC_get hx (by rw [hCS]; simp)
            have hq10 : ∀ X, heldC X CS → X.cell? ⟨b, off + k * 8 + 2, none⟩ = some (.string ⟨o1.toArray⟩) := fun X hx => heldC_get hx (by rw [hCS]; simp)
            have hq11 : ∀ X, heldC X CS → X.cell? ⟨b, off + k * 8 + 3, none⟩ = some (.int .i64 id1) := fun X hx => heldC_get hx (by rw [hCS]; simp)
            have hq12 : ∀ X, heldC X CS → X.cell? ⟨b, off + k * 8 + 4, none⟩ = some (.int .i64 a1) := fun X hx => heldC_get hx (by rw [hCS]; simp)
            have hq13 : ∀ X, heldC X CS → X.cell? ⟨b, off + k * 8 + 5, none⟩ = some (.int .i64 b1) := fun X hx => heldC_get hx (by rw [hCS]; simp)
            have hq14 : ∀ X, heldC X CS → X.cell? ⟨b, off + k * 8 + 6, none⟩ = some (.int .i64 c1) := fun X hx => heldC_get hx (by rw [hCS]; simp)
            have hq15 : ∀ X, heldC X CS → X.cell? ⟨b, off + k * 8 + 7, none⟩ = some (.string ⟨st1.toArray⟩) := fun X hx => heldC_get hx (by rw [hCS]; simp)
            clear hCS
            clear hBS
            have K0 : Hid (Below w609.heap.size w609 w609.drew) := Lib.hid (Below.refl _ _).drew
            refine wp_region_held_drew (S := (fun X => heldC X CS)) (by kernel_rfl) ?_ (fun hHeld => ?_)
            · exact heldC_up K0.out D0.out
            generalize w609.drew = z0 at K0 hHeld ⊢
            refine wpAnyH_take (i := 0) (oi := { dst := some 98, op := Op.move (Operand.tmp 11), type := 4, pos := "law.go:82", after := #[], guard := none }) (v := ?_) rfl (by as_aux_lemma => kernel_rfl) (by as_aux_lemma => kernel_rfl) (by as_aux_lemma => kernel_rfl) (fun _ _ _ h => h) (Or.inl ⟨by rfl, ?_⟩) (by assumption) ?_
            rotate_left
            · intro w' hSw
              try dsimp only at hSw
              go_simp
              try with_reducible rfl
            try simp only [Act.put, List.setIfInBounds_toArray, List.set_cons_zero, List.set_cons_succ]
            refine wpAnyH_take (i := 1) (oi := { dst := some 99, op := Op.move (Operand.tmp 98), type := 4, pos := "law.go:82", after := #[{ on := 0, ground := Ground.data }], guard := none }) (v := ?_) rfl (by as_aux_lemma => kernel_rfl) (by as_aux_lemma => kernel_rfl) (by as_aux_lemma => kernel_rfl) (fun _ _ _ h => h) (Or.inl ⟨by rfl, ?_⟩) (by assumption) ?_
            rotate_left
            · intro w' hSw
              try dsimp only at hSw
              go_simp
              try with_reducible rfl
            try simp only [Act.put, List.setIfInBounds_toArray, List.set_cons_zero, List.set_cons_succ]
            refine wpAnyH_take (i := 2) (oi := { dst := some 100, op := Op.move (Operand.tmp 13), type := 4, pos := "law.go:82", after := #[{ on := 1, ground := Ground.guard }], guard := some (1, true) }) (v := undef) rfl (by as_aux_lemma => kernel_rfl) (by as_aux_lemma => kernel_rfl) (by as_aux_lemma => kernel_rfl) (fun _ _ _ h => h) (Or.inr ⟨by rfl, rfl⟩) (by assumption) ?_
            try simp only [Act.put, List.setIfInBounds_toArray, List.set_cons_zero, List.set_cons_succ]
            refine wpAnyH_take (i := 3) (oi := { dst := some 101, op := Op.unOp UnOp.not 4 (Operand.tmp 100), type := 4, pos := "law.go:82", after := #[{ on := 2, ground := Ground.data }, { on := 1, ground := Ground.guard }], guard := some (1, true) }) (v := undef) rfl (by as_aux_lemma => kernel_rfl) (by as_aux_lemma => kernel_rfl) (by as_aux_lemma => kernel_rfl) (fun _ _ _ h => h) (Or.inr ⟨by rfl, rfl⟩) (by assumption) ?_
            try simp only [Act.put, List.setIfInBounds_toArray, List.set_cons_zero, List.set_cons_succ]
            refine wpAnyH_take (i := 4) (oi := { dst := some 102, op := Op.move (Operand.tmp 101), type := 4, pos := "law.go:82", after := #[{ on := 3, ground := Ground.data }, { on := 1, ground := Ground.chain }, { on := 1, ground := Ground.guard }], guard := some (1, true) }) (v := undef) rfl (by as_aux_lemma => kernel_rfl) (by as_aux_lemma => kernel_rfl) (by as_aux_lemma => kernel_rfl) (fun _ _ _ h => h) (Or.inr ⟨by rfl, rfl⟩) (by assumption) ?_
            try simp only [Act.put, List.setIfInBounds_toArray, List.set_cons_zero, List.set_cons_succ]
            refine wpAnyH_take (i := 5) (oi := { dst := some 103, op := Op.load 26 (Operand.tmp 12), type := 26, pos := "law.go:82", after := #[{ on := 4, ground := Ground.guard }], guard := some (4, false) }) (v := undef) rfl (by as_aux_lemma => kernel_rfl) (by as_aux_lemma => kernel_rfl) (by as_aux_lemma => kernel_rfl) (fun _ _ _ h => h) (Or.inr ⟨by rfl, rfl⟩) (by assumption) ?_
            try simp only [Act.put, List.setIfInBounds_toArray, List.set_cons_zero, List.set_cons_succ]
            refine wpAnyH_take (i := 6) (oi := { dst := some 104, op := Op.move (Operand.tmp 0), type := 31, pos := "law.go:82", after := #[{ on := 4, ground := Ground.guard }], guard := some (4, false) }) (v := undef) rfl (by as_aux_lemma => kernel_rfl) (by as_aux_lemma => kernel_rfl) (by as_aux_lemma => kernel_rfl) (fun _ _ _ h => h) (Or.inr ⟨by rfl, rfl⟩) (by assumption) ?_
            try simp only [Act.put, List.setIfInBounds_toArray, List.set_cons_zero, List.set_cons_succ]
            refine wpAnyH_take (i := 7) (oi := { dst := some 105, op := Op.move (Operand.tmp 6), type := 3, pos := "law.go:82", after := #[{ on := 4, ground := Ground.guard }], guard := some (4, false) }) (v := undef) rfl (by as_aux_lemma => kernel_rfl) (by as_aux_lemma => kernel_rfl) (by as_aux_lemma => kernel_rfl) (fun _ _ _ h => h) (Or.inr ⟨by rfl, rfl⟩) (by assumption) ?_
            try simp only [Act.put, List.setIfInBounds_toArray, List.set_cons_zero, List.set_cons_succ]
            refine wpAnyH_take (i := 8) (oi := { dst := some 106, op := Op.indexAddr 31 (Operand.tmp 104) (Operand.tmp 105), type := 0, pos := "law.go:82", after := #[{ on := 6, ground := Ground.data }, { on := 7, ground := Ground.data }, { on := 4, ground := Ground.guard }], guard := some (4, false) }) (v := undef) rfl (by as_aux_lemma => kernel_rfl) (by as_aux_lemma => kernel_rfl) (by as_aux_lemma => kernel_rfl) (fun _ _ _ h => h) (Or.inr ⟨by rfl, rfl⟩) (by assumption) ?_
            try simp only [Act.put, List.setIfInBounds_toArray, List.set_cons_zero, List.set_cons_succ]
            refine wpAnyH_take (i := 9) (oi := { dst := some 107, op := Op.load 26 (Operand.tmp 106), type := 26, pos := "law.go:82", after := #[{ on := 8, ground := Ground.data }, { on := 4, ground := Ground.guard }], guard := some (4, false) }) (v := undef) rfl (by as_aux_lemma => kernel_rfl) (by as_aux_lemma => kernel_rfl) (by as_aux_lemma => kernel_rfl) (fun _ _ _ h => h) (Or.inr ⟨by rfl, rfl⟩) (by assumption) ?_
            try simp only [Act.put, List.setIfInBounds_toArray, List.set_cons_zero, List.set_cons_succ]
            refine wpAnyH_take (i := 10) (oi := { dst := some 108, op := Op.binOp BinOp.neq 26 (Operand.tmp 103) (Operand.tmp 107) 26, type := 4, pos := "law.go:82", after := #[{ on := 5, ground := Ground.data }, { on := 9, ground := Ground.data }, { on := 4, ground := Ground.guard }], guard := some (4, false) }) (v := undef) rfl (by as_aux_lemma => kernel_rfl) (by as_aux_lemma => kernel_rfl) (by as_aux_lemma => kernel_rfl) (fun _ _ _ h => h) (Or.inr ⟨by rfl, rfl⟩) (by assumption) ?_
            try simp only [Act.put, List.setIfInBounds_toArray, List.set_cons_zero, List.set_cons_succ]
            refine wpAnyH_take (i := 11) (oi := { dst := some 109, op := Op.pick (Operand.tmp 102) (Operand.const (Value.bool true)) (Operand.tmp 108), type := 4, pos := "law.go:82", after := #[{ on := 4, ground := Ground.data }, { on := 10, ground := Ground.data }, { on := 1, ground := Ground.guard }], guard := some (1, true) }) (v := undef) rfl (by as_aux_lemma => kernel_rfl) (by as_aux_lemma => kernel_rfl) (by as_aux_lemma => kernel_rfl) (fun _ _ _ h => h) (Or.inr ⟨by rfl, rfl⟩) (by assumption) ?_
            try simp only [Act.put, List.setIfInBounds_toArray, List.set_cons_zero, List.set_cons_succ]
            refine wpAnyH_take (i := 12) (oi := { dst := some 110, op := Op.pick (Operand.tmp 99) (Operand.tmp 109) (Operand.const (Value.bool false)), type := 4, pos := "law.go:82", after := #[{ on := 1, ground := Ground.data }, { on := 11, ground := Ground.data }], guard := none }) (v := ?_) rfl (by as_aux_lemma => kernel_rfl) (by as_aux_lemma => kernel_rfl) (by as_aux_lemma => kernel_rfl) (fun _ _ _ h => h) (Or.inl ⟨by rfl, ?_⟩) (by assumption) ?_
            rotate_left
            · intro w' hSw
              try dsimp only at hSw
              go_simp
              try with_reducible rfl
            try simp only [Act.put, List.setIfInBounds_toArray, List.set_cons_zero, List.set_cons_succ]
            refine wpAnyH_take (i := 13) (oi := { dst := some 111, op := Op.move (Operand.tmp 110), type := 4, pos := "law.go:82", after := #[{ on := 12, ground := Ground.data }, { on := 4, ground := Ground.chain }], guard := none }) (v := ?_) rfl (by as_aux_lemma => kernel_rfl) (by as_aux_lemma => kernel_rfl) (by as_aux_lemma => kernel_rfl) (fun _ _ _ h => h) (Or.inl ⟨by rfl, ?_⟩) (by assumption) ?_
            rotate_left
            · intro w' hSw
              try dsimp only at hSw
              go_simp
              try with_reducible rfl
            try simp only [Act.put, List.setIfInBounds_toArray, List.set_cons_zero, List.set_cons_succ]
            refine wpAnyH_take (i := 14) (oi := { dst := some 112, op := Op.move (Operand.tmp 13), type := 4, pos := "law.go:82", after := #[{ on := 13, ground := Ground.guard }], guard := some (13, false) }) (v := ?_) rfl (by as_aux_lemma => kernel_rfl) (by as_aux_lemma => kernel_rfl) (by as_aux_lemma => kernel_rfl) (fun _ _ _ h => h) (Or.inl ⟨by rfl, ?_⟩) (by assumption) ?_
            rotate_left
            · intro w' hSw
              try dsimp only at hSw
              go_simp
              try with_reducible rfl
            try simp only [Act.put, List.setIfInBounds_toArray, List.set_cons_zero, List.set_cons_succ]
            refine wpAnyH_take (i := 15) (oi := { dst := some 113, op := Op.move (Operand.tmp 112), type := 4, pos := "law.go:82", after := #[{ on := 14, ground := Ground.data }, { on := 13, ground := Ground.chain }, { on := 13, ground := Ground.guard }], guard := some (13, false) }) (v := ?_) rfl (by as_aux_lemma => kernel_rfl) (by as_aux_lemma => kernel_rfl) (by as_aux_lemma => kernel_rfl) (fun _ _ _ h => h) (Or.inl ⟨by rfl, ?_⟩) (by assumption) ?_
            rotate_left
            · intro w' hSw
              try dsimp only at hSw
              go_simp
              try with_reducible rfl
            try simp only [Act.put, List.setIfInBounds_toArray, List.set_cons_zero, List.set_cons_succ]
            refine wpAnyH_take (i := 16) (oi := { dst := some 114, op := Op.load 26 (Operand.tmp 12), type := 26, pos := "law.go:82", after := #[{ on := 15, ground := Ground.guard }], guard := some (15, true) }) (v := undef) rfl (by as_aux_lemma => kernel_rfl) (by as_aux_lemma => kernel_rfl) (by as_aux_lemma => kernel_rfl) (fun _ _ _ h => h) (Or.inr ⟨by rfl, rfl⟩) (by assumption) ?_
            try simp only [Act.put, List.setIfInBounds_toArray, List.set_cons_zero, List.set_cons_succ]
            refine wpAnyH_take (i := 17) (oi := { dst := some 115, op := Op.call { callee := Callee.value (Operand.func 19), args := #[Operand.tmp 114], argTypes := #[26] }, type := 4, pos := "law.go:82", after := #[{ on := 16, ground := Ground.data }, { on := 15, ground := Ground.chain }, { on := 15, ground := Ground.guard }], guard := some (15, true) }) (v := undef) rfl (by as_aux_lemma => kernel_rfl) (by as_aux_lemma => kernel_rfl) (by as_aux_lemma => kernel_rfl) (fun _ _ _ h => h) (Or.inr ⟨by rfl, rfl⟩) (by assumption) ?_
            try simp only [Act.put, List.setIfInBounds_toArray, List.set_cons_zero, List.set_cons_succ]
            refine wpAnyH_take (i := 18) (oi := { dst := some 116, op := Op.unOp UnOp.not 4 (Operand.tmp 115), type := 4, pos := "law.go:82", after := #[{ on := 17, ground := Ground.data }, { on := 15, ground := Ground.guard }], guard := some (15, true) }) (v := undef) rfl (by as_aux_lemma => kernel_rfl) (by as_aux_lemma => kernel_rfl) (by as_aux_lemma => kernel_rfl) (fun _ _ _ h => h) (Or.inr ⟨by rfl, rfl⟩) (by assumption) ?_
            try simp only [Act.put, List.setIfInBounds_toArray, List.set_cons_zero, List.set_cons_succ]
            refine wpAnyH_take (i := 19) (oi := { dst := some 117, op := Op.pick (Operand.tmp 113) (Operand.tmp 116) (Operand.const (Value.bool false)), type := 4, pos := "law.go:82", after := #[{ on := 15, ground := Ground.data }, { on := 18, ground := Ground.data }, { on := 13, ground := Ground.guard }], guard := some (13, false) }) (v := ?_) rfl (by as_aux_lemma => kernel_rfl) (by as_aux_lemma => kernel_rfl) (by as_aux_lemma => kernel_rfl) (fun _ _ _ h => h) (Or.inl ⟨by rfl, ?_⟩) (by assumption) ?_
            rotate_left
            · intro w' hSw
              try dsimp only at hSw
              go_simp
              try with_reducible rfl
            try simp only [Act.put, List.setIfInBounds_toArray, List.set_cons_zero, List.set_cons_succ]
            refine wpAnyH_take (i := 20) (oi := { dst := some 118, op := Op.pick (Operand.tmp 111) (Operand.const (Value.bool true)) (Operand.tmp 117), type := 4, pos := "law.go:82", after := #[{ on := 13, ground := Ground.data }, { on := 19, ground := Ground.data }], guard := none }) (v := ?_) rfl (by as_aux_lemma => kernel_rfl) (by as_aux_lemma => kernel_rfl) (by as_aux_lemma => kernel_rfl) (fun _ _ _ h => h) (Or.inl ⟨by rfl, ?_⟩) (by assumption) ?_
            rotate_left
            · intro w' hSw
              try dsimp only at hSw
              go_simp
              try with_reducible rfl
            try simp only [Act.put, List.setIfInBounds_toArray, List.set_cons_zero, List.set_cons_succ]
            refine wpAnyH_done (by kernel_rfl) ?_ _
            clear m0 m1 m2 m3 m4 m5 m6 m7 Gc0 Gc1 Gc2 Gc3 Gc4 Gc5 Gc6 Gc7 Gf0 Gf1 Gf2 Gf3 Gf4 Gf5 Gf6 Gf7
            replace D := Lib.hid (upQ D.out K0.out)
            replace G := Lib.hid (upQ G.out K0.out)
            replace V := Lib.hid (RdS.later V.out K0.out)
            replace HC := Lib.hid ((HC.out).later K0.out)
            replace HB := Lib.hid (below2Z HB.out K0.out)
            try clear hHeld D0 K0
            go_wp2_with fail
            go_roundw
            case rel => exact ⟨k + 1, _, by omega, rfl, by go_num, HG2, V, HB⟩
            case measure => simp [intOf]; omega
      | true =>
        cases g with
        | true =>
          have HX := scEnc_yes HM.out
          have HD := scDec_enc HM.out
          have hcl := scBytes_short HM.out
          generalize cseal (scBytes ⟨k1, u1, o1, id1, ⟨a1, b1, c1, st1⟩⟩) = s1 at HX HD hcl
          replace HX := Lib.hid HX
          replace HD := Lib.hid HD
          have hs1l : s1.length ≤ 4294967296 := by omega
          have HF := Lib.hid (scFold_may HM.out)
          have heq := fun w => (ev_neq k1 k1 id1 id1 u1 u1 o1 o1 a1 b1 c1 a1 b1 c1 st1 st1 w).trans (by rw [evEq_self])
          have HEQ := Lib.hid heq
          clear heq
          obtain ⟨m0, m1, m2, m3, m4, m5, m6, m7⟩ := eightAt HC.out
          go_wp2_with fail
          clear m0 m1 m2 m3 m4 m5 m6 m7
          refine (scenc_any k1 u1 o1 st1 id1 a1 b1 c1 hes HX _).mono ?_
          rintro e w101 ⟨rfl, b101⟩
          replace V := Lib.hid (RdS.later V.out b101)
          replace HC := Lib.hid ((HC.out).later b101)
          replace HB := Lib.hid (below2Z HB.out b101)
          clear b101
          go_wp2_with fail
          refine (scdec_any s1 hs1l HD _).mono ?_
          rintro e w102 ⟨rfl, b102⟩
          replace V := Lib.hid (RdS.later V.out b102)
          replace HC := Lib.hid ((HC.out).later b102)
          replace HB := Lib.hid (below2Z HB.out b102)
          clear b102
          obtain ⟨m0, m1, m2, m3, m4, m5, m6, m7⟩ := eightAt HC.out
          have hbw := World.block_lt_of_cell? _ _ m0
          go_wp2_with fail
          clear m0 m1 m2 m3 m4 m5 m6 m7 hbw
          have b103 := bl_newZ w102 (.cells #[.int .i64 k1, .string ⟨u1.toArray⟩, .string ⟨o1.toArray⟩, .int .i64 id1, .int .i64 a1, .int .i64 b1, .int .i64 c1, .string ⟨st1.toArray⟩] 26)
          have D := newQ w102 (.cells #[.int .i64 k1, .string ⟨u1.toArray⟩, .string ⟨o1.toArray⟩, .int .i64 id1, .int .i64 a1, .int .i64 b1, .int .i64 c1, .string ⟨st1.toArray⟩] 26)
          have hD : w.heap.size ≤ w102.heap.size := HB.out.size
          replace V := Lib.hid (RdS.later V.out b103)
          replace HC := Lib.hid ((HC.out).later b103)
          replace HB := Lib.hid (below2Z HB.out b103)
          clear b103
          replace D := Lib.hid D
          generalize w102.alloc (.cells #[.int .i64 k1, .string ⟨u1.toArray⟩, .string ⟨o1.toArray⟩, .int .i64 id1, .int .i64 a1, .int .i64 b1, .int .i64 c1, .string ⟨st1.toArray⟩] 26) = w104 at D V HC HB ⊢
          generalize w102.heap.size = BD at D hD ⊢
          refine (scmay_any k1 u1 o1 st1 id1 a1 b1 c1 hes HM _).mono ?_
          rintro e w105 ⟨rfl, b105⟩
          replace D := Lib.hid (upQ D.out b105)
          replace V := Lib.hid (RdS.later V.out b105)
          replace HC := Lib.hid ((HC.out).later b105)
          replace HB := Lib.hid (below2Z HB.out b105)
          clear b105
          obtain ⟨⟨Dc0, Dc1, Dc2, Dc3, Dc4, Dc5, Dc6, Dc7⟩, ⟨Df0, Df1, Df2, Df3, Df4, Df5, Df6, Df7⟩⟩ := blk8 D.out
          obtain ⟨m0, m1, m2, m3, m4, m5, m6, m7⟩ := eightAt HC.out
          have heq := HEQ.out
          go_wp2_with fail
          go_region
          clear Dc0 Dc1 Dc2 Dc3 Dc4 Dc5 Dc6 Dc7 Df0 Df1 Df2 Df3 Df4 Df5 Df6 Df7 m0 m1 m2 m3 m4 m5 m6 m7 heq
          have bd : Below w105.heap.size w105 w105.drew := (Below.refl _ _).drew
          replace D := Lib.hid (upQ D.out bd)
          replace V := Lib.hid (RdS.later V.out bd)
          replace HC := Lib.hid ((HC.out).later bd)
          replace HB := Lib.hid (below2Z HB.out bd)
          clear bd
          generalize w105.drew = w106 at V HC HB D ⊢
          obtain ⟨m0, m1, m2, m3, m4, m5, m6, m7⟩ := eightAt HC.out
          go_wp2_with fail
          clear m0 m1 m2 m3 m4 m5 m6 m7
          refine (scfold_any k1 u1 o1 st1 id1 a1 b1 c1 hes HF _).mono ?_
          rintro e w107 ⟨rfl, b107⟩
          replace D := Lib.hid (upQ D.out b107)
          replace V := Lib.hid (RdS.later V.out b107)
          replace HC := Lib.hid ((HC.out).later b107)
          replace HB := Lib.hid (below2Z HB.out b107)
          clear b107
          go_wp2_with fail
          have b108 := bl_newZ w107 (.cells #[.int .i64 k1, .string ⟨u1.toArray⟩, .string ⟨o1.toArray⟩, .int .i64 id1, .int .i64 a1, .int .i64 b1, .int .i64 c1, .string ⟨st1.toArray⟩] 26)
          have G := newQ w107 (.cells #[.int .i64 k1, .string ⟨u1.toArray⟩, .string ⟨o1.toArray⟩, .int .i64 id1, .int .i64 a1, .int .i64 b1, .int .i64 c1, .string ⟨st1.toArray⟩] 26)
          have hG : w.heap.size ≤ w107.heap.size := HB.out.size
          replace D := Lib.hid (upQ D.out b108)
          replace V := Lib.hid (RdS.later V.out b108)
          replace HC := Lib.hid ((HC.out).later b108)
          replace HB := Lib.hid (below2Z HB.out b108)
          clear b108
          replace G := Lib.hid G
          generalize w107.alloc (.cells #[.int .i64 k1, .string ⟨u1.toArray⟩, .string ⟨o1.toArray⟩, .int .i64 id1, .int .i64 a1, .int .i64 b1, .int .i64 c1, .string ⟨st1.toArray⟩] 26) = w109 at D G V HC HB ⊢
          generalize w107.heap.size = BG at G hG ⊢
          have heq := HEQ.out
          obtain ⟨m0, m1, m2, m3, m4, m5, m6, m7⟩ := eightAt HC.out
          obtain ⟨⟨Gc0, Gc1, Gc2, Gc3, Gc4, Gc5, Gc6, Gc7⟩, ⟨Gf0, Gf1, Gf2, Gf3, Gf4, Gf5, Gf6, Gf7⟩⟩ := blk8 G.out
          obtain ⟨BS, hBS⟩ : ∃ BS : List (Nat × List Value), BS = [] := ⟨_, rfl⟩
          obtain ⟨CS, hCS⟩ : ∃ CS : List (Nat × Nat × Value), CS = [(BG, 0, .int .i64 k1), (BG, 1, .string ⟨u1.toArray⟩), (BG, 2, .string ⟨o1.toArray⟩), (BG, 3, .int .i64 id1), (BG, 4, .int .i64 a1), (BG, 5, .int .i64 b1), (BG, 6, .int .i64 c1), (BG, 7, .string ⟨st1.toArray⟩), (b, off + k * 8, .int .i64 k1), (b, off + k * 8 + 1, .string ⟨u1.toArray⟩), (b, off + k * 8 + 2, .string ⟨o1.toArray⟩), (b, off + k * 8 + 3, .int .i64 id1), (b, off + k * 8 + 4, .int .i64 a1), (b, off + k * 8 + 5, .int .i64 b1), (b, off + k * 8 + 6, .int .i64 c1), (b, off + k * 8 + 7, .string ⟨st1.toArray⟩)] := ⟨_, rfl⟩
          have D0 := Lib.hid (show heldC w109 CS from by rw [hCS]; exact heldC_cons (Gc0) (heldC_cons (Gc1) (heldC_cons (Gc2) (heldC_cons (Gc3) (heldC_cons (Gc4) (heldC_cons (Gc5) (heldC_cons (Gc6) (heldC_cons (Gc7) (heldC_cons (m0) (heldC_cons (m1) (heldC_cons (m2) (heldC_cons (m3) (heldC_cons (m4) (heldC_cons (m5) (heldC_cons (m6) (heldC_cons (m7) (heldC_nil _)))))))))))))))))
          have hq0 : ∀ X, heldC X CS → X.cell? ⟨BG, 0, none⟩ = some (.int .i64 k1) := fun X hx => heldC_get hx (by rw [hCS]; simp)
          have hq1 : ∀ X, heldC X CS → X.cell? ⟨BG, 1, none⟩ = some (.string ⟨u1.toArray⟩) := fun X hx => heldC_get hx (by rw [hCS]; simp)
          have hq2 : ∀ X, heldC X CS → X.cell? ⟨BG, 2, none⟩ = some (.string ⟨o1.toArray⟩) := fun X hx => heldC_get hx (by rw [hCS]; simp)
          have hq3 : ∀ X, heldC X CS → X.cell? ⟨BG, 3, none⟩ = some (.int .i64 id1) := fun X hx => heldC_get hx (by rw [hCS]; simp)
          have hq4 : ∀ X, heldC X CS → X.cell? ⟨BG, 4, none⟩ = some (.int .i64 a1) := fun X hx => heldC_get hx (by rw [hCS]; simp)
          have hq5 : ∀ X, heldC X CS → X.cell? ⟨BG, 5, none⟩ = some (.int .i64 b1) := fun X hx => heldC_get hx (by rw [hCS]; simp)
          have hq6 : ∀ X, heldC X CS → X.cell? ⟨BG, 6, none⟩ = some (.int .i64 c1) := fun X hx => heldC_get hx (by rw [hCS]; simp)
          have hq7 : ∀ X, heldC X CS → X.cell? ⟨BG, 7, none⟩ = some (.string ⟨st1.toArray⟩) := fun X hx => heldC_get hx (by rw [hCS]; simp)
          have hq8 : ∀ X, heldC X CS → X.cell? ⟨b, off + k * 8, none⟩ = some (.int .i64 k1) := fun X hx => heldC_get hx (by rw [hCS]; simp)
          have hq9 : ∀ X, heldC X CS → X.cell? ⟨b, off + k * 8 + 1, none⟩ = some (.string ⟨u1.toArray⟩) := fun X hx => heldC_get hx (by rw [hCS]; simp)
          have hq10 : ∀ X, heldC X CS → X.cell? ⟨b, off + k * 8 + 2, none⟩ = some (.string ⟨o1.toArray⟩) := fun X hx => heldC_get hx (by rw [hCS]; simp)
          have hq11 : ∀ X, heldC X CS → X.cell? ⟨b, off + k * 8 + 3, none⟩ = some (.int .i64 id1) := fun X hx => heldC_get hx (by rw [hCS]; simp)
          have hq12 : ∀ X, heldC X CS → X.cell? ⟨b, off + k * 8 + 4, none⟩ = some (.int .i64 a1) := fun X hx => heldC_get hx (by rw [hCS]; simp)
          have hq13 : ∀ X, heldC X CS → X.cell? ⟨b, off + k * 8 + 5, none⟩ = some (.int .i64 b1) := fun X hx => heldC_get hx (by rw [hCS]; simp)
          have hq14 : ∀ X, heldC X CS → X.cell? ⟨b, off + k * 8 + 6, none⟩ = some (.int .i64 c1) := fun X hx => heldC_get hx (by rw [hCS]; simp)
          have hq15 : ∀ X, heldC X CS → X.cell? ⟨b, off + k * 8 + 7, none⟩ = some (.string ⟨st1.toArray⟩) := fun X hx => heldC_get hx (by rw [hCS]; simp)
          clear hCS
          clear hBS
          have K0 : Hid (Below w109.heap.size w109 w109.drew) := Lib.hid (Below.refl _ _).drew
          refine wp_region_held_drew (S := (fun X => heldC X CS)) (by kernel_rfl) ?_ (fun hHeld => ?_)
          · exact heldC_up K0.out D0.out
          generalize w109.drew = z0 at K0 hHeld ⊢
          refine wpAnyH_take (i := 0) (oi := { dst := some 98, op := Op.move (Operand.tmp 11), type := 4, pos := "law.go:82", after := #[], guard := none }) (v := ?_) rfl (by as_aux_lemma => kernel_rfl) (by as_aux_lemma => kernel_rfl) (by as_aux_lemma => kernel_rfl) (fun _ _ _ h => h) (Or.inl ⟨by rfl, ?_⟩) (by assumption) ?_
          rotate_left
          · intro w' hSw
            try dsimp only at hSw
            go_simp
            try with_reducible rfl
          try simp only [Act.put, List.setIfInBounds_toArray, List.set_cons_zero, List.set_cons_succ]
          refine wpAnyH_take (i := 1) (oi := { dst := some 99, op := Op.move (Operand.tmp 98), type := 4, pos := "law.go:82", after := #[{ on := 0, ground := Ground.data }], guard := none }) (v := ?_) rfl (by as_aux_lemma => kernel_rfl) (by as_aux_lemma => kernel_rfl) (by as_aux_lemma => kernel_rfl) (fun _ _ _ h => h) (Or.inl ⟨by rfl, ?_⟩) (by assumption) ?_
          rotate_left
          · intro w' hSw
            try dsimp only at hSw
            go_simp
            try with_reducible rfl
          try simp only [Act.put, List.setIfInBounds_toArray, List.set_cons_zero, List.set_cons_succ]
          refine wpAnyH_take (i := 2) (oi := { dst := some 100, op := Op.move (Operand.tmp 13), type := 4, pos := "law.go:82", after := #[{ on := 1, ground := Ground.guard }], guard := some (1, true) }) (v := ?_) rfl (by as_aux_lemma => kernel_rfl) (by as_aux_lemma => kernel_rfl) (by as_aux_lemma => kernel_rfl) (fun _ _ _ h => h) (Or.inl ⟨by rfl, ?_⟩) (by assumption) ?_
          rotate_left
          · intro w' hSw
            try dsimp only at hSw
            go_simp
            try with_reducible rfl
          try simp only [Act.put, List.setIfInBounds_toArray, List.set_cons_zero, List.set_cons_succ]
          refine wpAnyH_take (i := 3) (oi := { dst := some 101, op := Op.unOp UnOp.not 4 (Operand.tmp 100), type := 4, pos := "law.go:82", after := #[{ on := 2, ground := Ground.data }, { on := 1, ground := Ground.guard }], guard := some (1, true) }) (v := ?_) rfl (by as_aux_lemma => kernel_rfl) (by as_aux_lemma => kernel_rfl) (by as_aux_lemma => kernel_rfl) (fun _ _ _ h => h) (Or.inl ⟨by rfl, ?_⟩) (by assumption) ?_
          rotate_left
          · intro w' hSw
            try dsimp only at hSw
            go_simp
            try with_reducible rfl
          try simp only [Act.put, List.setIfInBounds_toArray, List.set_cons_zero, List.set_cons_succ]
          refine wpAnyH_take (i := 4) (oi := { dst := some 102, op := Op.move (Operand.tmp 101), type := 4, pos := "law.go:82", after := #[{ on := 3, ground := Ground.data }, { on := 1, ground := Ground.chain }, { on := 1, ground := Ground.guard }], guard := some (1, true) }) (v := ?_) rfl (by as_aux_lemma => kernel_rfl) (by as_aux_lemma => kernel_rfl) (by as_aux_lemma => kernel_rfl) (fun _ _ _ h => h) (Or.inl ⟨by rfl, ?_⟩) (by assumption) ?_
          rotate_left
          · intro w' hSw
            try dsimp only at hSw
            go_simp
            try with_reducible rfl
          try simp only [Act.put, List.setIfInBounds_toArray, List.set_cons_zero, List.set_cons_succ]
          refine wpAnyH_take (i := 5) (oi := { dst := some 103, op := Op.load 26 (Operand.tmp 12), type := 26, pos := "law.go:82", after := #[{ on := 4, ground := Ground.guard }], guard := some (4, false) }) (v := ?_) rfl (by as_aux_lemma => kernel_rfl) (by as_aux_lemma => kernel_rfl) (by as_aux_lemma => kernel_rfl) (fun _ _ _ h => h) (Or.inl ⟨by rfl, ?_⟩) (by assumption) ?_
          rotate_left
          · intro w' hSw
            try dsimp only at hSw
            go_simp
            try with_reducible rfl
          try simp only [Act.put, List.setIfInBounds_toArray, List.set_cons_zero, List.set_cons_succ]
          refine wpAnyH_take (i := 6) (oi := { dst := some 104, op := Op.move (Operand.tmp 0), type := 31, pos := "law.go:82", after := #[{ on := 4, ground := Ground.guard }], guard := some (4, false) }) (v := ?_) rfl (by as_aux_lemma => kernel_rfl) (by as_aux_lemma => kernel_rfl) (by as_aux_lemma => kernel_rfl) (fun _ _ _ h => h) (Or.inl ⟨by rfl, ?_⟩) (by assumption) ?_
          rotate_left
          · intro w' hSw
            try dsimp only at hSw
            go_simp
            try with_reducible rfl
          try simp only [Act.put, List.setIfInBounds_toArray, List.set_cons_zero, List.set_cons_succ]
          refine wpAnyH_take (i := 7) (oi := { dst := some 105, op := Op.move (Operand.tmp 6), type := 3, pos := "law.go:82", after := #[{ on := 4, ground := Ground.guard }], guard := some (4, false) }) (v := ?_) rfl (by as_aux_lemma => kernel_rfl) (by as_aux_lemma => kernel_rfl) (by as_aux_lemma => kernel_rfl) (fun _ _ _ h => h) (Or.inl ⟨by rfl, ?_⟩) (by assumption) ?_
          rotate_left
          · intro w' hSw
            try dsimp only at hSw
            go_simp
            try with_reducible rfl
          try simp only [Act.put, List.setIfInBounds_toArray, List.set_cons_zero, List.set_cons_succ]
          refine wpAnyH_take (i := 8) (oi := { dst := some 106, op := Op.indexAddr 31 (Operand.tmp 104) (Operand.tmp 105), type := 0, pos := "law.go:82", after := #[{ on := 6, ground := Ground.data }, { on := 7, ground := Ground.data }, { on := 4, ground := Ground.guard }], guard := some (4, false) }) (v := ?_) rfl (by as_aux_lemma => kernel_rfl) (by as_aux_lemma => kernel_rfl) (by as_aux_lemma => kernel_rfl) (fun _ _ _ h => h) (Or.inl ⟨by rfl, ?_⟩) (by assumption) ?_
          rotate_left
          · intro w' hSw
            try dsimp only at hSw
            go_simp
            try with_reducible rfl
          try simp only [Act.put, List.setIfInBounds_toArray, List.set_cons_zero, List.set_cons_succ]
          refine wpAnyH_take (i := 9) (oi := { dst := some 107, op := Op.load 26 (Operand.tmp 106), type := 26, pos := "law.go:82", after := #[{ on := 8, ground := Ground.data }, { on := 4, ground := Ground.guard }], guard := some (4, false) }) (v := ?_) rfl (by as_aux_lemma => kernel_rfl) (by as_aux_lemma => kernel_rfl) (by as_aux_lemma => kernel_rfl) (fun _ _ _ h => h) (Or.inl ⟨by rfl, ?_⟩) (by assumption) ?_
          rotate_left
          · intro w' hSw
            try dsimp only at hSw
            go_simp
            try with_reducible rfl
          try simp only [Act.put, List.setIfInBounds_toArray, List.set_cons_zero, List.set_cons_succ]
          refine wpAnyH_take (i := 10) (oi := { dst := some 108, op := Op.binOp BinOp.neq 26 (Operand.tmp 103) (Operand.tmp 107) 26, type := 4, pos := "law.go:82", after := #[{ on := 5, ground := Ground.data }, { on := 9, ground := Ground.data }, { on := 4, ground := Ground.guard }], guard := some (4, false) }) (v := ?_) rfl (by as_aux_lemma => kernel_rfl) (by as_aux_lemma => kernel_rfl) (by as_aux_lemma => kernel_rfl) (fun _ _ _ h => h) (Or.inl ⟨by rfl, ?_⟩) (by assumption) ?_
          rotate_left
          · intro w' hSw
            try dsimp only at hSw
            go_simp
            try with_reducible rfl
          try simp only [Act.put, List.setIfInBounds_toArray, List.set_cons_zero, List.set_cons_succ]
          refine wpAnyH_take (i := 11) (oi := { dst := some 109, op := Op.pick (Operand.tmp 102) (Operand.const (Value.bool true)) (Operand.tmp 108), type := 4, pos := "law.go:82", after := #[{ on := 4, ground := Ground.data }, { on := 10, ground := Ground.data }, { on := 1, ground := Ground.guard }], guard := some (1, true) }) (v := ?_) rfl (by as_aux_lemma => kernel_rfl) (by as_aux_lemma => kernel_rfl) (by as_aux_lemma => kernel_rfl) (fun _ _ _ h => h) (Or.inl ⟨by rfl, ?_⟩) (by assumption) ?_
          rotate_left
          · intro w' hSw
            try dsimp only at hSw
            go_simp
            try with_reducible rfl
          try simp only [Act.put, List.setIfInBounds_toArray, List.set_cons_zero, List.set_cons_succ]
          refine wpAnyH_take (i := 12) (oi := { dst := some 110, op := Op.pick (Operand.tmp 99) (Operand.tmp 109) (Operand.const (Value.bool false)), type := 4, pos := "law.go:82", after := #[{ on := 1, ground := Ground.data }, { on := 11, ground := Ground.data }], guard := none }) (v := ?_) rfl (by as_aux_lemma => kernel_rfl) (by as_aux_lemma => kernel_rfl) (by as_aux_lemma => kernel_rfl) (fun _ _ _ h => h) (Or.inl ⟨by rfl, ?_⟩) (by assumption) ?_
          rotate_left
          · intro w' hSw
            try dsimp only at hSw
            go_simp
            try with_reducible rfl
          try simp only [Act.put, List.setIfInBounds_toArray, List.set_cons_zero, List.set_cons_succ]
          refine wpAnyH_take (i := 13) (oi := { dst := some 111, op := Op.move (Operand.tmp 110), type := 4, pos := "law.go:82", after := #[{ on := 12, ground := Ground.data }, { on := 4, ground := Ground.chain }], guard := none }) (v := ?_) rfl (by as_aux_lemma => kernel_rfl) (by as_aux_lemma => kernel_rfl) (by as_aux_lemma => kernel_rfl) (fun _ _ _ h => h) (Or.inl ⟨by rfl, ?_⟩) (by assumption) ?_
          rotate_left
          · intro w' hSw
            try dsimp only at hSw
            go_simp
            try with_reducible rfl
          try simp only [Act.put, List.setIfInBounds_toArray, List.set_cons_zero, List.set_cons_succ]
          refine wpAnyH_take (i := 14) (oi := { dst := some 112, op := Op.move (Operand.tmp 13), type := 4, pos := "law.go:82", after := #[{ on := 13, ground := Ground.guard }], guard := some (13, false) }) (v := ?_) rfl (by as_aux_lemma => kernel_rfl) (by as_aux_lemma => kernel_rfl) (by as_aux_lemma => kernel_rfl) (fun _ _ _ h => h) (Or.inl ⟨by rfl, ?_⟩) (by assumption) ?_
          rotate_left
          · intro w' hSw
            try dsimp only at hSw
            go_simp
            try with_reducible rfl
          try simp only [Act.put, List.setIfInBounds_toArray, List.set_cons_zero, List.set_cons_succ]
          refine wpAnyH_take (i := 15) (oi := { dst := some 113, op := Op.move (Operand.tmp 112), type := 4, pos := "law.go:82", after := #[{ on := 14, ground := Ground.data }, { on := 13, ground := Ground.chain }, { on := 13, ground := Ground.guard }], guard := some (13, false) }) (v := ?_) rfl (by as_aux_lemma => kernel_rfl) (by as_aux_lemma => kernel_rfl) (by as_aux_lemma => kernel_rfl) (fun _ _ _ h => h) (Or.inl ⟨by rfl, ?_⟩) (by assumption) ?_
          rotate_left
          · intro w' hSw
            try dsimp only at hSw
            go_simp
            try with_reducible rfl
          try simp only [Act.put, List.setIfInBounds_toArray, List.set_cons_zero, List.set_cons_succ]
          refine wpAnyH_take (i := 16) (oi := { dst := some 114, op := Op.load 26 (Operand.tmp 12), type := 26, pos := "law.go:82", after := #[{ on := 15, ground := Ground.guard }], guard := some (15, true) }) (v := ?_) rfl (by as_aux_lemma => kernel_rfl) (by as_aux_lemma => kernel_rfl) (by as_aux_lemma => kernel_rfl) (fun _ _ _ h => h) (Or.inl ⟨by rfl, ?_⟩) (by assumption) ?_
          rotate_left
          · intro w' hSw
            try dsimp only at hSw
            go_simp
            try with_reducible rfl
          try simp only [Act.put, List.setIfInBounds_toArray, List.set_cons_zero, List.set_cons_succ]
          refine wpAnyH_ready (rs := [17]) (by as_aux_lemma => kernel_rfl) (by simp) ?_
          refine AllReadyH.cons (o := { dst := some 115, op := Op.call { callee := Callee.value (Operand.func 19), args := #[Operand.tmp 114], argTypes := #[26] }, type := 4, pos := "law.go:82", after := #[{ on := 16, ground := Ground.data }, { on := 15, ground := Ground.chain }, { on := 15, ground := Ground.guard }], guard := some (15, true) }) rfl (fun Kx hK => ?_) AllReadyH.nil
          go_simp
          refine (scmay_any k1 u1 o1 st1 id1 a1 b1 c1 hes HM _).mono ?_
          rintro e z1001 ⟨rfl, bz1001⟩
          have K1001 := Lib.hid (below2Z K0.out bz1001)
          have D1001 := Lib.hid (heldC_up K1001.out D0.out)
          clear bz1001
          go_wp2_with fail
          refine hK.out _ _ ?_ (fun hHeld2 => ?_)
          · exact D1001.out
          clear hK Kx hHeld
          have hHeld := hHeld2
          clear hHeld2
          try simp only [Act.put, List.setIfInBounds_toArray, List.set_cons_zero, List.set_cons_succ]
          refine wpAnyH_take (i := 18) (oi := { dst := some 116, op := Op.unOp UnOp.not 4 (Operand.tmp 115), type := 4, pos := "law.go:82", after := #[{ on := 17, ground := Ground.data }, { on := 15, ground := Ground.guard }], guard := some (15, true) }) (v := ?_) rfl (by as_aux_lemma => kernel_rfl) (by as_aux_lemma => kernel_rfl) (by as_aux_lemma => kernel_rfl) (fun _ _ _ h => h) (Or.inl ⟨by rfl, ?_⟩) (by assumption) ?_
          rotate_left
          · intro w' hSw
            try dsimp only at hSw
            go_simp
            try with_reducible rfl
          try simp only [Act.put, List.setIfInBounds_toArray, List.set_cons_zero, List.set_cons_succ]
          refine wpAnyH_take (i := 19) (oi := { dst := some 117, op := Op.pick (Operand.tmp 113) (Operand.tmp 116) (Operand.const (Value.bool false)), type := 4, pos := "law.go:82", after := #[{ on := 15, ground := Ground.data }, { on := 18, ground := Ground.data }, { on := 13, ground := Ground.guard }], guard := some (13, false) }) (v := ?_) rfl (by as_aux_lemma => kernel_rfl) (by as_aux_lemma => kernel_rfl) (by as_aux_lemma => kernel_rfl) (fun _ _ _ h => h) (Or.inl ⟨by rfl, ?_⟩) (by assumption) ?_
          rotate_left
          · intro w' hSw
            try dsimp only at hSw
            go_simp
            try with_reducible rfl
          try simp only [Act.put, List.setIfInBounds_toArray, List.set_cons_zero, List.set_cons_succ]
          refine wpAnyH_take (i := 20) (oi := { dst := some 118, op := Op.pick (Operand.tmp 111) (Operand.const (Value.bool true)) (Operand.tmp 117), type := 4, pos := "law.go:82", after := #[{ on := 13, ground := Ground.data }, { on := 19, ground := Ground.data }], guard := none }) (v := ?_) rfl (by as_aux_lemma => kernel_rfl) (by as_aux_lemma => kernel_rfl) (by as_aux_lemma => kernel_rfl) (fun _ _ _ h => h) (Or.inl ⟨by rfl, ?_⟩) (by assumption) ?_
          rotate_left
          · intro w' hSw
            try dsimp only at hSw
            go_simp
            try with_reducible rfl
          try simp only [Act.put, List.setIfInBounds_toArray, List.set_cons_zero, List.set_cons_succ]
          refine wpAnyH_done (by kernel_rfl) ?_ _
          clear m0 m1 m2 m3 m4 m5 m6 m7 Gc0 Gc1 Gc2 Gc3 Gc4 Gc5 Gc6 Gc7 Gf0 Gf1 Gf2 Gf3 Gf4 Gf5 Gf6 Gf7
          replace D := Lib.hid (upQ D.out K1001.out)
          replace G := Lib.hid (upQ G.out K1001.out)
          replace V := Lib.hid (RdS.later V.out K1001.out)
          replace HC := Lib.hid ((HC.out).later K1001.out)
          replace HB := Lib.hid (below2Z HB.out K1001.out)
          try clear hHeld D0 K0
          go_wp2_with fail
          go_roundw
          case rel => exact ⟨k + 1, _, by omega, rfl, by go_num, HG2, V, HB⟩
          case measure => simp [intOf]; omega
        | false =>
          have HX := scEnc_yes HM.out
          have HD := scDec_enc HM.out
          have hcl := scBytes_short HM.out
          generalize cseal (scBytes ⟨k1, u1, o1, id1, ⟨a1, b1, c1, st1⟩⟩) = s1 at HX HD hcl
          replace HX := Lib.hid HX
          replace HD := Lib.hid HD
          have hs1l : s1.length ≤ 4294967296 := by omega
          have HF := Lib.hid (scFold_may HM.out)
          have heq := fun w => (ev_neq k1 k1 id1 id1 u1 u1 o1 o1 a1 b1 c1 a1 b1 c1 st1 st1 w).trans (by rw [evEq_self])
          have HEQ := Lib.hid heq
          clear heq
          obtain ⟨m0, m1, m2, m3, m4, m5, m6, m7⟩ := eightAt HC.out
          go_wp2_with fail
          clear m0 m1 m2 m3 m4 m5 m6 m7
          refine (scenc_any k1 u1 o1 st1 id1 a1 b1 c1 hes HX _).mono ?_
          rintro e w401 ⟨rfl, b401⟩
          replace V := Lib.hid (RdS.later V.out b401)
          replace HC := Lib.hid ((HC.out).later b401)
          replace HB := Lib.hid (below2Z HB.out b401)
          clear b401
          go_wp2_with fail
          refine (scdec_any s1 hs1l HD _).mono ?_
          rintro e w402 ⟨rfl, b402⟩
          replace V := Lib.hid (RdS.later V.out b402)
          replace HC := Lib.hid ((HC.out).later b402)
          replace HB := Lib.hid (below2Z HB.out b402)
          clear b402
          obtain ⟨m0, m1, m2, m3, m4, m5, m6, m7⟩ := eightAt HC.out
          have hbw := World.block_lt_of_cell? _ _ m0
          go_wp2_with fail
          clear m0 m1 m2 m3 m4 m5 m6 m7 hbw
          have b403 := bl_newZ w402 (.cells #[.int .i64 k1, .string ⟨u1.toArray⟩, .string ⟨o1.toArray⟩, .int .i64 id1, .int .i64 a1, .int .i64 b1, .int .i64 c1, .string ⟨st1.toArray⟩] 26)
          have D := newQ w402 (.cells #[.int .i64 k1, .string ⟨u1.toArray⟩, .string ⟨o1.toArray⟩, .int .i64 id1, .int .i64 a1, .int .i64 b1, .int .i64 c1, .string ⟨st1.toArray⟩] 26)
          have hD : w.heap.size ≤ w402.heap.size := HB.out.size
          replace V := Lib.hid (RdS.later V.out b403)
          replace HC := Lib.hid ((HC.out).later b403)
          replace HB := Lib.hid (below2Z HB.out b403)
          clear b403
          replace D := Lib.hid D
          generalize w402.alloc (.cells #[.int .i64 k1, .string ⟨u1.toArray⟩, .string ⟨o1.toArray⟩, .int .i64 id1, .int .i64 a1, .int .i64 b1, .int .i64 c1, .string ⟨st1.toArray⟩] 26) = w404 at D V HC HB ⊢
          generalize w402.heap.size = BD at D hD ⊢
          refine (scmay_any k1 u1 o1 st1 id1 a1 b1 c1 hes HM _).mono ?_
          rintro e w405 ⟨rfl, b405⟩
          replace D := Lib.hid (upQ D.out b405)
          replace V := Lib.hid (RdS.later V.out b405)
          replace HC := Lib.hid ((HC.out).later b405)
          replace HB := Lib.hid (below2Z HB.out b405)
          clear b405
          obtain ⟨⟨Dc0, Dc1, Dc2, Dc3, Dc4, Dc5, Dc6, Dc7⟩, ⟨Df0, Df1, Df2, Df3, Df4, Df5, Df6, Df7⟩⟩ := blk8 D.out
          obtain ⟨m0, m1, m2, m3, m4, m5, m6, m7⟩ := eightAt HC.out
          have heq := HEQ.out
          go_wp2_with fail
          go_region
          clear Dc0 Dc1 Dc2 Dc3 Dc4 Dc5 Dc6 Dc7 Df0 Df1 Df2 Df3 Df4 Df5 Df6 Df7 m0 m1 m2 m3 m4 m5 m6 m7 heq
          have bd : Below w405.heap.size w405 w405.drew := (Below.refl _ _).drew
          replace D := Lib.hid (upQ D.out bd)
          replace V := Lib.hid (RdS.later V.out bd)
          replace HC := Lib.hid ((HC.out).later bd)
          replace HB := Lib.hid (below2Z HB.out bd)
          clear bd
          generalize w405.drew = w406 at V HC HB D ⊢
          obtain ⟨m0, m1, m2, m3, m4, m5, m6, m7⟩ := eightAt HC.out
          go_wp2_with fail
          clear m0 m1 m2 m3 m4 m5 m6 m7
          refine (scfold_any k1 u1 o1 st1 id1 a1 b1 c1 hes HF _).mono ?_
          rintro e w407 ⟨rfl, b407⟩
          replace D := Lib.hid (upQ D.out b407)
          replace V := Lib.hid (RdS.later V.out b407)
          replace HC := Lib.hid ((HC.out).later b407)
          replace HB := Lib.hid (below2Z HB.out b407)
          clear b407
          go_wp2_with fail
          have b408 := bl_newZ w407 (.cells #[.int .i64 k1, .string ⟨u1.toArray⟩, .string ⟨o1.toArray⟩, .int .i64 id1, .int .i64 a1, .int .i64 b1, .int .i64 c1, .string ⟨st1.toArray⟩] 26)
          have G := newQ w407 (.cells #[.int .i64 k1, .string ⟨u1.toArray⟩, .string ⟨o1.toArray⟩, .int .i64 id1, .int .i64 a1, .int .i64 b1, .int .i64 c1, .string ⟨st1.toArray⟩] 26)
          have hG : w.heap.size ≤ w407.heap.size := HB.out.size
          replace D := Lib.hid (upQ D.out b408)
          replace V := Lib.hid (RdS.later V.out b408)
          replace HC := Lib.hid ((HC.out).later b408)
          replace HB := Lib.hid (below2Z HB.out b408)
          clear b408
          replace G := Lib.hid G
          generalize w407.alloc (.cells #[.int .i64 k1, .string ⟨u1.toArray⟩, .string ⟨o1.toArray⟩, .int .i64 id1, .int .i64 a1, .int .i64 b1, .int .i64 c1, .string ⟨st1.toArray⟩] 26) = w409 at D G V HC HB ⊢
          generalize w407.heap.size = BG at G hG ⊢
          have heq := HEQ.out
          obtain ⟨m0, m1, m2, m3, m4, m5, m6, m7⟩ := eightAt HC.out
          obtain ⟨⟨Gc0, Gc1, Gc2, Gc3, Gc4, Gc5, Gc6, Gc7⟩, ⟨Gf0, Gf1, Gf2, Gf3, Gf4, Gf5, Gf6, Gf7⟩⟩ := blk8 G.out
          obtain ⟨BS, hBS⟩ : ∃ BS : List (Nat × List Value), BS = [] := ⟨_, rfl⟩
          obtain ⟨CS, hCS⟩ : ∃ CS : List (Nat × Nat × Value), CS = [(BG, 0, .int .i64 k1), (BG, 1, .string ⟨u1.toArray⟩), (BG, 2, .string ⟨o1.toArray⟩), (BG, 3, .int .i64 id1), (BG, 4, .int .i64 a1), (BG, 5, .int .i64 b1), (BG, 6, .int .i64 c1), (BG, 7, .string ⟨st1.toArray⟩), (b, off + k * 8, .int .i64 k1), (b, off + k * 8 + 1, .string ⟨u1.toArray⟩), (b, off + k * 8 + 2, .string ⟨o1.toArray⟩), (b, off + k * 8 + 3, .int .i64 id1), (b, off + k * 8 + 4, .int .i64 a1), (b, off + k * 8 + 5, .int .i64 b1), (b, off + k * 8 + 6, .int .i64 c1), (b, off + k * 8 + 7, .string ⟨st1.toArray⟩)] := ⟨_, rfl⟩
          have D0 := Lib.hid (show heldC w409 CS from by rw [hCS]; exact heldC_cons (Gc0) (heldC_cons (Gc1) (heldC_cons (Gc2) (heldC_cons (Gc3) (heldC_cons (Gc4) (heldC_cons (Gc5) (heldC_cons (Gc6) (heldC_cons (Gc7) (heldC_cons (m0) (heldC_cons (m1) (heldC_cons (m2) (heldC_cons (m3) (heldC_cons (m4) (heldC_cons (m5) (heldC_cons (m6) (heldC_cons (m7) (heldC_nil _)))))))))))))))))
          have hq0 : ∀ X, heldC X CS → X.cell? ⟨BG, 0, none⟩ = some (.int .i64 k1) := fun X hx => heldC_get hx (by rw [hCS]; simp)
          have hq1 : ∀ X, heldC X CS → X.cell? ⟨BG, 1, none⟩ = some (.string ⟨u1.toArray⟩) := fun X hx => heldC_get hx (by rw [hCS]; simp)
          have hq2 : ∀ X, heldC X CS → X.cell? ⟨BG, 2, none⟩ = some (.string ⟨o1.toArray⟩) := fun X hx => heldC_get hx (by rw [hCS]; simp)
          have hq3 : ∀ X, heldC X CS → X.cell? ⟨BG, 3, none⟩ = some (.int .i64 id1) := fun X hx => heldC_get hx (by rw [hCS]; simp)
          have hq4 : ∀ X, heldC X CS → X.cell? ⟨BG, 4, none⟩ = some (.int .i64 a1) := fun X hx => heldC_get hx (by rw [hCS]; simp)
          have hq5 : ∀ X, heldC X CS → X.cell? ⟨BG, 5, none⟩ = some (.int .i64 b1) := fun X hx => heldC_get hx (by rw [hCS]; simp)
          have hq6 : ∀ X, heldC X CS → X.cell? ⟨BG, 6, none⟩ = some (.int .i64 c1) := fun X hx => heldC_get hx (by rw [hCS]; simp)
          have hq7 : ∀ X, heldC X CS → X.cell? ⟨BG, 7, none⟩ = some (.string ⟨st1.toArray⟩) := fun X hx => heldC_get hx (by rw [hCS]; simp)
          have hq8 : ∀ X, heldC X CS → X.cell? ⟨b, off + k * 8, none⟩ = some (.int .i64 k1) := fun X hx => heldC_get hx (by rw [hCS]; simp)
          have hq9 : ∀ X, heldC X CS → X.cell? ⟨b, off + k * 8 + 1, none⟩ = some (.string ⟨u1.toArray⟩) := fun X hx => heldC_get hx (by rw [hCS]; simp)
          have hq10 : ∀ X, heldC X CS → X.cell? ⟨b, off + k * 8 + 2, none⟩ = some (.string ⟨o1.toArray⟩) := fun X hx => heldC_get hx (by rw [hCS]; simp)
          have hq11 : ∀ X, heldC X CS → X.cell? ⟨b, off + k * 8 + 3, none⟩ = some (.int .i64 id1) := fun X hx => heldC_get hx (by rw [hCS]; simp)
          have hq12 : ∀ X, heldC X CS → X.cell? ⟨b, off + k * 8 + 4, none⟩ = some (.int .i64 a1) := fun X hx => heldC_get hx (by rw [hCS]; simp)
          have hq13 : ∀ X, heldC X CS → X.cell? ⟨b, off + k * 8 + 5, none⟩ = some (.int .i64 b1) := fun X hx => heldC_get hx (by rw [hCS]; simp)
          have hq14 : ∀ X, heldC X CS → X.cell? ⟨b, off + k * 8 + 6, none⟩ = some (.int .i64 c1) := fun X hx => heldC_get hx (by rw [hCS]; simp)
          have hq15 : ∀ X, heldC X CS → X.cell? ⟨b, off + k * 8 + 7, none⟩ = some (.string ⟨st1.toArray⟩) := fun X hx => heldC_get hx (by rw [hCS]; simp)
          clear hCS
          clear hBS
          have K0 : Hid (Below w409.heap.size w409 w409.drew) := Lib.hid (Below.refl _ _).drew
          refine wp_region_held_drew (S := (fun X => heldC X CS)) (by kernel_rfl) ?_ (fun hHeld => ?_)
          · exact heldC_up K0.out D0.out
          generalize w409.drew = z0 at K0 hHeld ⊢
          refine wpAnyH_take (i := 0) (oi := { dst := some 98, op := Op.move (Operand.tmp 11), type := 4, pos := "law.go:82", after := #[], guard := none }) (v := ?_) rfl (by as_aux_lemma => kernel_rfl) (by as_aux_lemma => kernel_rfl) (by as_aux_lemma => kernel_rfl) (fun _ _ _ h => h) (Or.inl ⟨by rfl, ?_⟩) (by assumption) ?_
          rotate_left
          · intro w' hSw
            try dsimp only at hSw
            go_simp
            try with_reducible rfl
          try simp only [Act.put, List.setIfInBounds_toArray, List.set_cons_zero, List.set_cons_succ]
          refine wpAnyH_take (i := 1) (oi := { dst := some 99, op := Op.move (Operand.tmp 98), type := 4, pos := "law.go:82", after := #[{ on := 0, ground := Ground.data }], guard := none }) (v := ?_) rfl (by as_aux_lemma => kernel_rfl) (by as_aux_lemma => kernel_rfl) (by as_aux_lemma => kernel_rfl) (fun _ _ _ h => h) (Or.inl ⟨by rfl, ?_⟩) (by assumption) ?_
          rotate_left
          · intro w' hSw
            try dsimp only at hSw
            go_simp
            try with_reducible rfl
          try simp only [Act.put, List.setIfInBounds_toArray, List.set_cons_zero, List.set_cons_succ]
          refine wpAnyH_take (i := 2) (oi := { dst := some 100, op := Op.move (Operand.tmp 13), type := 4, pos := "law.go:82", after := #[{ on := 1, ground := Ground.guard }], guard := some (1, true) }) (v := ?_) rfl (by as_aux_lemma => kernel_rfl) (by as_aux_lemma => kernel_rfl) (by as_aux_lemma => kernel_rfl) (fun _ _ _ h => h) (Or.inl ⟨by rfl, ?_⟩) (by assumption) ?_
          rotate_left
          · intro w' hSw
            try dsimp only at hSw
            go_simp
            try with_reducible rfl
          try simp only [Act.put, List.setIfInBounds_toArray, List.set_cons_zero, List.set_cons_succ]
          refine wpAnyH_take (i := 3) (oi := { dst := some 101, op := Op.unOp UnOp.not 4 (Operand.tmp 100), type := 4, pos := "law.go:82", after := #[{ on := 2, ground := Ground.data }, { on := 1, ground := Ground.guard }], guard := some (1, true) }) (v := ?_) rfl (by as_aux_lemma => kernel_rfl) (by as_aux_lemma => kernel_rfl) (by as_aux_lemma => kernel_rfl) (fun _ _ _ h => h) (Or.inl ⟨by rfl, ?_⟩) (by assumption) ?_
          rotate_left
          · intro w' hSw
            try dsimp only at hSw
            go_simp
            try with_reducible rfl
          try simp only [Act.put, List.setIfInBounds_toArray, List.set_cons_zero, List.set_cons_succ]
          refine wpAnyH_take (i := 4) (oi := { dst := some 102, op := Op.move (Operand.tmp 101), type := 4, pos := "law.go:82", after := #[{ on := 3, ground := Ground.data }, { on := 1, ground := Ground.chain }, { on := 1, ground := Ground.guard }], guard := some (1, true) }) (v := ?_) rfl (by as_aux_lemma => kernel_rfl) (by as_aux_lemma => kernel_rfl) (by as_aux_lemma => kernel_rfl) (fun _ _ _ h => h) (Or.inl ⟨by rfl, ?_⟩) (by assumption) ?_
          rotate_left
          · intro w' hSw
            try dsimp only at hSw
            go_simp
            try with_reducible rfl
          try simp only [Act.put, List.setIfInBounds_toArray, List.set_cons_zero, List.set_cons_succ]
          refine wpAnyH_take (i := 5) (oi := { dst := some 103, op := Op.load 26 (Operand.tmp 12), type := 26, pos := "law.go:82", after := #[{ on := 4, ground := Ground.guard }], guard := some (4, false) }) (v := ?_) rfl (by as_aux_lemma => kernel_rfl) (by as_aux_lemma => kernel_rfl) (by as_aux_lemma => kernel_rfl) (fun _ _ _ h => h) (Or.inl ⟨by rfl, ?_⟩) (by assumption) ?_
          rotate_left
          · intro w' hSw
            try dsimp only at hSw
            go_simp
            try with_reducible rfl
          try simp only [Act.put, List.setIfInBounds_toArray, List.set_cons_zero, List.set_cons_succ]
          refine wpAnyH_take (i := 6) (oi := { dst := some 104, op := Op.move (Operand.tmp 0), type := 31, pos := "law.go:82", after := #[{ on := 4, ground := Ground.guard }], guard := some (4, false) }) (v := ?_) rfl (by as_aux_lemma => kernel_rfl) (by as_aux_lemma => kernel_rfl) (by as_aux_lemma => kernel_rfl) (fun _ _ _ h => h) (Or.inl ⟨by rfl, ?_⟩) (by assumption) ?_
          rotate_left
          · intro w' hSw
            try dsimp only at hSw
            go_simp
            try with_reducible rfl
          try simp only [Act.put, List.setIfInBounds_toArray, List.set_cons_zero, List.set_cons_succ]
          refine wpAnyH_take (i := 7) (oi := { dst := some 105, op := Op.move (Operand.tmp 6), type := 3, pos := "law.go:82", after := #[{ on := 4, ground := Ground.guard }], guard := some (4, false) }) (v := ?_) rfl (by as_aux_lemma => kernel_rfl) (by as_aux_lemma => kernel_rfl) (by as_aux_lemma => kernel_rfl) (fun _ _ _ h => h) (Or.inl ⟨by rfl, ?_⟩) (by assumption) ?_
          rotate_left
          · intro w' hSw
            try dsimp only at hSw
            go_simp
            try with_reducible rfl
          try simp only [Act.put, List.setIfInBounds_toArray, List.set_cons_zero, List.set_cons_succ]
          refine wpAnyH_take (i := 8) (oi := { dst := some 106, op := Op.indexAddr 31 (Operand.tmp 104) (Operand.tmp 105), type := 0, pos := "law.go:82", after := #[{ on := 6, ground := Ground.data }, { on := 7, ground := Ground.data }, { on := 4, ground := Ground.guard }], guard := some (4, false) }) (v := ?_) rfl (by as_aux_lemma => kernel_rfl) (by as_aux_lemma => kernel_rfl) (by as_aux_lemma => kernel_rfl) (fun _ _ _ h => h) (Or.inl ⟨by rfl, ?_⟩) (by assumption) ?_
          rotate_left
          · intro w' hSw
            try dsimp only at hSw
            go_simp
            try with_reducible rfl
          try simp only [Act.put, List.setIfInBounds_toArray, List.set_cons_zero, List.set_cons_succ]
          refine wpAnyH_take (i := 9) (oi := { dst := some 107, op := Op.load 26 (Operand.tmp 106), type := 26, pos := "law.go:82", after := #[{ on := 8, ground := Ground.data }, { on := 4, ground := Ground.guard }], guard := some (4, false) }) (v := ?_) rfl (by as_aux_lemma => kernel_rfl) (by as_aux_lemma => kernel_rfl) (by as_aux_lemma => kernel_rfl) (fun _ _ _ h => h) (Or.inl ⟨by rfl, ?_⟩) (by assumption) ?_
          rotate_left
          · intro w' hSw
            try dsimp only at hSw
            go_simp
            try with_reducible rfl
          try simp only [Act.put, List.setIfInBounds_toArray, List.set_cons_zero, List.set_cons_succ]
          refine wpAnyH_take (i := 10) (oi := { dst := some 108, op := Op.binOp BinOp.neq 26 (Operand.tmp 103) (Operand.tmp 107) 26, type := 4, pos := "law.go:82", after := #[{ on := 5, ground := Ground.data }, { on := 9, ground := Ground.data }, { on := 4, ground := Ground.guard }], guard := some (4, false) }) (v := ?_) rfl (by as_aux_lemma => kernel_rfl) (by as_aux_lemma => kernel_rfl) (by as_aux_lemma => kernel_rfl) (fun _ _ _ h => h) (Or.inl ⟨by rfl, ?_⟩) (by assumption) ?_
          rotate_left
          · intro w' hSw
            try dsimp only at hSw
            go_simp
            try with_reducible rfl
          try simp only [Act.put, List.setIfInBounds_toArray, List.set_cons_zero, List.set_cons_succ]
          refine wpAnyH_take (i := 11) (oi := { dst := some 109, op := Op.pick (Operand.tmp 102) (Operand.const (Value.bool true)) (Operand.tmp 108), type := 4, pos := "law.go:82", after := #[{ on := 4, ground := Ground.data }, { on := 10, ground := Ground.data }, { on := 1, ground := Ground.guard }], guard := some (1, true) }) (v := ?_) rfl (by as_aux_lemma => kernel_rfl) (by as_aux_lemma => kernel_rfl) (by as_aux_lemma => kernel_rfl) (fun _ _ _ h => h) (Or.inl ⟨by rfl, ?_⟩) (by assumption) ?_
          rotate_left
          · intro w' hSw
            try dsimp only at hSw
            go_simp
            try with_reducible rfl
          try simp only [Act.put, List.setIfInBounds_toArray, List.set_cons_zero, List.set_cons_succ]
          refine wpAnyH_take (i := 12) (oi := { dst := some 110, op := Op.pick (Operand.tmp 99) (Operand.tmp 109) (Operand.const (Value.bool false)), type := 4, pos := "law.go:82", after := #[{ on := 1, ground := Ground.data }, { on := 11, ground := Ground.data }], guard := none }) (v := ?_) rfl (by as_aux_lemma => kernel_rfl) (by as_aux_lemma => kernel_rfl) (by as_aux_lemma => kernel_rfl) (fun _ _ _ h => h) (Or.inl ⟨by rfl, ?_⟩) (by assumption) ?_
          rotate_left
          · intro w' hSw
            try dsimp only at hSw
            go_simp
            try with_reducible rfl
          try simp only [Act.put, List.setIfInBounds_toArray, List.set_cons_zero, List.set_cons_succ]
          refine wpAnyH_take (i := 13) (oi := { dst := some 111, op := Op.move (Operand.tmp 110), type := 4, pos := "law.go:82", after := #[{ on := 12, ground := Ground.data }, { on := 4, ground := Ground.chain }], guard := none }) (v := ?_) rfl (by as_aux_lemma => kernel_rfl) (by as_aux_lemma => kernel_rfl) (by as_aux_lemma => kernel_rfl) (fun _ _ _ h => h) (Or.inl ⟨by rfl, ?_⟩) (by assumption) ?_
          rotate_left
          · intro w' hSw
            try dsimp only at hSw
            go_simp
            try with_reducible rfl
          try simp only [Act.put, List.setIfInBounds_toArray, List.set_cons_zero, List.set_cons_succ]
          refine wpAnyH_take (i := 14) (oi := { dst := some 112, op := Op.move (Operand.tmp 13), type := 4, pos := "law.go:82", after := #[{ on := 13, ground := Ground.guard }], guard := some (13, false) }) (v := ?_) rfl (by as_aux_lemma => kernel_rfl) (by as_aux_lemma => kernel_rfl) (by as_aux_lemma => kernel_rfl) (fun _ _ _ h => h) (Or.inl ⟨by rfl, ?_⟩) (by assumption) ?_
          rotate_left
          · intro w' hSw
            try dsimp only at hSw
            go_simp
            try with_reducible rfl
          try simp only [Act.put, List.setIfInBounds_toArray, List.set_cons_zero, List.set_cons_succ]
          refine wpAnyH_take (i := 15) (oi := { dst := some 113, op := Op.move (Operand.tmp 112), type := 4, pos := "law.go:82", after := #[{ on := 14, ground := Ground.data }, { on := 13, ground := Ground.chain }, { on := 13, ground := Ground.guard }], guard := some (13, false) }) (v := ?_) rfl (by as_aux_lemma => kernel_rfl) (by as_aux_lemma => kernel_rfl) (by as_aux_lemma => kernel_rfl) (fun _ _ _ h => h) (Or.inl ⟨by rfl, ?_⟩) (by assumption) ?_
          rotate_left
          · intro w' hSw
            try dsimp only at hSw
            go_simp
            try with_reducible rfl
          try simp only [Act.put, List.setIfInBounds_toArray, List.set_cons_zero, List.set_cons_succ]
          refine wpAnyH_take (i := 16) (oi := { dst := some 114, op := Op.load 26 (Operand.tmp 12), type := 26, pos := "law.go:82", after := #[{ on := 15, ground := Ground.guard }], guard := some (15, true) }) (v := ?_) rfl (by as_aux_lemma => kernel_rfl) (by as_aux_lemma => kernel_rfl) (by as_aux_lemma => kernel_rfl) (fun _ _ _ h => h) (Or.inl ⟨by rfl, ?_⟩) (by assumption) ?_
          rotate_left
          · intro w' hSw
            try dsimp only at hSw
            go_simp
            try with_reducible rfl
          try simp only [Act.put, List.setIfInBounds_toArray, List.set_cons_zero, List.set_cons_succ]
          refine wpAnyH_ready (rs := [17]) (by as_aux_lemma => kernel_rfl) (by simp) ?_
          refine AllReadyH.cons (o := { dst := some 115, op := Op.call { callee := Callee.value (Operand.func 19), args := #[Operand.tmp 114], argTypes := #[26] }, type := 4, pos := "law.go:82", after := #[{ on := 16, ground := Ground.data }, { on := 15, ground := Ground.chain }, { on := 15, ground := Ground.guard }], guard := some (15, true) }) rfl (fun Kx hK => ?_) AllReadyH.nil
          go_simp
          refine (scmay_any k1 u1 o1 st1 id1 a1 b1 c1 hes HM _).mono ?_
          rintro e z4001 ⟨rfl, bz4001⟩
          have K4001 := Lib.hid (below2Z K0.out bz4001)
          have D4001 := Lib.hid (heldC_up K4001.out D0.out)
          clear bz4001
          go_wp2_with fail
          refine hK.out _ _ ?_ (fun hHeld2 => ?_)
          · exact D4001.out
          clear hK Kx hHeld
          have hHeld := hHeld2
          clear hHeld2
          try simp only [Act.put, List.setIfInBounds_toArray, List.set_cons_zero, List.set_cons_succ]
          refine wpAnyH_take (i := 18) (oi := { dst := some 116, op := Op.unOp UnOp.not 4 (Operand.tmp 115), type := 4, pos := "law.go:82", after := #[{ on := 17, ground := Ground.data }, { on := 15, ground := Ground.guard }], guard := some (15, true) }) (v := ?_) rfl (by as_aux_lemma => kernel_rfl) (by as_aux_lemma => kernel_rfl) (by as_aux_lemma => kernel_rfl) (fun _ _ _ h => h) (Or.inl ⟨by rfl, ?_⟩) (by assumption) ?_
          rotate_left
          · intro w' hSw
            try dsimp only at hSw
            go_simp
            try with_reducible rfl
          try simp only [Act.put, List.setIfInBounds_toArray, List.set_cons_zero, List.set_cons_succ]
          refine wpAnyH_take (i := 19) (oi := { dst := some 117, op := Op.pick (Operand.tmp 113) (Operand.tmp 116) (Operand.const (Value.bool false)), type := 4, pos := "law.go:82", after := #[{ on := 15, ground := Ground.data }, { on := 18, ground := Ground.data }, { on := 13, ground := Ground.guard }], guard := some (13, false) }) (v := ?_) rfl (by as_aux_lemma => kernel_rfl) (by as_aux_lemma => kernel_rfl) (by as_aux_lemma => kernel_rfl) (fun _ _ _ h => h) (Or.inl ⟨by rfl, ?_⟩) (by assumption) ?_
          rotate_left
          · intro w' hSw
            try dsimp only at hSw
            go_simp
            try with_reducible rfl
          try simp only [Act.put, List.setIfInBounds_toArray, List.set_cons_zero, List.set_cons_succ]
          refine wpAnyH_take (i := 20) (oi := { dst := some 118, op := Op.pick (Operand.tmp 111) (Operand.const (Value.bool true)) (Operand.tmp 117), type := 4, pos := "law.go:82", after := #[{ on := 13, ground := Ground.data }, { on := 19, ground := Ground.data }], guard := none }) (v := ?_) rfl (by as_aux_lemma => kernel_rfl) (by as_aux_lemma => kernel_rfl) (by as_aux_lemma => kernel_rfl) (fun _ _ _ h => h) (Or.inl ⟨by rfl, ?_⟩) (by assumption) ?_
          rotate_left
          · intro w' hSw
            try dsimp only at hSw
            go_simp
            try with_reducible rfl
          try simp only [Act.put, List.setIfInBounds_toArray, List.set_cons_zero, List.set_cons_succ]
          refine wpAnyH_done (by kernel_rfl) ?_ _
          clear m0 m1 m2 m3 m4 m5 m6 m7 Gc0 Gc1 Gc2 Gc3 Gc4 Gc5 Gc6 Gc7 Gf0 Gf1 Gf2 Gf3 Gf4 Gf5 Gf6 Gf7
          replace D := Lib.hid (upQ D.out K4001.out)
          replace G := Lib.hid (upQ G.out K4001.out)
          replace V := Lib.hid (RdS.later V.out K4001.out)
          replace HC := Lib.hid ((HC.out).later K4001.out)
          replace HB := Lib.hid (below2Z HB.out K4001.out)
          try clear hHeld D0 K0
          go_wp2_with fail
          go_roundw
          case rel => exact ⟨k + 1, _, by omega, rfl, by go_num, HG2, V, HB⟩
          case measure => simp [intOf]; omega
    case neg =>
      have ht : l.take k = l := List.take_of_length_le (by omega)
      have hg := HG.out
      rw [ht] at hg
      obtain ⟨bt, n4, hb4, hbl, hcase⟩ := back_batch (by omega) hg
      obtain ⟨⟨k3, u3, o3, id3, ⟨a3, b3, c3, st3⟩⟩, n5, hd5⟩ : ∃ e n, scDec s = (e, n) := ⟨_, _, rfl⟩
      have hes3 := scDec_short hd5 hsl2
      obtain ⟨u6, n6, he6⟩ : ∃ t n, scEnc ⟨k3, u3, o3, id3, ⟨a3, b3, c3, st3⟩⟩ = (t, n) := ⟨_, _, rfl⟩
      have hok : n5 = 0 → u6 = s ∧ n6 = 0 := by
        rintro rfl
        obtain ⟨h1, h2⟩ := scDec_ok hd5
        rw [scEnc_yes h1, h2] at he6
        simp only [Prod.mk.injEq] at he6
        exact ⟨he6.1.symm, he6.2.symm⟩
      have HB4 := Lib.hid hb4
      have HD5 := Lib.hid hd5
      have HE6 := Lib.hid he6
      have hbt : bt.length ≤ 1000000 := by omega
      have t9 : decide ((k : Int) < (l.length : Int)) = false := by rw [decide_eq_false_iff_not]; omega
      clear hb4 hd5 he6 hg ht HG
      have HOK := Lib.hid hok
      clear hok
      rcases hcase with ⟨rfl, rfl, hun⟩ | ⟨rfl, rfl, rfl, hun⟩
      · have HUN := Lib.hid hun
        clear hun
        go_wp2_with fail
        refine (scbat_any V.out HSL.out HB4).mono ?_
        rintro e w501 ⟨rfl, b501⟩
        replace V := Lib.hid (RdS.later V.out b501)
        replace HB := Lib.hid (below2Z HB.out b501)
        clear b501
        go_wp2_with fail
        refine (scun_any bt hbt _).mono ?_
        rintro e w502 ⟨vv, mm, er, rfl, hev, hun, b502⟩
        replace V := Lib.hid (RdS.later V.out b502)
        replace HB := Lib.hid (below2Z HB.out b502)
        obtain ⟨rfl, rfl⟩ := unIs_one hun HUN.out
        clear b502
        obtain ⟨av, cv, hav, -⟩ := RdS.open' hev
        subst hav
        have VV := Lib.hid hev
        clear hev hun HUN
        go_wp2_with fail
        refine (scsame_yes VV.out V.out).mono ?_
        rintro e w503 ⟨rfl, b503⟩
        replace V := Lib.hid (RdS.later V.out b503)
        replace VV := Lib.hid (RdS.later VV.out b503)
        replace HB := Lib.hid (below2Z HB.out b503)
        clear b503
        go_wp2_with fail
        clear VV
        refine (scdec_any s hsl2 HD5 _).mono ?_
        rintro e w504 ⟨rfl, b504⟩
        replace V := Lib.hid (RdS.later V.out b504)
        replace HB := Lib.hid (below2Z HB.out b504)
        clear b504
        go_wp2_with fail
        have b505 := bl_newZ w504 (.cells #[.int .i64 k3, .string ⟨u3.toArray⟩, .string ⟨o3.toArray⟩, .int .i64 id3, .int .i64 a3, .int .i64 b3, .int .i64 c3, .string ⟨st3.toArray⟩] 26)
        have O := newQ w504 (.cells #[.int .i64 k3, .string ⟨u3.toArray⟩, .string ⟨o3.toArray⟩, .int .i64 id3, .int .i64 a3, .int .i64 b3, .int .i64 c3, .string ⟨st3.toArray⟩] 26)
        have hO : w.heap.size ≤ w504.heap.size := HB.out.size
        replace V := Lib.hid (RdS.later V.out b505)
        replace HB := Lib.hid (below2Z HB.out b505)
        clear b505
        replace O := Lib.hid O
        generalize w504.alloc (.cells #[.int .i64 k3, .string ⟨u3.toArray⟩, .string ⟨o3.toArray⟩, .int .i64 id3, .int .i64 a3, .int .i64 b3, .int .i64 c3, .string ⟨st3.toArray⟩] 26) = w506 at O V HB ⊢
        generalize w504.heap.size = BO at O hO ⊢
        clear O
        clear hO
        refine (scenc_any k3 u3 o3 st3 id3 a3 b3 c3 hes3 HE6 _).mono ?_
        rintro e w507 ⟨rfl, b507⟩
        replace V := Lib.hid (RdS.later V.out b507)
        replace HB := Lib.hid (below2Z HB.out b507)
        clear b507
        go_wp2_with fail
        refine (scun_any s hsl3 _).mono ?_
        rintro e w508 ⟨v7, m7, er7, rfl, hev, hun, b508⟩
        replace V := Lib.hid (RdS.later V.out b508)
        replace HB := Lib.hid (below2Z HB.out b508)
        clear b508
        obtain ⟨av7, cv7, hav7, -⟩ := RdS.open' hev
        subst hav7
        have VV := Lib.hid hev
        have hcase7 := unIs_batch hun
        clear hev hun
        rcases hcase7 with ⟨rfl, hsm, hb7⟩ | ⟨rfl, rfl⟩
        · have HB7 := Lib.hid hb7
          have HSM := Lib.hid hsm
          clear hb7 hsm
          go_wp2_with fail
          refine (scbat_any VV.out HSM.out HB7).mono ?_
          rintro e w529 ⟨rfl, b529⟩
          replace V := Lib.hid (RdS.later V.out b529)
          replace VV := Lib.hid (RdS.later VV.out b529)
          replace HB := Lib.hid (below2Z HB.out b529)
          clear b529
          by_cases hn5 : n5 = 0
          · obtain ⟨rfl, rfl⟩ := HOK.out hn5
            subst hn5
            go_wp2_with fail
            refine (live23 _).mono ?_
            rintro e w535 ⟨rfl, b535⟩
            replace V := Lib.hid (RdS.later V.out b535)
            replace VV := Lib.hid (RdS.later VV.out b535)
            replace HB := Lib.hid (below2Z HB.out b535)
            clear b535
            go_wp2_with fail
            go_ret
            exact ⟨rfl, HB.out⟩
          · have t5 : ((n5 : Int) != 0) = true := by simp; exact hn5
            clear hn5
            go_wp2_with fail
            refine (live23 _).mono ?_
            rintro e w540 ⟨rfl, b540⟩
            replace V := Lib.hid (RdS.later V.out b540)
            replace VV := Lib.hid (RdS.later VV.out b540)
            replace HB := Lib.hid (below2Z HB.out b540)
            clear b540
            go_wp2_with fail
            go_ret
            exact ⟨rfl, HB.out⟩
        · have HB7 : Hid (scBatch [] = ([], 0)) := Lib.hid rfl
          have HSM : Hid (∀ e ∈ ([] : List Ev), evShort e) := Lib.hid (fun e he => by cases he)
          go_wp2_with fail
          refine (scbat_any VV.out HSM.out HB7).mono ?_
          rintro e w549 ⟨rfl, b549⟩
          replace V := Lib.hid (RdS.later V.out b549)
          replace VV := Lib.hid (RdS.later VV.out b549)
          replace HB := Lib.hid (below2Z HB.out b549)
          clear b549
          by_cases hn5 : n5 = 0
          · obtain ⟨rfl, rfl⟩ := HOK.out hn5
            subst hn5
            go_wp2_with fail
            refine (live23 _).mono ?_
            rintro e w555 ⟨rfl, b555⟩
            replace V := Lib.hid (RdS.later V.out b555)
            replace VV := Lib.hid (RdS.later VV.out b555)
            replace HB := Lib.hid (below2Z HB.out b555)
            clear b555
            go_wp2_with fail
            go_ret
            exact ⟨rfl, HB.out⟩
          · have t5 : ((n5 : Int) != 0) = true := by simp; exact hn5
            clear hn5
            go_wp2_with fail
            refine (live23 _).mono ?_
            rintro e w560 ⟨rfl, b560⟩
            replace V := Lib.hid (RdS.later V.out b560)
            replace VV := Lib.hid (RdS.later VV.out b560)
            replace HB := Lib.hid (below2Z HB.out b560)
            clear b560
            go_wp2_with fail
            go_ret
            exact ⟨rfl, HB.out⟩

      · have HUN := Lib.hid hun
        clear hun
        go_wp2_with fail
        refine (scbat_any V.out HSL.out HB4).mono ?_
        rintro e w401 ⟨rfl, b401⟩
        replace V := Lib.hid (RdS.later V.out b401)
        replace HB := Lib.hid (below2Z HB.out b401)
        clear b401
        go_wp2_with fail
        refine (scun_any [] hbt _).mono ?_
        rintro e w402 ⟨vv, mm, er, rfl, hev, hun, b402⟩
        replace V := Lib.hid (RdS.later V.out b402)
        replace HB := Lib.hid (below2Z HB.out b402)
        obtain ⟨rfl, rfl⟩ := unIs_one hun HUN.out
        clear b402
        obtain ⟨av, cv, hav, -⟩ := RdS.open' hev
        subst hav
        have VV := Lib.hid hev
        clear hev hun HUN
        go_wp2_with fail
        clear VV
        refine (scdec_any s hsl2 HD5 _).mono ?_
        rintro e w403 ⟨rfl, b403⟩
        replace V := Lib.hid (RdS.later V.out b403)
        replace HB := Lib.hid (below2Z HB.out b403)
        clear b403
        go_wp2_with fail
        have b404 := bl_newZ w403 (.cells #[.int .i64 k3, .string ⟨u3.toArray⟩, .string ⟨o3.toArray⟩, .int .i64 id3, .int .i64 a3, .int .i64 b3, .int .i64 c3, .string ⟨st3.toArray⟩] 26)
        have O := newQ w403 (.cells #[.int .i64 k3, .string ⟨u3.toArray⟩, .string ⟨o3.toArray⟩, .int .i64 id3, .int .i64 a3, .int .i64 b3, .int .i64 c3, .string ⟨st3.toArray⟩] 26)
        have hO : w.heap.size ≤ w403.heap.size := HB.out.size
        replace V := Lib.hid (RdS.later V.out b404)
        replace HB := Lib.hid (below2Z HB.out b404)
        clear b404
        replace O := Lib.hid O
        generalize w403.alloc (.cells #[.int .i64 k3, .string ⟨u3.toArray⟩, .string ⟨o3.toArray⟩, .int .i64 id3, .int .i64 a3, .int .i64 b3, .int .i64 c3, .string ⟨st3.toArray⟩] 26) = w405 at O V HB ⊢
        generalize w403.heap.size = BO at O hO ⊢
        clear O
        clear hO
        refine (scenc_any k3 u3 o3 st3 id3 a3 b3 c3 hes3 HE6 _).mono ?_
        rintro e w406 ⟨rfl, b406⟩
        replace V := Lib.hid (RdS.later V.out b406)
        replace HB := Lib.hid (below2Z HB.out b406)
        clear b406
        go_wp2_with fail
        refine (scun_any s hsl3 _).mono ?_
        rintro e w407 ⟨v7, m7, er7, rfl, hev, hun, b407⟩
        replace V := Lib.hid (RdS.later V.out b407)
        replace HB := Lib.hid (below2Z HB.out b407)
        clear b407
        obtain ⟨av7, cv7, hav7, -⟩ := RdS.open' hev
        subst hav7
        have VV := Lib.hid hev
        have hcase7 := unIs_batch hun
        clear hev hun
        rcases hcase7 with ⟨rfl, hsm, hb7⟩ | ⟨rfl, rfl⟩
        · have HB7 := Lib.hid hb7
          have HSM := Lib.hid hsm
          clear hb7 hsm
          go_wp2_with fail
          refine (scbat_any VV.out HSM.out HB7).mono ?_
          rintro e w428 ⟨rfl, b428⟩
          replace V := Lib.hid (RdS.later V.out b428)
          replace VV := Lib.hid (RdS.later VV.out b428)
          replace HB := Lib.hid (below2Z HB.out b428)
          clear b428
          by_cases hn5 : n5 = 0
          · obtain ⟨rfl, rfl⟩ := HOK.out hn5
            subst hn5
            go_wp2_with fail
            refine (live23 _).mono ?_
            rintro e w434 ⟨rfl, b434⟩
            replace V := Lib.hid (RdS.later V.out b434)
            replace VV := Lib.hid (RdS.later VV.out b434)
            replace HB := Lib.hid (below2Z HB.out b434)
            clear b434
            go_wp2_with fail
            go_ret
            exact ⟨rfl, HB.out⟩
          · have t5 : ((n5 : Int) != 0) = true := by simp; exact hn5
            clear hn5
            go_wp2_with fail
            refine (live23 _).mono ?_
            rintro e w439 ⟨rfl, b439⟩
            replace V := Lib.hid (RdS.later V.out b439)
            replace VV := Lib.hid (RdS.later VV.out b439)
            replace HB := Lib.hid (below2Z HB.out b439)
            clear b439
            go_wp2_with fail
            go_ret
            exact ⟨rfl, HB.out⟩
        · have HB7 : Hid (scBatch [] = ([], 0)) := Lib.hid rfl
          have HSM : Hid (∀ e ∈ ([] : List Ev), evShort e) := Lib.hid (fun e he => by cases he)
          go_wp2_with fail
          refine (scbat_any VV.out HSM.out HB7).mono ?_
          rintro e w448 ⟨rfl, b448⟩
          replace V := Lib.hid (RdS.later V.out b448)
          replace VV := Lib.hid (RdS.later VV.out b448)
          replace HB := Lib.hid (below2Z HB.out b448)
          clear b448
          by_cases hn5 : n5 = 0
          · obtain ⟨rfl, rfl⟩ := HOK.out hn5
            subst hn5
            go_wp2_with fail
            refine (live23 _).mono ?_
            rintro e w454 ⟨rfl, b454⟩
            replace V := Lib.hid (RdS.later V.out b454)
            replace VV := Lib.hid (RdS.later VV.out b454)
            replace HB := Lib.hid (below2Z HB.out b454)
            clear b454
            go_wp2_with fail
            go_ret
            exact ⟨rfl, HB.out⟩
          · have t5 : ((n5 : Int) != 0) = true := by simp; exact hn5
            clear hn5
            go_wp2_with fail
            refine (live23 _).mono ?_
            rintro e w459 ⟨rfl, b459⟩
            replace V := Lib.hid (RdS.later V.out b459)
            replace VV := Lib.hid (RdS.later VV.out b459)
            replace HB := Lib.hid (below2Z HB.out b459)
            clear b459
            go_wp2_with fail
            go_ret
            exact ⟨rfl, HB.out⟩


theorem walkScriptBack {w : World} {v : Value} {l : List Ev} (hv : Evs w v l) (_ : ∀ e ∈ l, evFit e) (s : List UInt8) (_ : s.length ≤ maxLen) :
    Calls Try.prog 5 #[v, .string ⟨s.toArray⟩] w fun e w' => e = .returned (.bool true) ∧ Below w.heap.size w w' := by
  cases he : evsShort 30 l with
  | false => exact scwb_1 hv s he
  | true =>
    by_cases hs : 1500 < s.length
    · exact scwb_2 hv s he hs
    · exact scwb_3 hv s he (by omega)

end Go.Proofs.Ythfkfonfiejbmaa
