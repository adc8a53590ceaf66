/-
  THE CONTRACTS OF slices.Grow (of nil) AND slices.Concat (of two rows of texts), AT THIS PROGRAM.
-/
import Derived.Test.YtlebgpgcklfhaaaIdDoc
import Derived.Lib.AppendZeros
import Derived.OwnWalk
import Derived.BigQuiet
import Derived.Deep.DeepMust
namespace Go.Proofs.Ytlebgpgcklfhaaa
open Go.RowKit

theorem zeros_size (z : Value) (hz : z.cells.size = 1) (n : Nat) : (Builtin.zeroCells z.cells n).size = n := by
  unfold Builtin.zeroCells
  simp [hz]

set_option maxHeartbeats 800000 in
set_option maxRecDepth 100000 in
theorem grow_nil (n : Nat) (hn : n ≤ 1000) (w : World) :
    Calls Try.prog 26 #[.slice none 0 0, .int .i64 n] w fun e w' => ∃ v, e = .returned v ∧ OwnT w' w.heap.size 9 v [] ∧ Below w.heap.size w w' := by
  obtain ⟨i0, hi, hz0, hz1, hz2⟩ := info_parts Try.infoStr
  by_cases h0 : n = 0
  · subst h0
    go_enter Try.func26, Try.ntmps26
    go_wp2_with fail
    go_ret
    exact ⟨_, rfl, World.ownsRow_nil _ _ _ _, Below.refl _ _⟩
  · have hrz := fun ty => Lib.run_append_nil_zeros (P := Try.prog) w 22 3 ty 9 i0 _ .i64 .i64 Try.underlying22 Try.underlying3 hi hz0 n (by omega) (by omega) (by omega) (by rw [hz2]; omega)
    have hG1 := grownCap_ge w n 0 9
    have hG2 := grownCap_le_maxLen w n 0 9 (by unfold maxLen; omega)
    obtain ⟨G, hG⟩ : ∃ G, G = grownCap w n 0 9 := ⟨_, rfl⟩
    rw [← hG] at hrz hG1 hG2
    have hO : Hid (OwnT (w.drew.alloc (.cells (Builtin.zeroCells (Value.string ⟨#[]⟩).cells n ++ Builtin.zeroCells (Value.string ⟨#[]⟩).cells (G - n)) 9)) w.heap.size 9 (.slice (some ⟨w.heap.size, 0, none⟩) 0 G) []) := by
      refine World.ownsRow_made (base := w.heap.size) w.drew _ G (Nat.le_refl _) hG2 ?_
      rw [Array.size_append, zeros_size _ rfl, zeros_size _ rfl]
      omega
    have h1 : 0 < n := by omega
    unfold maxLen at hG2
    clear hG h0
    go_enter Try.func26, Try.ntmps26
    go_wp2_with (at_builtin; go_must (refine Lib.wpList_append_run _ rfl _ _ _ _ rfl _ _ rfl rfl _ _ (hrz _) ?_))
    go_wp2_with fail
    go_ret
    exact ⟨_, rfl, hO.out, (Below.refl _ _).drew.alloc (Nat.le_refl _) _⟩

/-- A slice of texts as the source of an append. -/
theorem texts_src {W : World} {a : Option Addr} {n cap : Nat} {ls : List (List UInt8)} (h : Texts W (.slice a n cap) ls) :
    n = ls.length ∧ (a = none → cap = 0 ∧ ls = []) ∧ (∀ ad, a = some ad → ∀ j u, (ls.map encS)[j]? = some u → W.cell? (ad.add j) = some u) := by
  obtain ⟨a', cap', e, h1, h2, h3, h4⟩ := h
  simp only [Value.slice.injEq] at e
  obtain ⟨rfl, rfl, rfl⟩ := e
  refine ⟨rfl, fun e => ⟨h3 e, List.length_eq_zero_iff.1 (by have := h3 e; omega)⟩, ?_⟩
  rintro ad rfl j u hu
  have hj : j < ls.length := by
    have := (List.getElem?_eq_some_iff.1 hu).1
    simpa using this
  rcases h4 with h | ⟨b, off, e, _, hc⟩
  · rw [h] at hj; simp at hj
  · obtain rfl := Option.some.inj e
    rw [List.getElem?_map, getD_some hj] at hu
    simp only [Option.map_some, Option.some.injEq] at hu
    rw [Addr.add_lit, hc j hj, hu]

set_option maxHeartbeats 1600000 in
set_option maxRecDepth 100000 in
theorem concat_sum {w : World} {va vb : Value} {ls ms : List (List UInt8)} (ha : Texts w va ls) (hb : Texts w vb ms) (hlm : ls.length + ms.length ≤ 1000)
    (B : Nat) (k0 : w.cell? ⟨B, 0, none⟩ = some va) (k1 : w.cell? ⟨B, 1, none⟩ = some vb) :
    Calls Try.prog 25 #[.slice (some ⟨B, 0, none⟩) 2 2] w fun e w' => ∃ v, e = .returned v ∧ OwnT w' w.heap.size 9 v (ls ++ ms) ∧ Below w.heap.size w w' := by
  have hl : ls.length ≤ 1000 := by omega
  have hm : ms.length ≤ 1000 := by omega
  obtain ⟨i0, hi, hz0, hz1, hz2⟩ := info_parts Try.infoStr
  have HA := Lib.hid ha
  have HB := Lib.hid hb
  obtain ⟨a, cap, rfl, _, _, _, _⟩ := ha
  obtain ⟨a2, cap2, rfl, _, _, _, _⟩ := hb
  have HG := Lib.hid (grow_nil (ls.length + ms.length) (by omega))
  have K0 := Lib.hid k0
  have K1 := Lib.hid k1
  have hB := World.block_lt_of_cell? w _ k0
  simp only at hB
  go_enter Try.func25, Try.ntmps25
  go_wp2_with fail
  refine wp_loop_rounds 3 ?_
  rw [rounds_succ]
  go_wp2_with fail
  rw [rounds_succ]
  go_wp2_with fail
  rw [rounds_succ]
  go_wp2_with fail
  refine (HG.out _).mono ?_
  rintro e w1 ⟨v1, rfl, ho1, hb1⟩
  have HO1 := Lib.hid ho1
  have HB1 := Lib.hid hb1
  have k0 := cell_after K0.out hb1
  have k1 := cell_after K1.out hb1
  have hA1 := Lib.hid (texts_src (HA.out.later hb1))
  have hsz1 := hb1.size
  clear hb1 ho1
  go_wp2_with fail
  refine wp_loop_rounds 3 ?_
  rw [rounds_succ]
  go_wp2_with (at_builtin; go_must (refine wpList_append_texts rfl _ _ 22 rfl w.heap.size 9 i0 _ 16 Try.underlying22 hi hz0 hz1 hz2 rfl _ _ rfl (by exact HO1.out) a ls.length cap ls rfl rfl hA1.out.2.1 hA1.out.2.2 (by simp; omega) (by decide) hsz1 ?_))
  intro v2 w2 hown2 hb2
  have HB2 : Hid (Below w.heap.size w w2) := HB1.out.trans hb2
  have hsz2 : w.heap.size ≤ w2.heap.size := HB2.out.size
  have k1 := cell_after K1.out HB2.out
  have hA2 := Lib.hid (texts_src (HB.out.later HB2.out))
  have HO2 := Lib.hid hown2
  clear hb2 hown2 k0
  go_wp2_with fail
  rw [rounds_succ]
  go_wp2_with (at_builtin; go_must (refine wpList_append_texts rfl _ _ 22 rfl w.heap.size 9 i0 _ 16 Try.underlying22 hi hz0 hz1 hz2 rfl _ _ rfl (by exact HO2.out) a2 ms.length cap2 ms rfl rfl hA2.out.2.1 hA2.out.2.2 (by first | omega | (simp; omega)) (by decide) hsz2 ?_))
  intro v3 w3 hown3 hb3
  have HB3 : Hid (Below w.heap.size w w3) := HB2.out.trans hb3
  have HO3 := Lib.hid hown3
  clear hb3 hown3 k1
  go_wp2_with fail
  rw [rounds_succ]
  go_wp2_with fail
  go_ret
  exact ⟨_, rfl, by have := HO3.out; simpa using this, HB3.out⟩

theorem concat_any {w : World} {va vb : Value} {ls ms : List (List UInt8)} (ha : Texts w va ls) (hb : Texts w vb ms) (hl : ls.length ≤ 100) (hm : ms.length ≤ 100)
    (B : Nat) (k0 : w.cell? ⟨B, 0, none⟩ = some va) (k1 : w.cell? ⟨B, 1, none⟩ = some vb) :
    Calls Try.prog 25 #[.slice (some ⟨B, 0, none⟩) 2 2] w fun e w' => ∃ v, e = .returned v ∧ OwnT w' w.heap.size 9 v (ls ++ ms) ∧ Below w.heap.size w w' :=
  concat_sum ha hb (by omega) B k0 k1

end Go.Proofs.Ytlebgpgcklfhaaa
