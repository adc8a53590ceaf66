/-
  THE CONTRACTS OF THE DOCUMENT'S put AND Merge.
-/
import Derived.Test.YtkmbnpjnjlcjmaaIdDoc
namespace Go.Proofs.Ytkmbnpjnjlcjmaa
open Go.RowKit

theorem ins_at (x : List UInt8) : ∀ (ls : List (List UInt8)) (i : Nat), i ≤ ls.length → (∀ j, j < i → idLess (ls.getD j []) x = true) →
    (i < ls.length → ls.getD i [] = x → ins x ls = ls) ∧ ((i < ls.length → idLess (ls.getD i []) x = false ∧ ¬ ls.getD i [] = x) → ins x ls = ls.take i ++ ([x] ++ ls.drop i))
  | [], i, hi, _ => by
    simp only [List.length_nil] at hi
    obtain rfl : i = 0 := by omega
    exact ⟨fun h => absurd h (by simp), fun _ => by simp [ins]⟩
  | y :: ls, 0, _, _ => by
    refine ⟨fun _ h => ?_, fun h => ?_⟩
    · simp only [List.getD_cons_zero] at h
      subst h
      unfold ins
      rw [if_neg (by rw [idLess_irrefl]; decide), if_pos rfl]
    · obtain ⟨h1, h2⟩ := h (by simp)
      simp only [List.getD_cons_zero] at h1 h2
      unfold ins
      rw [if_neg (by rw [h1]; decide), if_neg h2]
      simp
  | y :: ls, i + 1, hi, h => by
    have ih := ins_at x ls i (by simpa using hi) (fun j hj => by simpa using h (j + 1) (by omega))
    have h0 : idLess y x = true := by simpa using h 0 (by omega)
    refine ⟨fun h1 h2 => ?_, fun h1 => ?_⟩
    · unfold ins
      rw [if_pos h0, ih.1 (by simpa using h1) (by simpa using h2)]
    · unfold ins
      rw [if_pos h0, ih.2 (fun h2 => by simpa using h1 (by simpa using h2))]
      simp

theorem Try.infoStr : (Try.prog.info? 9).map (fun i => (i.zero, i.size, i.bytes)) = some (some (.string ⟨#[]⟩), 1, 16) := by kernel_rfl

/-- The cells of a part of a row. -/
theorem src_cells {w W : World} {b off : Nat} {ls : List (List UInt8)} (hc : ∀ i, i < ls.length → w.cell? ⟨b, off + i, none⟩ = some (encS (ls.getD i []))) (hbw : b < w.heap.size) (hb : Below w.heap.size w W)
    (i : Nat) (ms : List (List UInt8)) (hms : ∀ j, j < ms.length → i + j < ls.length ∧ ms.getD j [] = ls.getD (i + j) []) (o : Nat) (ho : o = off + i) :
    ∀ ad, some (⟨b, o, none⟩ : Addr) = some ad → ∀ j u, (ms.map encS)[j]? = some u → W.cell? (ad.add j) = some u := by
  intro ad had j u hu
  subst ho
  obtain rfl := Option.some.inj had
  have hj : j < ms.length := by
    have := (List.getElem?_eq_some_iff.1 hu).1
    simpa using this
  obtain ⟨h1, h2⟩ := hms j hj
  rw [List.getElem?_map, getD_some hj] at hu
  simp only [Option.map_some, Option.some.injEq] at hu
  rw [Addr.add_lit, hb.cell (p := ⟨b, off + i + j, none⟩) hbw, Nat.add_assoc, hc (i + j) h1, ← h2, hu]

theorem new_cell {w : World} {u : Value} {e : TypeId} : ∀ ad, some (⟨w.heap.size, 0, none⟩ : Addr) = some ad → ∀ j v, ([u] : List Value)[j]? = some v → (w.alloc (.cells #[u] e)).cell? (ad.add j) = some v := by
  intro ad had j v hv
  obtain rfl := Option.some.inj had
  exact cells_one w u e j v hv

theorem take_facts {ls : List (List UInt8)} {k : Nat} (hk : k ≤ ls.length) : ∀ j, j < (ls.take k).length → 0 + j < ls.length ∧ (ls.take k).getD j [] = ls.getD (0 + j) [] := by
  intro j hj
  have : j < k := by simp at hj; omega
  refine ⟨by omega, ?_⟩
  simp [List.getD, this]

theorem drop_facts {ls : List (List UInt8)} {k : Nat} : ∀ j, j < (ls.drop k).length → k + j < ls.length ∧ (ls.drop k).getD j [] = ls.getD (k + j) [] := by
  intro j hj
  have : k + j < ls.length := by simp at hj; omega
  exact ⟨this, by simp [List.getD]⟩

set_option maxHeartbeats 1600000 in
set_option maxRecDepth 100000 in
theorem iput_some {w : World} (b off cap : Nat) (ls : List (List UInt8)) (x : List UInt8) (h1 : 1 ≤ ls.length) (h2 : ls.length ≤ cap) (h3 : cap ≤ 9223372036854775807) (h4 : ls.length ≤ 1000)
    (hbw : b < w.heap.size) (hc : ∀ i, i < ls.length → w.cell? ⟨b, off + i, none⟩ = some (encS (ls.getD i []))) :
    Calls Try.prog 86 #[.slice (some ⟨b, off, none⟩) ls.length cap, .string ⟨x.toArray⟩] w fun e w' => ∃ v, e = .returned v ∧ Texts w' v (ins x ls) ∧ Below w.heap.size w w' := by
  obtain ⟨i0, hi, hz0, hz1, hz2⟩ := info_parts Try.infoStr
  have HT : Hid (Texts w (.slice (some ⟨b, off, none⟩) ls.length cap) ls) := ⟨_, cap, rfl, h2, by unfold maxLen; omega, (fun e => by cases e), .inr ⟨b, off, rfl, hbw, hc⟩⟩
  have HC := Lib.hid hc
  clear hc
  go_enter Try.func86, Try.ntmps86
  go_wp2_with fail
  go_loop [5] (fun i => ∃ k : Nat, k ≤ ls.length ∧ i = .int .i64 k ∧ Hid (∀ j, j < k → idLess (ls.getD j []) x = true)) (fun i => ls.length - (intOf i).toNat)
  case atStart => exact ⟨0, by omega, rfl, fun j hj => absurd hj (by omega)⟩
  case round =>
    obtain ⟨k, hk, rfl, HA⟩ := hrel
    by_cases hlt : k < ls.length
    · have hcell := HC.out k hlt
      unfold encS at hcell
      obtain ⟨y, hy⟩ : ∃ y, ls.getD k [] = y := ⟨_, rfl⟩
      rw [hy] at hcell
      have HY := Lib.hid hy
      clear hy
      cases hl : idLess y x with
      | true =>
        have HN : Hid (∀ j, j < k + 1 → idLess (ls.getD j []) x = true) := by
          show ∀ j, _
          intro j hj
          by_cases e : j = k
          · rw [e, HY.out]; exact hl
          · exact HA.out j (by omega)
        have HL := Lib.hid hl
        clear hl
        go_wp2_with fail
        refine (rless_eq y x HL _).mono ?_
        rintro e w' ⟨rfl, rfl⟩
        go_wp2_with fail
        go_round
        case rel => exact ⟨k + 1, by omega, by go_num, HN⟩
        case measure => simp [intOf]; omega
      | false =>
        have HL := Lib.hid hl
        clear hl
        by_cases e : y = x
        · subst e
          have HI := Lib.hid ((ins_at y ls k hk HA.out).1 hlt HY.out)
          go_wp2_with fail
          refine (rless_eq y y HL _).mono ?_
          rintro e w' ⟨rfl, rfl⟩
          go_wp2_with fail
          go_ret
          exact ⟨_, rfl, by rw [HI.out]; exact HT.out, Below.refl _ _⟩
        · have HI := Lib.hid ((ins_at x ls k hk HA.out).2 (fun _ => by rw [HY.out]; exact ⟨HL.out, e⟩))
          have t1 : (y == x) = false := by simpa using e
          clear e
          go_wp2_with fail
          refine (rless_eq y x HL _).mono ?_
          rintro e w' ⟨rfl, rfl⟩
          go_wp2_with (at_builtin; go_must (refine wpList_append_texts rfl _ _ 28 rfl w.heap.size 9 i0 _ 16 Try.underlying28 hi hz0 hz1 hz2 rfl _ [] rfl (by exact ownT_made w 9) (some ⟨b, off, none⟩) k cap (ls.take k) rfl (by simp; omega) (fun e => by cases e) (src_cells HC.out hbw ((Below.refl _ _).alloc (Nat.le_refl _) _) 0 _ (take_facts hk) _ rfl) (by simp; omega) (by decide) (by simp) ?_))
          intro v1 w1 hown1 hb1
          have HB1 : Hid (Below w.heap.size w w1) := ((Below.refl _ _).alloc (Nat.le_refl _) _).trans hb1
          have hsz1 : w.heap.size ≤ w1.heap.size := HB1.out.size
          have HO1 := Lib.hid hown1
          clear hb1 hown1
          go_wp2_with (at_builtin; go_must (refine wpList_append_texts rfl _ _ 28 rfl w.heap.size 9 i0 _ 16 Try.underlying28 hi hz0 hz1 hz2 rfl _ _ rfl (by exact HO1.out.alloc _) (some ⟨w1.heap.size, 0, none⟩) 1 1 [x] rfl rfl (fun e => by cases e) new_cell (by simp; omega) (by decide) (by simp; omega) ?_))
          intro v2 w2 hown2 hb2
          have HB2 : Hid (Below w.heap.size w w2) := (HB1.out.alloc hsz1 _).trans hb2
          have hsz2 : w.heap.size ≤ w2.heap.size := HB2.out.size
          have HO2 := Lib.hid hown2
          clear hb2 hown2
          go_wp2_with (at_builtin; go_must (refine wpList_append_texts rfl _ _ 28 rfl w.heap.size 9 i0 _ 16 Try.underlying28 hi hz0 hz1 hz2 rfl _ _ rfl (by exact HO2.out) (some ⟨b, off + k, none⟩) (ls.length - k) (cap - k) (ls.drop k) rfl (by simp) (fun e => by cases e) (src_cells HC.out hbw HB2.out k _ drop_facts _ rfl) (by simp; omega) (by decide) hsz2 ?_))
          intro v3 w3 hown3 hb3
          have HB3 : Hid (Below w.heap.size w w3) := HB2.out.trans hb3
          have HO3 := Lib.hid hown3
          clear hb3 hown3
          go_wp2_with fail
          go_ret
          exact ⟨_, rfl, by rw [HI.out]; have := HO3.out.texts; simpa using this, HB3.out⟩
    · obtain rfl : k = ls.length := by omega
      have HI : Hid (ins x ls = ls.take ls.length ++ ([x] ++ [])) := by
        show _ = _
        have := (ins_at x ls ls.length hk HA.out).2 (fun h => absurd h (by omega))
        simpa using this
      go_wp2_with (at_builtin; go_must (refine wpList_append_texts rfl _ _ 28 rfl w.heap.size 9 i0 _ 16 Try.underlying28 hi hz0 hz1 hz2 rfl _ [] rfl (by exact ownT_made w 9) (some ⟨b, off, none⟩) ls.length cap (ls.take ls.length) rfl (by simp) (fun e => by cases e) (src_cells HC.out hbw ((Below.refl _ _).alloc (Nat.le_refl _) _) 0 _ (take_facts (Nat.le_refl _)) _ rfl) (by simp; omega) (by decide) (by simp) ?_))
      intro v1 w1 hown1 hb1
      have HB1 : Hid (Below w.heap.size w w1) := ((Below.refl _ _).alloc (Nat.le_refl _) _).trans hb1
      have hsz1 : w.heap.size ≤ w1.heap.size := HB1.out.size
      have HO1 := Lib.hid hown1
      clear hb1 hown1
      go_wp2_with (at_builtin; go_must (refine wpList_append_texts rfl _ _ 28 rfl w.heap.size 9 i0 _ 16 Try.underlying28 hi hz0 hz1 hz2 rfl _ _ rfl (by exact HO1.out.alloc _) (some ⟨w1.heap.size, 0, none⟩) 1 1 [x] rfl rfl (fun e => by cases e) new_cell (by simp; omega) (by decide) (by simp; omega) ?_))
      intro v2 w2 hown2 hb2
      have HB2 : Hid (Below w.heap.size w w2) := (HB1.out.alloc hsz1 _).trans hb2
      have hsz2 : w.heap.size ≤ w2.heap.size := HB2.out.size
      have HO2 := Lib.hid hown2
      clear hb2 hown2
      go_wp2_with (at_builtin; go_must (refine wpList_append_texts rfl _ _ 28 rfl w.heap.size 9 i0 _ 16 Try.underlying28 hi hz0 hz1 hz2 rfl _ _ rfl (by exact HO2.out) _ _ _ [] (by rfl) rfl (fun e => by split at e <;> cases e) (fun _ _ j u hu => by simp at hu) (by simp; omega) (by decide) hsz2 ?_))
      all_goals
        intro v3 w3 hown3 hb3
        have HB3 : Hid (Below w.heap.size w w3) := HB2.out.trans hb3
        have HO3 := Lib.hid hown3
        clear hb3 hown3
        go_wp2_with fail
        go_ret
        exact ⟨_, rfl, by rw [HI.out]; have := HO3.out.texts; simpa using this, HB3.out⟩

set_option maxHeartbeats 800000 in
set_option maxRecDepth 100000 in
theorem iput_nil {w : World} (x : List UInt8) :
    Calls Try.prog 86 #[.slice none 0 0, .string ⟨x.toArray⟩] w fun e w' => ∃ v, e = .returned v ∧ Texts w' v (ins x []) ∧ Below w.heap.size w w' := by
  obtain ⟨i0, hi, hz0, hz1, hz2⟩ := info_parts Try.infoStr
  go_enter Try.func86, Try.ntmps86
  go_wp2_with fail
  refine wp_loop_rounds 1 ?_
  rw [rounds_succ]
  go_wp2_with (at_builtin; go_must (refine wpList_append_texts rfl _ _ 28 rfl w.heap.size 9 i0 _ 16 Try.underlying28 hi hz0 hz1 hz2 rfl _ [] rfl (by exact ownT_made w 9) none _ _ [] (by rfl) rfl (fun _ => ⟨rfl, rfl⟩) (fun _ e => by cases e) (by simp) (by decide) (by simp) ?_))
  intro v1 w1 hown1 hb1
  have HB1 : Hid (Below w.heap.size w w1) := ((Below.refl _ _).alloc (Nat.le_refl _) _).trans hb1
  have hsz1 : w.heap.size ≤ w1.heap.size := HB1.out.size
  have HO1 := Lib.hid hown1
  clear hb1 hown1
  go_wp2_with (at_builtin; go_must (refine wpList_append_texts rfl _ _ 28 rfl w.heap.size 9 i0 _ 16 Try.underlying28 hi hz0 hz1 hz2 rfl _ _ rfl (by exact HO1.out.alloc _) (some ⟨w1.heap.size, 0, none⟩) 1 1 [x] rfl rfl (fun e => by cases e) new_cell (by simp) (by decide) (by simp; omega) ?_))
  intro v2 w2 hown2 hb2
  have HB2 : Hid (Below w.heap.size w w2) := (HB1.out.alloc hsz1 _).trans hb2
  have hsz2 : w.heap.size ≤ w2.heap.size := HB2.out.size
  have HO2 := Lib.hid hown2
  clear hb2 hown2
  go_wp2_with (at_builtin; go_must (refine wpList_append_texts rfl _ _ 28 rfl w.heap.size 9 i0 _ 16 Try.underlying28 hi hz0 hz1 hz2 rfl _ _ rfl (by exact HO2.out) none _ _ [] (by rfl) rfl (fun _ => ⟨rfl, rfl⟩) (fun _ e => by cases e) (by simp) (by decide) hsz2 ?_))
  intro v3 w3 hown3 hb3
  have HB3 : Hid (Below w.heap.size w w3) := HB2.out.trans hb3
  have HO3 := Lib.hid hown3
  clear hb3 hown3
  go_wp2_with fail
  go_ret
  exact ⟨_, rfl, by have := HO3.out.texts; simpa [ins] using this, HB3.out⟩

/-- What Merge hands to put: nil, or a row that is not empty. -/
def Heaped (w : World) (v : Value) (ls : List (List UInt8)) : Prop := Texts w v ls ∧ (ls = [] → v = .slice none 0 0)

theorem iput_any {w : World} {v : Value} {ls : List (List UInt8)} (h : Heaped w v ls) (hl : ls.length ≤ 1000) (x : List UInt8) :
    Calls Try.prog 86 #[v, .string ⟨x.toArray⟩] w fun e w' => ∃ v, e = .returned v ∧ Texts w' v (ins x ls) ∧ Below w.heap.size w w' := by
  obtain ⟨⟨a, cap, rfl, h1, h2, h3, h4⟩, h5⟩ := h
  unfold maxLen at h2
  rcases h4 with rfl | ⟨b, off, rfl, hb, hc⟩
  · rw [h5 rfl]
    exact iput_nil x
  · by_cases h0 : ls = []
    · subst h0
      have := h5 rfl
      simp at this
    · have : 1 ≤ ls.length := by
        rcases ls with _ | ⟨_, _⟩
        · exact absurd rfl h0
        · simp
      exact iput_some b off cap ls x this h1 h2 hl hb hc

end Go.Proofs.Ytkmbnpjnjlcjmaa
