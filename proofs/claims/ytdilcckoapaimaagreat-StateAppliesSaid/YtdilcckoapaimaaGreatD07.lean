/-
  TEXTS OF THE PROOF, one behind the other: RosSort, RosSort2, IdDoc, IdRput, IdRmerge, IdConcat, IdMerge, RosAbout, RosWat, RosLive, RosRef, RosMayD, ValMay.
-/
import Derived.Test.YtdilcckoapaimaaGreatD06
import Derived.Test.YtdilcckoapaimaaGreatD02
import Derived.Lib.AppendZeros
import Derived.Lib.OwnBridge
import Derived.WalkSpells
import Derived.Test.YtdilcckoapaimaaGreatD05
import Derived.Test.YtdilcckoapaimaaGreatD04
import Derived.Test.YtdilcckoapaimaaGreatD01

section

/-
  slices.SortStableFunc OF ENTRIES THAT RISE ALREADY: nothing turns. Insertion; few entries.
-/
namespace Go.Proofs.YtdilcckoapaimaaGreat
open Go.RowKit

end Go.Proofs.YtdilcckoapaimaaGreat

end

section

/-
  slices.SortStableFunc OF FEW ENTRIES THAT RISE ALREADY.
-/
namespace Go.Proofs.YtdilcckoapaimaaGreat
open Go.RowKit

end Go.Proofs.YtdilcckoapaimaaGreat

end

section

/-
  THE CONTRACTS OF THE DOCUMENT'S Few AND Same.
-/
namespace Go.Proofs.YtdilcckoapaimaaGreat
open Go.RowKit

def fewB (ls : List (List UInt8)) : Bool := decide (ls.length ≤ 30) && ls.all fun t => decide (t.length ≤ 30)

theorem getD_some {ls : List (List UInt8)} {k : Nat} (h : k < ls.length) : ls[k]? = some (ls.getD k []) := by simp [List.getD, List.getElem?_eq_getElem h]

set_option maxHeartbeats 800000 in
set_option maxRecDepth 100000 in
/-- Two lists that are the same. -/
theorem same_yes {w : World} {v u : Value} {ls : List (List UInt8)} (hv : Texts w v ls) (hu : Texts w u ls) (hl : ls.length ≤ 4294967296) :
    Calls Tryz.prog 21 #[v, u] w fun e w' => e = .returned (.bool true) ∧ Below w.heap.size w w' := by
  have HV := Lib.hid hv
  have HU := Lib.hid hu
  obtain ⟨a, cap, rfl, _, _, _, _⟩ := hv
  obtain ⟨a2, cap2, rfl, _, _, _, _⟩ := hu
  go_enter Tryz.func21, Tryz.ntmps21
  go_wp2_with fail
  go_loopw [5] (fun i wr => ∃ k : Nat, k ≤ ls.length ∧ i = .int .i64 k ∧ Below w.heap.size w wr) (fun i _ => ls.length - (intOf i).toNat)
  case atStart => exact ⟨0, by omega, rfl, Below.refl _ _⟩
  case round =>
    obtain ⟨k, hk, rfl, hnx⟩ := hrel
    have HN := Lib.hid hnx
    by_cases hlt : k < ls.length
    · obtain ⟨b1, o1, e1, hc1⟩ : ∃ b1 o1, a = some ⟨b1, o1, none⟩ ∧ wr.cell? ⟨b1, o1 + k, none⟩ = some (encS (ls.getD k [])) := by
        obtain ⟨a', cap', e, _, _, _, h⟩ := HV.out.later HN.out
        simp only [Value.slice.injEq] at e
        rcases h with h | ⟨b, off, e', _, hc⟩
        · rw [h] at hlt; simp at hlt
        · exact ⟨b, off, e.1.trans e', hc k hlt⟩
      obtain ⟨b2, o2, e2, hc2⟩ : ∃ b1 o1, a2 = some ⟨b1, o1, none⟩ ∧ wr.cell? ⟨b1, o1 + k, none⟩ = some (encS (ls.getD k [])) := by
        obtain ⟨a', cap', e, _, _, _, h⟩ := HU.out.later HN.out
        simp only [Value.slice.injEq] at e
        rcases h with h | ⟨b, off, e', _, hc⟩
        · rw [h] at hlt; simp at hlt
        · exact ⟨b, off, e.1.trans e', hc k hlt⟩
      subst e1 e2
      unfold encS at hc1 hc2
      obtain ⟨x, hx⟩ : ∃ x, ls.getD k [] = x := ⟨_, rfl⟩
      rw [hx] at hc1 hc2
      clear hx hnx
      go_wp2_with fail
      go_region
      go_wp2_with fail
      go_roundw
      case rel => exact ⟨k + 1, by omega, by go_num, HN.out.drew⟩
      case measure => simp [intOf]; omega
    · obtain rfl : k = ls.length := by omega
      clear hnx
      go_wp2_with fail
      go_ret
      exact ⟨rfl, HN.out⟩

end Go.Proofs.YtdilcckoapaimaaGreat

end

section

/-
  THE CONTRACTS OF THE DOCUMENT'S put AND Merge.
-/
namespace Go.Proofs.YtdilcckoapaimaaGreat
open Go.RowKit

theorem ins_at (x : List UInt8) : ∀ (ls : List (List UInt8)) (i : Nat), i ≤ ls.length → (∀ j, j < i → idLess (ls.getD j []) x = true) →
    (i < ls.length → ls.getD i [] = x → ins x ls = ls) ∧ ((i < ls.length → idLess (ls.getD i []) x = false ∧ ¬ ls.getD i [] = x) → ins x ls = ls.take i ++ ([x] ++ ls.drop i))
  | [], i, hi, _ => by
    simp only [List.length_nil] at hi
    obtain rfl : i = 0 := by omega
    exact ⟨fun h => absurd h (by simp), fun _ => by simp [ins]⟩
  | y :: ls, 0, _, _ => by
    refine ⟨fun _ h => ?_, fun h => ?_⟩
    · simp only [List.getD_cons_zero] at h
      subst h
      unfold ins
      rw [if_neg (by rw [idLess_irrefl]; decide), if_pos rfl]
    · obtain ⟨h1, h2⟩ := h (by simp)
      simp only [List.getD_cons_zero] at h1 h2
      unfold ins
      rw [if_neg (by rw [h1]; decide), if_neg h2]
      simp
  | y :: ls, i + 1, hi, h => by
    have ih := ins_at x ls i (by simpa using hi) (fun j hj => by simpa using h (j + 1) (by omega))
    have h0 : idLess y x = true := by simpa using h 0 (by omega)
    refine ⟨fun h1 h2 => ?_, fun h1 => ?_⟩
    · unfold ins
      rw [if_pos h0, ih.1 (by simpa using h1) (by simpa using h2)]
    · unfold ins
      rw [if_pos h0, ih.2 (fun h2 => by simpa using h1 (by simpa using h2))]
      simp

theorem Tryz.infoStr : (Tryz.prog.info? 9).map (fun i => (i.zero, i.size, i.bytes)) = some (some (.string ⟨#[]⟩), 1, 16) := by kernel_rfl

/-- The cells of a part of a row. -/
theorem src_cells {w W : World} {b off : Nat} {ls : List (List UInt8)} (hc : ∀ i, i < ls.length → w.cell? ⟨b, off + i, none⟩ = some (encS (ls.getD i []))) (hbw : b < w.heap.size) (hb : Below w.heap.size w W)
    (i : Nat) (ms : List (List UInt8)) (hms : ∀ j, j < ms.length → i + j < ls.length ∧ ms.getD j [] = ls.getD (i + j) []) (o : Nat) (ho : o = off + i) :
    ∀ ad, some (⟨b, o, none⟩ : Addr) = some ad → ∀ j u, (ms.map encS)[j]? = some u → W.cell? (ad.add j) = some u := by
  intro ad had j u hu
  subst ho
  obtain rfl := Option.some.inj had
  have hj : j < ms.length := by
    have := (List.getElem?_eq_some_iff.1 hu).1
    simpa using this
  obtain ⟨h1, h2⟩ := hms j hj
  rw [List.getElem?_map, getD_some hj] at hu
  simp only [Option.map_some, Option.some.injEq] at hu
  rw [Addr.add_lit, hb.cell (p := ⟨b, off + i + j, none⟩) hbw, Nat.add_assoc, hc (i + j) h1, ← h2, hu]

theorem new_cell {w : World} {u : Value} {e : TypeId} : ∀ ad, some (⟨w.heap.size, 0, none⟩ : Addr) = some ad → ∀ j v, ([u] : List Value)[j]? = some v → (w.alloc (.cells #[u] e)).cell? (ad.add j) = some v := by
  intro ad had j v hv
  obtain rfl := Option.some.inj had
  exact cells_one w u e j v hv

theorem take_facts {ls : List (List UInt8)} {k : Nat} (hk : k ≤ ls.length) : ∀ j, j < (ls.take k).length → 0 + j < ls.length ∧ (ls.take k).getD j [] = ls.getD (0 + j) [] := by
  intro j hj
  have : j < k := by simp at hj; omega
  refine ⟨by omega, ?_⟩
  simp [List.getD, this]

theorem drop_facts {ls : List (List UInt8)} {k : Nat} : ∀ j, j < (ls.drop k).length → k + j < ls.length ∧ (ls.drop k).getD j [] = ls.getD (k + j) [] := by
  intro j hj
  have : k + j < ls.length := by simp at hj; omega
  exact ⟨this, by simp [List.getD]⟩

set_option maxHeartbeats 1600000 in
set_option maxRecDepth 100000 in
theorem iput_some {w : World} (b off cap : Nat) (ls : List (List UInt8)) (x : List UInt8) (h1 : 1 ≤ ls.length) (h2 : ls.length ≤ cap) (h3 : cap ≤ 9223372036854775807) (h4 : ls.length ≤ 1000)
    (hbw : b < w.heap.size) (hc : ∀ i, i < ls.length → w.cell? ⟨b, off + i, none⟩ = some (encS (ls.getD i []))) :
    Calls Tryz.prog 106 #[.slice (some ⟨b, off, none⟩) ls.length cap, .string ⟨x.toArray⟩] w fun e w' => ∃ v, e = .returned v ∧ Texts w' v (ins x ls) ∧ Below w.heap.size w w' := by
  obtain ⟨i0, hi, hz0, hz1, hz2⟩ := info_parts Tryz.infoStr
  have HT : Hid (Texts w (.slice (some ⟨b, off, none⟩) ls.length cap) ls) := ⟨_, cap, rfl, h2, by unfold maxLen; omega, (fun e => by cases e), .inr ⟨b, off, rfl, hbw, hc⟩⟩
  have HC := Lib.hid hc
  clear hc
  go_enter Tryz.func106, Tryz.ntmps106
  go_wp2_with fail
  go_loop [5] (fun i => ∃ k : Nat, k ≤ ls.length ∧ i = .int .i64 k ∧ Hid (∀ j, j < k → idLess (ls.getD j []) x = true)) (fun i => ls.length - (intOf i).toNat)
  case atStart => exact ⟨0, by omega, rfl, fun j hj => absurd hj (by omega)⟩
  case round =>
    obtain ⟨k, hk, rfl, HA⟩ := hrel
    by_cases hlt : k < ls.length
    · have hcell := HC.out k hlt
      unfold encS at hcell
      obtain ⟨y, hy⟩ : ∃ y, ls.getD k [] = y := ⟨_, rfl⟩
      rw [hy] at hcell
      have HY := Lib.hid hy
      clear hy
      cases hl : idLess y x with
      | true =>
        have HN : Hid (∀ j, j < k + 1 → idLess (ls.getD j []) x = true) := by
          show ∀ j, _
          intro j hj
          by_cases e : j = k
          · rw [e, HY.out]; exact hl
          · exact HA.out j (by omega)
        have HL := Lib.hid hl
        clear hl
        go_wp2_with fail
        refine (rless_eq y x HL _).mono ?_
        rintro e w' ⟨rfl, rfl⟩
        go_wp2_with fail
        go_round
        case rel => exact ⟨k + 1, by omega, by go_num, HN⟩
        case measure => simp [intOf]; omega
      | false =>
        have HL := Lib.hid hl
        clear hl
        by_cases e : y = x
        · subst e
          have HI := Lib.hid ((ins_at y ls k hk HA.out).1 hlt HY.out)
          go_wp2_with fail
          refine (rless_eq y y HL _).mono ?_
          rintro e w' ⟨rfl, rfl⟩
          go_wp2_with fail
          go_ret
          exact ⟨_, rfl, by rw [HI.out]; exact HT.out, Below.refl _ _⟩
        · have HI := Lib.hid ((ins_at x ls k hk HA.out).2 (fun _ => by rw [HY.out]; exact ⟨HL.out, e⟩))
          have t1 : (y == x) = false := by simpa using e
          clear e
          go_wp2_with fail
          refine (rless_eq y x HL _).mono ?_
          rintro e w' ⟨rfl, rfl⟩
          go_wp2_with (at_builtin; go_must (refine wpList_append_texts rfl _ _ 38 rfl w.heap.size 9 i0 _ 16 Tryz.underlying38 hi hz0 hz1 hz2 rfl _ [] rfl (by exact ownT_made w 9) (some ⟨b, off, none⟩) k cap (ls.take k) rfl (by simp; omega) (fun e => by cases e) (src_cells HC.out hbw ((Below.refl _ _).alloc (Nat.le_refl _) _) 0 _ (take_facts hk) _ rfl) (by simp; omega) (by decide) (by simp) ?_))
          intro v1 w1 hown1 hb1
          have HB1 : Hid (Below w.heap.size w w1) := ((Below.refl _ _).alloc (Nat.le_refl _) _).trans hb1
          have hsz1 : w.heap.size ≤ w1.heap.size := HB1.out.size
          have HO1 := Lib.hid hown1
          clear hb1 hown1
          go_wp2_with (at_builtin; go_must (refine wpList_append_texts rfl _ _ 38 rfl w.heap.size 9 i0 _ 16 Tryz.underlying38 hi hz0 hz1 hz2 rfl _ _ rfl (by exact HO1.out.alloc _) (some ⟨w1.heap.size, 0, none⟩) 1 1 [x] rfl rfl (fun e => by cases e) new_cell (by simp; omega) (by decide) (by simp; omega) ?_))
          intro v2 w2 hown2 hb2
          have HB2 : Hid (Below w.heap.size w w2) := (HB1.out.alloc hsz1 _).trans hb2
          have hsz2 : w.heap.size ≤ w2.heap.size := HB2.out.size
          have HO2 := Lib.hid hown2
          clear hb2 hown2
          go_wp2_with (at_builtin; go_must (refine wpList_append_texts rfl _ _ 38 rfl w.heap.size 9 i0 _ 16 Tryz.underlying38 hi hz0 hz1 hz2 rfl _ _ rfl (by exact HO2.out) (some ⟨b, off + k, none⟩) (ls.length - k) (cap - k) (ls.drop k) rfl (by simp) (fun e => by cases e) (src_cells HC.out hbw HB2.out k _ drop_facts _ rfl) (by simp; omega) (by decide) hsz2 ?_))
          intro v3 w3 hown3 hb3
          have HB3 : Hid (Below w.heap.size w w3) := HB2.out.trans hb3
          have HO3 := Lib.hid hown3
          clear hb3 hown3
          go_wp2_with fail
          go_ret
          exact ⟨_, rfl, by rw [HI.out]; have := HO3.out.texts; simpa using this, HB3.out⟩
    · obtain rfl : k = ls.length := by omega
      have HI : Hid (ins x ls = ls.take ls.length ++ ([x] ++ [])) := by
        show _ = _
        have := (ins_at x ls ls.length hk HA.out).2 (fun h => absurd h (by omega))
        simpa using this
      go_wp2_with (at_builtin; go_must (refine wpList_append_texts rfl _ _ 38 rfl w.heap.size 9 i0 _ 16 Tryz.underlying38 hi hz0 hz1 hz2 rfl _ [] rfl (by exact ownT_made w 9) (some ⟨b, off, none⟩) ls.length cap (ls.take ls.length) rfl (by simp) (fun e => by cases e) (src_cells HC.out hbw ((Below.refl _ _).alloc (Nat.le_refl _) _) 0 _ (take_facts (Nat.le_refl _)) _ rfl) (by simp; omega) (by decide) (by simp) ?_))
      intro v1 w1 hown1 hb1
      have HB1 : Hid (Below w.heap.size w w1) := ((Below.refl _ _).alloc (Nat.le_refl _) _).trans hb1
      have hsz1 : w.heap.size ≤ w1.heap.size := HB1.out.size
      have HO1 := Lib.hid hown1
      clear hb1 hown1
      go_wp2_with (at_builtin; go_must (refine wpList_append_texts rfl _ _ 38 rfl w.heap.size 9 i0 _ 16 Tryz.underlying38 hi hz0 hz1 hz2 rfl _ _ rfl (by exact HO1.out.alloc _) (some ⟨w1.heap.size, 0, none⟩) 1 1 [x] rfl rfl (fun e => by cases e) new_cell (by simp; omega) (by decide) (by simp; omega) ?_))
      intro v2 w2 hown2 hb2
      have HB2 : Hid (Below w.heap.size w w2) := (HB1.out.alloc hsz1 _).trans hb2
      have hsz2 : w.heap.size ≤ w2.heap.size := HB2.out.size
      have HO2 := Lib.hid hown2
      clear hb2 hown2
      go_wp2_with (at_builtin; go_must (refine wpList_append_texts rfl _ _ 38 rfl w.heap.size 9 i0 _ 16 Tryz.underlying38 hi hz0 hz1 hz2 rfl _ _ rfl (by exact HO2.out) _ _ _ [] (by rfl) rfl (fun e => by split at e <;> cases e) (fun _ _ j u hu => by simp at hu) (by simp; omega) (by decide) hsz2 ?_))
      all_goals
        intro v3 w3 hown3 hb3
        have HB3 : Hid (Below w.heap.size w w3) := HB2.out.trans hb3
        have HO3 := Lib.hid hown3
        clear hb3 hown3
        go_wp2_with fail
        go_ret
        exact ⟨_, rfl, by rw [HI.out]; have := HO3.out.texts; simpa using this, HB3.out⟩

set_option maxHeartbeats 800000 in
set_option maxRecDepth 100000 in
theorem iput_nil {w : World} (x : List UInt8) :
    Calls Tryz.prog 106 #[.slice none 0 0, .string ⟨x.toArray⟩] w fun e w' => ∃ v, e = .returned v ∧ Texts w' v (ins x []) ∧ Below w.heap.size w w' := by
  obtain ⟨i0, hi, hz0, hz1, hz2⟩ := info_parts Tryz.infoStr
  go_enter Tryz.func106, Tryz.ntmps106
  go_wp2_with fail
  refine wp_loop_rounds 1 ?_
  rw [rounds_succ]
  go_wp2_with (at_builtin; go_must (refine wpList_append_texts rfl _ _ 38 rfl w.heap.size 9 i0 _ 16 Tryz.underlying38 hi hz0 hz1 hz2 rfl _ [] rfl (by exact ownT_made w 9) none _ _ [] (by rfl) rfl (fun _ => ⟨rfl, rfl⟩) (fun _ e => by cases e) (by simp) (by decide) (by simp) ?_))
  intro v1 w1 hown1 hb1
  have HB1 : Hid (Below w.heap.size w w1) := ((Below.refl _ _).alloc (Nat.le_refl _) _).trans hb1
  have hsz1 : w.heap.size ≤ w1.heap.size := HB1.out.size
  have HO1 := Lib.hid hown1
  clear hb1 hown1
  go_wp2_with (at_builtin; go_must (refine wpList_append_texts rfl _ _ 38 rfl w.heap.size 9 i0 _ 16 Tryz.underlying38 hi hz0 hz1 hz2 rfl _ _ rfl (by exact HO1.out.alloc _) (some ⟨w1.heap.size, 0, none⟩) 1 1 [x] rfl rfl (fun e => by cases e) new_cell (by simp) (by decide) (by simp; omega) ?_))
  intro v2 w2 hown2 hb2
  have HB2 : Hid (Below w.heap.size w w2) := (HB1.out.alloc hsz1 _).trans hb2
  have hsz2 : w.heap.size ≤ w2.heap.size := HB2.out.size
  have HO2 := Lib.hid hown2
  clear hb2 hown2
  go_wp2_with (at_builtin; go_must (refine wpList_append_texts rfl _ _ 38 rfl w.heap.size 9 i0 _ 16 Tryz.underlying38 hi hz0 hz1 hz2 rfl _ _ rfl (by exact HO2.out) none _ _ [] (by rfl) rfl (fun _ => ⟨rfl, rfl⟩) (fun _ e => by cases e) (by simp) (by decide) hsz2 ?_))
  intro v3 w3 hown3 hb3
  have HB3 : Hid (Below w.heap.size w w3) := HB2.out.trans hb3
  have HO3 := Lib.hid hown3
  clear hb3 hown3
  go_wp2_with fail
  go_ret
  exact ⟨_, rfl, by have := HO3.out.texts; simpa [ins] using this, HB3.out⟩

/-- What Merge hands to put: nil, or a row that is not empty. -/
def Heaped (w : World) (v : Value) (ls : List (List UInt8)) : Prop := Texts w v ls ∧ (ls = [] → v = .slice none 0 0)

theorem iput_any {w : World} {v : Value} {ls : List (List UInt8)} (h : Heaped w v ls) (hl : ls.length ≤ 1000) (x : List UInt8) :
    Calls Tryz.prog 106 #[v, .string ⟨x.toArray⟩] w fun e w' => ∃ v, e = .returned v ∧ Texts w' v (ins x ls) ∧ Below w.heap.size w w' := by
  obtain ⟨⟨a, cap, rfl, h1, h2, h3, h4⟩, h5⟩ := h
  unfold maxLen at h2
  rcases h4 with rfl | ⟨b, off, rfl, hb, hc⟩
  · rw [h5 rfl]
    exact iput_nil x
  · by_cases h0 : ls = []
    · subst h0
      have := h5 rfl
      simp at this
    · have : 1 ≤ ls.length := by
        rcases ls with _ | ⟨_, _⟩
        · exact absurd rfl h0
        · simp
      exact iput_some b off cap ls x this h1 h2 hl hb hc

end Go.Proofs.YtdilcckoapaimaaGreat

end

section

/-
  THE CONTRACT OF THE DOCUMENT'S Merge.
-/
namespace Go.Proofs.YtdilcckoapaimaaGreat
open Go.RowKit

theorem ins_len (x : List UInt8) : ∀ ls, (ins x ls).length ≤ ls.length + 1 ∧ 1 ≤ (ins x ls).length
  | [] => by simp [ins]
  | y :: ls => by
    have := ins_len x ls
    unfold ins
    split
    · simp only [List.length_cons]; omega
    · split <;> simp

theorem mrg_snoc (l : List (List UInt8)) (x : List UInt8) : mrg (l ++ [x]) = ins x (mrg l) := by
  unfold mrg
  rw [List.foldl_append]
  rfl

theorem mrg_len (l : List (List UInt8)) : (mrg l).length ≤ l.length := by
  have : ∀ acc : List (List UInt8), (l.foldl (fun out x => ins x out) acc).length ≤ acc.length + l.length := by
    induction l with
    | nil => intro acc; simp
    | cons x l ih =>
      intro acc
      have h1 := ih (ins x acc)
      have h2 := (ins_len x acc).1
      simp only [List.foldl_cons, List.length_cons]
      omega
  simpa [mrg] using this []

theorem heaped_ins {w : World} {v : Value} {ls : List (List UInt8)} {x : List UInt8} (h : Texts w v (ins x ls)) : Heaped w v (ins x ls) := by
  refine ⟨h, fun e => ?_⟩
  have := (ins_len x ls).2
  rw [e] at this
  simp at this

theorem Heaped.later {w w' : World} {v : Value} {ls : List (List UInt8)} (h : Heaped w v ls) (hb : Below w.heap.size w w') : Heaped w' v ls := ⟨h.1.later hb, h.2⟩

/-- A cell of a row, in a later world. -/
theorem Texts.cell {w wr : World} {a : Option Addr} {n cap : Nat} {ls : List (List UInt8)} (h : Texts w (.slice a n cap) ls) (hb : Below w.heap.size w wr) (k : Nat) (hk : k < ls.length) :
    ∃ b off, a = some ⟨b, off, none⟩ ∧ wr.cell? ⟨b, off + k, none⟩ = some (.string ⟨(ls.getD k []).toArray⟩) := by
  obtain ⟨a', cap', e, _, _, _, h⟩ := h.later hb
  simp only [Value.slice.injEq] at e
  rcases h with h | ⟨b, off, e', _, hc⟩
  · rw [h] at hk; simp at hk
  · exact ⟨b, off, e.1.trans e', hc k hk⟩

set_option maxHeartbeats 1600000 in
set_option maxRecDepth 100000 in
theorem irmerge_any {w : World} {va vb : Value} {as' bs' : List (List UInt8)} (ha : Texts w va as') (hb : Texts w vb bs') (hal : as'.length ≤ 100) (hbl : bs'.length ≤ 100) :
    Calls Tryz.prog 60 #[va, vb] w fun e w' => ∃ v, e = .returned v ∧ Texts w' v (mrg (as' ++ bs')) ∧ Below w.heap.size w w' := by
  have HA := Lib.hid ha
  have HB := Lib.hid hb
  obtain ⟨a, cap, rfl, _, _, _, _⟩ := ha
  obtain ⟨a2, cap2, rfl, _, _, _, _⟩ := hb
  go_enter Tryz.func60, Tryz.ntmps60
  go_wp2_with fail
  go_loopw [5, 6] (fun v i wr => ∃ k : Nat, k ≤ as'.length ∧ i = .int .i64 k ∧ Hid (Heaped wr v (mrg (as'.take k))) ∧ Below w.heap.size w wr) (fun _ i _ => as'.length - (intOf i).toNat)
  case atStart => exact ⟨0, by omega, rfl, ⟨texts_nil w, fun _ => rfl⟩, Below.refl _ _⟩
  case round =>
    rename_i v0 _ wr _
    obtain ⟨k, hk, rfl, HV, hnx⟩ := hrel
    have HN := Lib.hid hnx
    by_cases hlt : k < as'.length
    · obtain ⟨b1, o1, e1, hc1⟩ := HA.out.cell HN.out k hlt
      subst e1
      obtain ⟨x, hx⟩ : ∃ x, as'.getD k [] = x := ⟨_, rfl⟩
      rw [hx] at hc1
      have HM : Hid (mrg (as'.take (k + 1)) = ins x (mrg (as'.take k))) := by
        show _ = _
        rw [List.take_succ_eq_append_getElem hlt, mrg_snoc]
        congr 1
        rw [← hx]
        simp [List.getD, List.getElem?_eq_getElem hlt]
      have hml := mrg_len (as'.take k)
      have hml' : (mrg (as'.take k)).length ≤ 1000 := by
        have : (as'.take k).length ≤ k := List.length_take_le _ _
        omega
      have HP := Lib.hid (iput_any HV.out hml' x)
      clear hx hnx hml hml'
      go_wp2_with fail
      refine HP.out.mono ?_
      rintro e w1 ⟨v1, rfl, ht1, hb1⟩
      have HT1 : Hid (Heaped w1 v1 (mrg (as'.take (k + 1)))) := by show Heaped _ _ _; rw [HM.out]; exact heaped_ins ht1
      have HN1 := Lib.hid (below2' HN.out hb1)
      clear ht1 hb1 HP
      go_wp2_with fail
      go_roundw
      case rel => exact ⟨k + 1, by omega, by go_num, HT1, HN1.out⟩
      case measure => simp [intOf]; omega
    · obtain rfl : k = as'.length := by omega
      rw [List.take_length] at HV
      have hfull : as'.length ≤ as'.length := Nat.le_refl _
      clear hnx
      go_wp2_with fail
      go_loopw [5, 7] (fun v i ws => ∃ k : Nat, k ≤ bs'.length ∧ i = .int .i64 k ∧ Hid (Heaped ws v (mrg (as' ++ bs'.take k))) ∧ Below w.heap.size w ws) (fun _ i _ => bs'.length - (intOf i).toNat)
      case atStart => exact ⟨0, by omega, rfl, by show Heaped _ _ _; simpa using HV.out, HN.out⟩
      case round =>
        obtain ⟨k, hk, rfl, HV2, hnx⟩ := hrel
        have HN2 := Lib.hid hnx
        by_cases hlt2 : k < bs'.length
        · obtain ⟨b1, o1, e1, hc1⟩ := HB.out.cell HN2.out k hlt2
          subst e1
          obtain ⟨x, hx⟩ : ∃ x, bs'.getD k [] = x := ⟨_, rfl⟩
          rw [hx] at hc1
          have HM : Hid (mrg (as' ++ bs'.take (k + 1)) = ins x (mrg (as' ++ bs'.take k))) := by
            show _ = _
            rw [List.take_succ_eq_append_getElem hlt2, ← List.append_assoc, mrg_snoc]
            congr 1
            rw [← hx]
            simp [List.getD, List.getElem?_eq_getElem hlt2]
          have hml := mrg_len (as' ++ bs'.take k)
          have hml' : (mrg (as' ++ bs'.take k)).length ≤ 1000 := by
            have : (bs'.take k).length ≤ k := List.length_take_le _ _
            rw [List.length_append] at hml
            omega
          have HP := Lib.hid (iput_any HV2.out hml' x)
          clear hx hnx hml hml'
          go_wp2_with fail
          refine HP.out.mono ?_
          rintro e w1 ⟨v1, rfl, ht1, hb1⟩
          have HT1 : Hid (Heaped w1 v1 (mrg (as' ++ bs'.take (k + 1)))) := by show Heaped _ _ _; rw [HM.out]; exact heaped_ins ht1
          have HN1 := Lib.hid (below2' HN2.out hb1)
          clear ht1 hb1 HP
          go_wp2_with fail
          go_roundw
          case rel => exact ⟨k + 1, by omega, by go_num, HT1, HN1.out⟩
          case measure => simp [intOf]; omega
        · obtain rfl : k = bs'.length := by omega
          rw [List.take_length] at HV2
          clear hnx
          go_wp2_with fail
          go_ret
          exact ⟨_, rfl, HV2.out.1, HN2.out⟩

end Go.Proofs.YtdilcckoapaimaaGreat

end

section

/-
  THE CONTRACTS OF slices.Grow (of nil) AND slices.Concat (of two rows of texts), AT THIS PROGRAM.
-/
namespace Go.Proofs.YtdilcckoapaimaaGreat
open Go.RowKit

theorem zeros_size (z : Value) (hz : z.cells.size = 1) (n : Nat) : (Builtin.zeroCells z.cells n).size = n := by
  unfold Builtin.zeroCells
  simp [hz]

set_option maxHeartbeats 800000 in
set_option maxRecDepth 100000 in
theorem grow_nil (n : Nat) (hn : n ≤ 1000) (w : World) :
    Calls Tryz.prog 135 #[.slice none 0 0, .int .i64 n] w fun e w' => ∃ v, e = .returned v ∧ OwnT w' w.heap.size 9 v [] ∧ Below w.heap.size w w' := by
  obtain ⟨i0, hi, hz0, hz1, hz2⟩ := info_parts Tryz.infoStr
  by_cases h0 : n = 0
  · subst h0
    go_enter Tryz.func135, Tryz.ntmps135
    go_wp2_with fail
    go_ret
    exact ⟨_, rfl, World.ownsRow_nil _ _ _ _, Below.refl _ _⟩
  · have hrz := fun ty => Lib.run_append_nil_zeros (P := Tryz.prog) w 38 3 ty 9 i0 _ .i64 .i64 Tryz.underlying38 Tryz.underlying3 hi hz0 n (by omega) (by omega) (by omega) (by rw [hz2]; omega)
    have hG1 := grownCap_ge w n 0 9
    have hG2 := grownCap_le_maxLen w n 0 9 (by unfold maxLen; omega)
    obtain ⟨G, hG⟩ : ∃ G, G = grownCap w n 0 9 := ⟨_, rfl⟩
    rw [← hG] at hrz hG1 hG2
    have hO : Hid (OwnT (w.drew.alloc (.cells (Builtin.zeroCells (Value.string ⟨#[]⟩).cells n ++ Builtin.zeroCells (Value.string ⟨#[]⟩).cells (G - n)) 9)) w.heap.size 9 (.slice (some ⟨w.heap.size, 0, none⟩) 0 G) []) := by
      refine World.ownsRow_made (base := w.heap.size) w.drew _ G (Nat.le_refl _) hG2 ?_
      rw [Array.size_append, zeros_size _ rfl, zeros_size _ rfl]
      omega
    have h1 : 0 < n := by omega
    unfold maxLen at hG2
    clear hG h0
    go_enter Tryz.func135, Tryz.ntmps135
    go_wp2_with (at_builtin; go_must (refine Lib.wpList_append_run _ rfl _ _ _ _ rfl _ _ rfl rfl _ _ (hrz _) ?_))
    go_wp2_with fail
    go_ret
    exact ⟨_, rfl, hO.out, (Below.refl _ _).drew.alloc (Nat.le_refl _) _⟩

/-- A slice of texts as the source of an append. -/
theorem texts_src {W : World} {a : Option Addr} {n cap : Nat} {ls : List (List UInt8)} (h : Texts W (.slice a n cap) ls) :
    n = ls.length ∧ (a = none → cap = 0 ∧ ls = []) ∧ (∀ ad, a = some ad → ∀ j u, (ls.map encS)[j]? = some u → W.cell? (ad.add j) = some u) := by
  obtain ⟨a', cap', e, h1, h2, h3, h4⟩ := h
  simp only [Value.slice.injEq] at e
  obtain ⟨rfl, rfl, rfl⟩ := e
  refine ⟨rfl, fun e => ⟨h3 e, List.length_eq_zero_iff.1 (by have := h3 e; omega)⟩, ?_⟩
  rintro ad rfl j u hu
  have hj : j < ls.length := by
    have := (List.getElem?_eq_some_iff.1 hu).1
    simpa using this
  rcases h4 with h | ⟨b, off, e, _, hc⟩
  · rw [h] at hj; simp at hj
  · obtain rfl := Option.some.inj e
    rw [List.getElem?_map, getD_some hj] at hu
    simp only [Option.map_some, Option.some.injEq] at hu
    rw [Addr.add_lit, hc j hj, hu]

set_option maxHeartbeats 1600000 in
set_option maxRecDepth 100000 in
theorem concat_any {w : World} {va vb : Value} {ls ms : List (List UInt8)} (ha : Texts w va ls) (hb : Texts w vb ms) (hl : ls.length ≤ 100) (hm : ms.length ≤ 100)
    (B : Nat) (k0 : w.cell? ⟨B, 0, none⟩ = some va) (k1 : w.cell? ⟨B, 1, none⟩ = some vb) :
    Calls Tryz.prog 102 #[.slice (some ⟨B, 0, none⟩) 2 2] w fun e w' => ∃ v, e = .returned v ∧ OwnT w' w.heap.size 9 v (ls ++ ms) ∧ Below w.heap.size w w' := by
  obtain ⟨i0, hi, hz0, hz1, hz2⟩ := info_parts Tryz.infoStr
  have HA := Lib.hid ha
  have HB := Lib.hid hb
  obtain ⟨a, cap, rfl, _, _, _, _⟩ := ha
  obtain ⟨a2, cap2, rfl, _, _, _, _⟩ := hb
  have HG := Lib.hid (grow_nil (ls.length + ms.length) (by omega))
  have K0 := Lib.hid k0
  have K1 := Lib.hid k1
  have hB := World.block_lt_of_cell? w _ k0
  simp only at hB
  go_enter Tryz.func102, Tryz.ntmps102
  go_wp2_with fail
  refine wp_loop_rounds 3 ?_
  rw [rounds_succ]
  go_wp2_with fail
  rw [rounds_succ]
  go_wp2_with fail
  rw [rounds_succ]
  go_wp2_with fail
  refine (HG.out _).mono ?_
  rintro e w1 ⟨v1, rfl, ho1, hb1⟩
  have HO1 := Lib.hid ho1
  have HB1 := Lib.hid hb1
  have k0 := cell_after K0.out hb1
  have k1 := cell_after K1.out hb1
  have hA1 := Lib.hid (texts_src (HA.out.later hb1))
  have hsz1 := hb1.size
  clear hb1 ho1
  go_wp2_with fail
  refine wp_loop_rounds 3 ?_
  rw [rounds_succ]
  go_wp2_with (at_builtin; go_must (refine wpList_append_texts rfl _ _ 38 rfl w.heap.size 9 i0 _ 16 Tryz.underlying38 hi hz0 hz1 hz2 rfl _ _ rfl (by exact HO1.out) a ls.length cap ls rfl rfl hA1.out.2.1 hA1.out.2.2 (by simp; omega) (by decide) hsz1 ?_))
  intro v2 w2 hown2 hb2
  have HB2 : Hid (Below w.heap.size w w2) := HB1.out.trans hb2
  have hsz2 : w.heap.size ≤ w2.heap.size := HB2.out.size
  have k1 := cell_after K1.out HB2.out
  have hA2 := Lib.hid (texts_src (HB.out.later HB2.out))
  have HO2 := Lib.hid hown2
  clear hb2 hown2 k0
  go_wp2_with fail
  rw [rounds_succ]
  go_wp2_with (at_builtin; go_must (refine wpList_append_texts rfl _ _ 38 rfl w.heap.size 9 i0 _ 16 Tryz.underlying38 hi hz0 hz1 hz2 rfl _ _ rfl (by exact HO2.out) a2 ms.length cap2 ms rfl rfl hA2.out.2.1 hA2.out.2.2 (by first | omega | (simp; omega)) (by decide) hsz2 ?_))
  intro v3 w3 hown3 hb3
  have HB3 : Hid (Below w.heap.size w w3) := HB2.out.trans hb3
  have HO3 := Lib.hid hown3
  clear hb3 hown3 k1
  go_wp2_with fail
  rw [rounds_succ]
  go_wp2_with fail
  go_ret
  exact ⟨_, rfl, by have := HO3.out; simpa using this, HB3.out⟩

end Go.Proofs.YtdilcckoapaimaaGreat

end

section

/-
  THE CONTRACT OF ident.Merge: the lists as one, sorted, each text once.
-/
namespace Go.Proofs.YtdilcckoapaimaaGreat
open Go.RowKit Go.Lib Go.Sort

theorem encS_cell : OneCell encS := fun _ => rfl

theorem eql_S : EqlAt Tryz.prog 9 encS (fun x y => decide (x = y)) :=
  ⟨fun x y w => by rw [show encS x = .string ⟨x.toArray⟩ from rfl, show encS y = .string ⟨y.toArray⟩ from rfl, (EqlAt.string Tryz.prog 9).1]; by_cases h : x = y <;> simp [h, ByteArray.toList_eq],
   fun op a b x y w => GuardAt.string Tryz.prog 9 op a b _ _ w⟩

theorem neq_S : NeqAt Tryz.prog 9 encS (fun x y => decide (x = y)) :=
  ⟨fun x y w => by rw [show encS x = .string ⟨x.toArray⟩ from rfl, show encS y = .string ⟨y.toArray⟩ from rfl, (NeqAt.string Tryz.prog 9).1]; by_cases h : x = y <;> simp [h, ByteArray.toList_eq],
   fun op a b x y w => GuardAt.string Tryz.prog 9 op a b _ _ w⟩

theorem compare_lays (blk off size : Nat) (w : World) : CmpLays1 Tryz.prog 104 #[] encS idCmp blk off size w :=
  fun m os dk _ x y => (compare_any x y (sortWorld encS w blk off m dk os)).mono fun _ _ ⟨he, o, hw⟩ => ⟨he, 0, #[o], by rw [hw, alloc_eq_grow]; rfl⟩

theorem below_grow {B : Nat} {w0 w : World} (h : Below B w0 w) (hB : B ≤ w.heap.size) (os : Array Obj) : Below B w0 (grow w os) :=
  ⟨h.os, h.tape, h.output, by have := h.size; simp only [grow, Array.size_append]; omega, fun k hk => by
    rw [← h.block k hk]
    simp only [grow]
    rw [Array.getElem?_append_left (by omega)]⟩

/-- The row behind the sort. -/
theorem sorted_row {w1 : World} {g n : Nat} {d d' : Array (List UInt8)} {os : Array Obj} (hH : Holds encS w1 g 0 d) (hg : g < w1.heap.size) (hd : d'.size = d.size) :
    Holds encS (sortWorld encS w1 g 0 n d' os) g 0 d' := by
  unfold sortWorld
  refine holds_grow encS _ os g 0 d' ?_ (holds_putRow encS _ g 0 d d' (holds_ahead encS w1 n g 0 d hH) hd)
  simpa [putRow, mapBlock, Sort.ahead] using hg

theorem sorted_below {B : Nat} {w0 w1 : World} {g n : Nat} {d' : Array (List UInt8)} {os : Array Obj} (h : Below B w0 w1) (hB : B ≤ w1.heap.size) (hg : B ≤ g) : Below B w0 (sortWorld encS w1 g 0 n d' os) := by
  unfold sortWorld
  refine below_grow (below_putRow h hg) ?_ os
  simpa [putRow, mapBlock, Sort.ahead] using hB

/-- The row behind Compact. -/
theorem compact_texts {w2 : World} {g q cap : Nat} {d : Array (List UInt8)} (hH : Holds encS w2 g 0 d) (hg : g < w2.heap.size) (hn : d.size ≤ cap) (hc : cap ≤ maxLen) {ls : List (List UInt8)} (hle : ls.length ≤ d.size) :
    Texts (putRow encS (Sort.ahead w2 q) g 0 (ls ++ List.replicate (d.size - ls.length) []).toArray) (.slice (some ⟨g, 0, none⟩) ls.length cap) ls := by
  refine ⟨some ⟨g, 0, none⟩, cap, rfl, by omega, hc, (fun e => by cases e), .inr ⟨g, 0, rfl, ?_, fun i hi => ?_⟩⟩
  · simpa [putRow, mapBlock, Sort.ahead] using hg
  · have h := holds_putRow encS (Sort.ahead w2 q) g 0 d (ls ++ List.replicate (d.size - ls.length) []).toArray (holds_ahead encS w2 q g 0 d hH) (by simp; omega)
    have h1 := (h i (by simp; omega)).1
    rw [h1]
    congr 2
    rw [getElem!_pos _ i (by simp; omega)]
    simp [List.getD, hi]

theorem compact_len (d : Array (List UInt8)) : (compactUpTo d d.size).length ≤ d.size := by
  unfold compactUpTo
  rw [List.length_map]
  exact Nat.le_trans (List.length_filter_le _ _) (by simp)

set_option maxHeartbeats 1600000 in
set_option maxRecDepth 100000 in
theorem merge_any {w : World} {va vb : Value} {ls ms : List (List UInt8)} (ha : Texts w va ls) (hb : Texts w vb ms) (hl : ls.length ≤ 100) (hm : ms.length ≤ 100) :
    Calls Tryz.prog 59 #[va, vb] w fun e w' => ∃ v, e = .returned v ∧ Texts w' v (mrg (ls ++ ms)) ∧ Below w.heap.size w w' := by
  have eg : ∀ args w, (callFunc 104 args).run Tryz.prog w = .ok (.enter 104 args) w := enters_of Tryz.func104 (by kernel_rfl) rfl
  have hB0 : Below w.heap.size w (w.alloc (.cells #[va, vb] 38)) := (Below.refl _ _).alloc (Nat.le_refl _) _
  have HC := Lib.hid (concat_any (ha.later hB0) (hb.later hB0) hl hm w.heap.size (by simp) (by simp))
  have HB0 := Lib.hid hB0
  obtain ⟨a, cap, rfl, _, _, _, _⟩ := ha
  obtain ⟨a2, cap2, rfl, _, _, _, _⟩ := hb
  clear hB0
  go_enter Tryz.func59, Tryz.ntmps59
  go_wp2_with fail
  refine HC.out.mono ?_
  rintro e w1 ⟨v1, rfl, ho1, hb1⟩
  have HB1 := Lib.hid (below2' HB0.out hb1)
  have hsz1 : w.heap.size + 1 ≤ w1.heap.size := by have := hb1.size; simpa using this
  have HO1 := Lib.hid ho1
  clear hb1 ho1 HC HB0
  by_cases h0 : ls ++ ms = []
  · have hr : Hid (mrg (ls ++ ms) = []) := by show _ = _; rw [h0]; rfl
    obtain ⟨p, c, rfl, _⟩ : ∃ p c, v1 = .slice p 0 c ∧ True := by
      obtain ⟨p, c, e, _⟩ := HO1.out.texts
      rw [h0] at e
      exact ⟨p, c, e, trivial⟩
    have HT := Lib.hid HO1.out.texts
    have HS := Lib.hid (Tryz.slices_SortFunc_none (α := List UInt8) p c (.func (.func 104) #[] #[]) w1)
    have HK := Lib.hid (Tryz.slices_Compact_string_empty p c w1)
    have H0 := Lib.hid h0
    clear h0
    go_wp2_with fail
    refine HS.out.mono ?_
    rintro e w' ⟨rfl, rfl⟩
    go_wp2_with fail
    refine HK.out.mono ?_
    rintro e w' ⟨rfl, rfl⟩
    go_wp2_with fail
    go_ret
    exact ⟨_, rfl, by rw [hr.out]; have := HT.out; rw [H0.out] at this; exact this, HB1.out⟩
  · have hv : v1 ≠ .slice none 0 0 := by
      intro e
      obtain ⟨p, c, e', _⟩ := HO1.out.texts
      rw [e'] at e
      simp only [Value.slice.injEq] at e
      exact h0 (List.length_eq_zero_iff.1 e.2.1)
    obtain ⟨g, c, rfl, hg1, hg2, hn, hc, _, hH⟩ := holds_of_ownsRow (zs := ls ++ ms) (HO1.out : World.ownsRow _ _ _ _ _ _ _) hv
    have hg1' : w.heap.size + 1 ≤ g := by simpa using hg1
    have HS := Lib.hid (Tryz.slices_SortFunc_total encS (fun _ => rfl) idCmp idSWO 104 #[] g 0 c (ls ++ ms).toArray w1 eg (compare_lays g 0 _ w1) hH hg2 (by simp; omega) idTot)
    have hlen : (ls ++ ms).length = ls.length + ms.length := List.length_append
    simp only [List.size_toArray, hlen] at HS
    have HH := Lib.hid hH
    rw [hlen] at hn
    clear eg hH hg1 hv h0 hlen
    go_wp2_with fail
    refine HS.out.mono ?_
    rintro e w2 ⟨rfl, nn, os, hw2⟩
    have hD : Hid (Holds encS w2 g 0 ((ls ++ ms).mergeSort fun x y => !(ltOf idCmp) y x).toArray) := by
      show Holds _ _ _ _ _
      rw [hw2]
      exact sorted_row HH.out hg2 (by simp)
    have HB2 : Hid (Below w.heap.size w w2) := by
      show Below _ _ _
      rw [hw2]
      exact sorted_below HB1.out (by omega) (by omega)
    have hg3 : Hid (g < w2.heap.size) := by
      show g < _
      rw [hw2]
      simp only [sortWorld, grow, Array.size_append, putRow, mapBlock, Array.size_modify, Sort.ahead]
      omega
    have hsl : ((ls ++ ms).mergeSort fun x y => !(ltOf idCmp) y x).length = ls.length + ms.length := by simp
    obtain ⟨d, hd⟩ : ∃ d, d = ((ls ++ ms).mergeSort fun x y => !(ltOf idCmp) y x).toArray := ⟨_, rfl⟩
    have hds : d.size = ls.length + ms.length := by rw [hd]; simp
    have HM : Hid (compactUpTo d d.size = mrg (ls ++ ms)) := by show _ = _; rw [hd]; exact sort_compact _
    rw [← hd] at hD
    have HK := Lib.hid (Tryz.slices_Compact encS encS_cell eql_S neq_S [] (fun _ => by kernel_rfl) g 0 c d w2 hD.out (by omega) (by omega))
    have hcl := compact_len d
    rw [HM.out] at HK hcl
    rw [hds] at HK
    have HT : Hid (∀ q, Texts (putRow encS (Sort.ahead w2 q) g 0 (mrg (ls ++ ms) ++ List.replicate (d.size - (mrg (ls ++ ms)).length) []).toArray) (.slice (some ⟨g, 0, none⟩) (mrg (ls ++ ms)).length c) (mrg (ls ++ ms))) :=
      fun q => compact_texts hD.out hg3.out (by omega) hc hcl
    rw [hds] at HT
    clear hw2 hd hds hsl HM HS hD hcl HH
    obtain ⟨r, hr⟩ : ∃ r, mrg (ls ++ ms) = r := ⟨_, rfl⟩
    rw [hr] at HK HT
    have HR := Lib.hid hr
    clear hr
    go_wp2_with fail
    refine HK.out.mono ?_
    rintro e w3 ⟨rfl, q, hw3⟩
    have HT3 := HT.out q
    rw [← hw3] at HT3
    have HB3 : Hid (Below w.heap.size w w3) := by
      show Below _ _ _
      rw [hw3]
      exact below_putRow HB2.out (by omega)
    have HT3' := Lib.hid HT3
    clear hw3 HT3 HK HT
    go_wp2_with fail
    go_ret
    exact ⟨_, rfl, by rw [HR.out]; exact HT3'.out, HB3.out⟩

end Go.Proofs.YtdilcckoapaimaaGreat

end

section

/-
  LAYER 8, THE CODE: about; Watchers, where sorting turns nothing.
-/
namespace Go.Proofs.YtdilcckoapaimaaGreat
open Go.RowKit

end Go.Proofs.YtdilcckoapaimaaGreat

end

section

/-
  LAYER 8, THE CODE: Watchers, where sorting turns nothing.
-/
namespace Go.Proofs.YtdilcckoapaimaaGreat
open Go.RowKit

end Go.Proofs.YtdilcckoapaimaaGreat

end

section

/-
  THE CONTRACT OF live OF LAYER 8's STATEMENTS: it returns true.
-/
namespace Go.Proofs.YtdilcckoapaimaaGreat
open Go.RowKit

theorem Ents.cut {w : World} {ad : Option Addr} {n cap k : Nat} {l : List Ent} (h : Ents w (.slice ad n cap) l) (hk : k ≤ l.length) : Ents w (.slice ad k cap) (l.take k) := by
  obtain ⟨a', cap', e, h1, h2, h3, h4⟩ := h
  simp only [Value.slice.injEq] at e
  obtain ⟨rfl, rfl, rfl⟩ := e
  have hl : (l.take k).length = k := by rw [List.length_take]; omega
  refine ⟨ad, cap, by rw [hl], by rw [hl]; omega, h2, h3, ?_⟩
  rcases h4 with rfl | ⟨b, off, e, hb, hc⟩
  · exact .inl (by simp)
  · refine .inr ⟨b, off, e, hb, fun i hi => ?_⟩
    rw [hl] at hi
    have := hc i (by omega)
    have e2 : (l.take k).getD i Ent.zero = l.getD i Ent.zero := by simp [List.getD, hi]
    rwa [e2]

theorem texts_one (w : World) (x : List UInt8) {B : Nat} (hB : B = w.heap.size) : Texts (w.alloc (.cells #[.string ⟨x.toArray⟩] 9)) (.slice (some ⟨B, 0, none⟩) 1 1) [x] := by
  subst hB
  refine ⟨_, _, rfl, Nat.le_refl _, by unfold maxLen; simp, (fun e => by cases e), .inr ⟨_, _, rfl, by simp, fun i hi => ?_⟩⟩
  obtain rfl : i = 0 := by simp at hi; omega
  rw [World.cell?_alloc_at _ _ _ _ rfl]
  rfl

def nAnn : List UInt8 := [97, 110, 110]
def nBob : List UInt8 := [98, 111, 98]
def lvM1 : List Ent := [⟨nAnn, nBob, ⟨false, false, false, true, false⟩⟩, ⟨nBob, nAnn, ⟨false, false, true, false, false⟩⟩]
def lvM2 : List Ent := [⟨nAnn, nBob, ⟨false, true, false, false, false⟩⟩, ⟨nBob, nAnn, ⟨true, false, false, false, false⟩⟩]

theorem lv_shortE {l : List Ent} (h : ∀ e ∈ l, e.o.length = 3 ∧ e.c.length = 3) : ShortE l := fun e he => by
  have := h e he
  omega

theorem lvs3 : ShortE (lvM2.take 1) := lv_shortE (by decide)
end Go.Proofs.YtdilcckoapaimaaGreat

end

section

/-
  LAYER 8, THE DOCUMENT's: Ahead, Few, Same.
-/
namespace Go.Proofs.YtdilcckoapaimaaGreat
open Go.RowKit

theorem entLt_cases (xo xc yo yc : List UInt8) (i j : It) :
    (idLess xo yo = true ∧ entLt ⟨xo, xc, i⟩ ⟨yo, yc, j⟩ = true) ∨ (idLess xo yo = false ∧ (xo == yo) = false ∧ entLt ⟨xo, xc, i⟩ ⟨yo, yc, j⟩ = false) ∨ (idLess xo yo = false ∧ (xo == yo) = true ∧ entLt ⟨xo, xc, i⟩ ⟨yo, yc, j⟩ = idLess xc yc) := by
  unfold entLt
  cases h : idLess xo yo with
  | true => exact .inl ⟨rfl, by simp⟩
  | false =>
    by_cases he : xo = yo
    · exact .inr (.inr ⟨rfl, by simpa using he, by simp [he]⟩)
    · exact .inr (.inl ⟨rfl, by rw [beq_eq_false_iff_ne]; exact he, by simp [he]⟩)

set_option maxHeartbeats 1600000 in
set_option maxRecDepth 100000 in
theorem rahead8_any (xo xc : List UInt8) (x1 x2 x3 x4 x5 : Bool) (yo yc : List UInt8) (y1 y2 y3 y4 y5 : Bool) {r : Bool} (h : Hid (entLt ⟨xo, xc, ⟨x1, x2, x3, x4, x5⟩⟩ ⟨yo, yc, ⟨y1, y2, y3, y4, y5⟩⟩ = r)) (w : World) :
    Calls Tryz.prog 100 #[.agg #[.string ⟨xo.toArray⟩, .string ⟨xc.toArray⟩, .bool x1, .bool x2, .bool x3, .bool x4, .bool x5], .agg #[.string ⟨yo.toArray⟩, .string ⟨yc.toArray⟩, .bool y1, .bool y2, .bool y3, .bool y4, .bool y5]] w fun e w' => e = .returned (.bool r) ∧ Below w.heap.size w w' := by
  have B0 := Lib.hid (below2Z (bl_newZ w (.cells #[.string ⟨xo.toArray⟩, .string ⟨xc.toArray⟩, .bool x1, .bool x2, .bool x3, .bool x4, .bool x5] 87)) (bl_newZ _ (.cells #[.string ⟨yo.toArray⟩, .string ⟨yc.toArray⟩, .bool y1, .bool y2, .bool y3, .bool y4, .bool y5] 87)))
  rcases entLt_cases xo xc yo yc ⟨x1, x2, x3, x4, x5⟩ ⟨y1, y2, y3, y4, y5⟩ with ⟨h1, h2⟩ | ⟨h1, t1, h2⟩ | ⟨h1, t1, h2⟩
  · have HL : Hid (∀ w, Calls Tryz.prog 134 #[.string ⟨xo.toArray⟩, .string ⟨yo.toArray⟩] w fun e w' => e = .returned (.bool true) ∧ w = w') := Lib.hid (rless_eq xo yo (Lib.hid h1))
    rw [h.out] at h2
    subst h2
    clear h h1
    go_enter Tryz.func100, Tryz.ntmps100
    go_wp2_with fail
    refine (HL.out _).mono ?_
    rintro e w1 ⟨rfl, rfl⟩
    go_wp2_with fail
    go_ret
    exact ⟨rfl, B0.out⟩
  · have HL : Hid (∀ w, Calls Tryz.prog 134 #[.string ⟨xo.toArray⟩, .string ⟨yo.toArray⟩] w fun e w' => e = .returned (.bool false) ∧ w = w') := Lib.hid (rless_eq xo yo (Lib.hid h1))
    rw [h.out] at h2
    subst h2
    clear h h1
    go_enter Tryz.func100, Tryz.ntmps100
    go_wp2_with fail
    refine (HL.out _).mono ?_
    rintro e w1 ⟨rfl, rfl⟩
    go_wp2_with fail
    go_ret
    exact ⟨rfl, B0.out⟩
  · have HL : Hid (∀ w, Calls Tryz.prog 134 #[.string ⟨xo.toArray⟩, .string ⟨yo.toArray⟩] w fun e w' => e = .returned (.bool false) ∧ w = w') := Lib.hid (rless_eq xo yo (Lib.hid h1))
    rw [h.out] at h2
    have HM : Hid (∀ w, Calls Tryz.prog 134 #[.string ⟨xc.toArray⟩, .string ⟨yc.toArray⟩] w fun e w' => e = .returned (.bool r) ∧ w = w') := Lib.hid (rless_eq xc yc (Lib.hid h2.symm))
    have he : xo = yo := by simpa using t1
    subst he
    clear h h1 t1 h2
    go_enter Tryz.func100, Tryz.ntmps100
    go_wp2_with fail
    refine (HL.out _).mono ?_
    rintro e w1 ⟨rfl, rfl⟩
    go_wp2_with fail
    refine (HM.out _).mono ?_
    rintro e w1 ⟨rfl, rfl⟩
    go_wp2_with fail
    go_ret
    exact ⟨rfl, B0.out⟩

def fewE (e : Ent) : Bool := decide (e.o.length ≤ 40) && decide (e.c.length ≤ 40)
def fewR (l : List Ent) : Bool := decide (l.length ≤ 80) && l.all fewE

theorem fewR_get {l : List Ent} (h : fewR l = true) : l.length ≤ 80 ∧ ∀ e ∈ l, e.o.length ≤ 40 ∧ e.c.length ≤ 40 := by
  unfold fewR fewE at h
  simp only [Bool.and_eq_true, List.all_eq_true, decide_eq_true_eq] at h
  exact ⟨h.1, h.2⟩

theorem fewR_short {l : List Ent} (h : fewR l = true) : ShortE l := fun e he => by
  have := (fewR_get h).2 e he
  omega

set_option maxHeartbeats 1600000 in
set_option maxRecDepth 100000 in
theorem few8_any {w : World} {v : Value} {l : List Ent} (hv : Ents w v l) {r : Bool} (h : Hid (fewR l = r)) :
    Calls Tryz.prog 44 #[v] w fun e w' => e = .returned (.bool r) ∧ w = w' := by
  have HV := Lib.hid hv
  obtain ⟨a, cap, rfl, hm⟩ := hv.open'
  clear hv
  by_cases h80 : l.length ≤ 80
  · have t0 : decide (80 < (l.length : Int)) = false := by simp; omega
    go_enter Tryz.func44, Tryz.ntmps44
    go_wp2_with fail
    go_loop [3] (fun i => ∃ k : Nat, k ≤ l.length ∧ i = .int .i64 k ∧ Hid ((l.take k).all fewE = true)) (fun i => l.length - (intOf i).toNat)
    case atStart => exact ⟨0, by omega, rfl, by show _ = _; simp⟩
    case round =>
      obtain ⟨k, hk, rfl, HA⟩ := hrel
      by_cases hlt : k < l.length
      · obtain ⟨b, off, rfl, h0, h1, _⟩ := HV.out.row (Below.refl _ _) k hlt
        obtain ⟨⟨xo, xc, ⟨x1, x2, x3, x4, x5⟩⟩, hr⟩ : ∃ r, l.getD k Ent.zero = r := ⟨_, rfl⟩
        have hnext : (l.take (k + 1)).all fewE = ((l.take k).all fewE && fewE ⟨xo, xc, ⟨x1, x2, x3, x4, x5⟩⟩) := by
          rw [List.take_succ_eq_append_getElem hlt, List.all_append, ← getD_at hlt, hr]
          simp
        have hoff : fewE ⟨xo, xc, ⟨x1, x2, x3, x4, x5⟩⟩ = false → fewR l = false := fun he => by
          rw [Bool.eq_false_iff]
          intro h'
          unfold fewR at h'
          rw [Bool.and_eq_true, List.all_eq_true] at h'
          have := h'.2 _ (List.getElem_mem hlt)
          rw [← getD_at hlt, hr, he] at this
          cases this
        rw [hr] at h0 h1
        simp only at h0 h1
        clear hr
        by_cases ho : xo.length ≤ 40
        · have t1 : decide (40 < (xo.length : Int)) = false := by simp; omega
          by_cases hc : xc.length ≤ 40
          · have t2 : decide (40 < (xc.length : Int)) = false := by simp; omega
            have HA2 : Hid ((l.take (k + 1)).all fewE = true) := by
              show _ = _
              rw [hnext, HA.out]
              unfold fewE
              simp [ho, hc]
            clear hnext hoff ho hc
            go_wp2_with fail
            go_round
            case rel => exact ⟨k + 1, by omega, by go_num, HA2⟩
            case measure => simp [intOf]; omega
          · have t2 : decide (40 < (xc.length : Int)) = true := by simp; omega
            have HR := hoff (by unfold fewE; simp [hc])
            rw [h.out] at HR
            subst HR
            clear hnext hoff ho hc
            go_wp2_with fail
            go_ret
            exact ⟨rfl, rfl⟩
        · have t1 : decide (40 < (xo.length : Int)) = true := by simp; omega
          have HR := hoff (by unfold fewE; simp [ho])
          rw [h.out] at HR
          subst HR
          clear hnext hoff ho
          go_wp2_with fail
          go_ret
          exact ⟨rfl, rfl⟩
      · obtain rfl : k = l.length := by omega
        have HR : fewR l = true := by
          have := HA.out
          rw [List.take_length] at this
          unfold fewR
          simp [h80, this]
        rw [h.out] at HR
        subst HR
        go_wp2_with fail
        go_ret
        exact ⟨rfl, rfl⟩
  · have t0 : decide (80 < (l.length : Int)) = true := by simp; omega
    have HR : fewR l = false := by unfold fewR; simp [h80]
    rw [h.out] at HR
    subst HR
    go_enter Tryz.func44, Tryz.ntmps44
    go_wp2_with fail
    go_ret
    exact ⟨rfl, rfl⟩

end Go.Proofs.YtdilcckoapaimaaGreat

end

section

/-
  LAYER 8, THE DOCUMENT's: May.
-/
namespace Go.Proofs.YtdilcckoapaimaaGreat
open Go.RowKit

theorem ownT_slice {w : World} {base e : Nat} {v : Value} {ls : List (List UInt8)} (h : OwnT w base e v ls) : ∃ a cap, v = .slice a ls.length cap := by
  rcases h with ⟨_, ⟨rfl, h0⟩ | ⟨g, cp, cur, rfl, -⟩⟩
  · exact ⟨none, 0, by rw [h0]⟩
  · exact ⟨_, _, rfl⟩

theorem roMayD_off {l : List Ent} {k : Nat} (hk : k < l.length) (h : roDocAt l k = false) : roMayD l = false := by
  rw [Bool.eq_false_iff]
  intro h'
  unfold roMayD at h'
  rw [List.all_eq_true] at h'
  rw [h' k (by simpa using hk)] at h
  cases h

theorem roDoc_next {l : List Ent} {k : Nat} (h : (List.range k).all (roDocAt l) = true) (hk : roDocAt l k = true) : (List.range (k + 1)).all (roDocAt l) = true := by
  rw [List.range_succ, List.all_append, h]
  simp [hk]

/-- One entry's May, in letters. -/
theorem roDocAt_eq {l : List Ent} {k : Nat} {xo xc : List UInt8} {x1 x2 x3 x4 x5 : Bool} (hr : l.getD k Ent.zero = ⟨xo, xc, ⟨x1, x2, x3, x4, x5⟩⟩) {ri g h m z y : Bool} {i1 i2 i3 i4 i5 : Bool} (h1 : roRiseAt l k = ri) (h2 : decide (16 < (roOf l xo).length) = g) (h3 : roHas l xc xo = h) (hi : roGet l xc xo = ⟨i1, i2, i3, i4, i5⟩)
    (h4 : suMay ⟨x1, x2, x3, x4, x5⟩ ⟨i1, i2, i3, i4, i5⟩ = m) (h5 : suEmpty ⟨x1, x2, x3, x4, x5⟩ = z) (h6 : suEmpty ⟨i1, i2, i3, i4, i5⟩ = y) : roDocAt l k = (ri && (!g && (h && (m && !(z && y))))) := by
  unfold roDocAt
  rw [h1, hr]
  simp only
  have e1 : decide ((roOf l xo).length ≤ 16) = !g := by
    rw [← h2]
    by_cases hh : (roOf l xo).length ≤ 16
    · simp [hh, show ¬ 16 < (roOf l xo).length by omega]
    · simp [hh, show 16 < (roOf l xo).length by omega]
  rw [e1]
  congr 1
  congr 1
  unfold roPaired
  simp only
  have e2 : roIt l xc xo = ⟨i1, i2, i3, i4, i5⟩ := hi
  have e3 : (l.any fun x => entIs x ⟨xc, xo, It.zero⟩) = h := h3
  rw [e2, e3, h4, h5, h6]

theorem s7 {W : World} {B : Nat} {xo xc : List UInt8} {x1 x2 x3 x4 x5 : Bool} (h : Cells7 W B 0 ⟨xo, xc, ⟨x1, x2, x3, x4, x5⟩⟩) : ((W).cell? ⟨B, 0, none⟩ = some (.string ⟨xo.toArray⟩) ∧ (W).cell? ⟨B, 1, none⟩ = some (.string ⟨xc.toArray⟩) ∧ (W).cell? ⟨B, 2, none⟩ = some (.bool x1) ∧ (W).cell? ⟨B, 3, none⟩ = some (.bool x2) ∧ (W).cell? ⟨B, 4, none⟩ = some (.bool x3) ∧ (W).cell? ⟨B, 5, none⟩ = some (.bool x4) ∧ (W).cell? ⟨B, 6, none⟩ = some (.bool x5)) := by
  obtain ⟨c0, c1, c2, c3, c4, c5, c6⟩ := h
  exact ⟨c0, c1, c2, c3, c4, c5, c6⟩

theorem s14 {W : World} {B bk off j : Nat} {xo xc : List UInt8} {x1 x2 x3 x4 x5 : Bool} {po pc : List UInt8} {p1 p2 p3 p4 p5 : Bool} (h : Cells7 W B 0 ⟨xo, xc, ⟨x1, x2, x3, x4, x5⟩⟩) (g : Cells7 W bk (off + j * 7) ⟨po, pc, ⟨p1, p2, p3, p4, p5⟩⟩) : ((W).cell? ⟨B, 0, none⟩ = some (.string ⟨xo.toArray⟩) ∧ (W).cell? ⟨B, 1, none⟩ = some (.string ⟨xc.toArray⟩) ∧ (W).cell? ⟨B, 2, none⟩ = some (.bool x1) ∧ (W).cell? ⟨B, 3, none⟩ = some (.bool x2) ∧ (W).cell? ⟨B, 4, none⟩ = some (.bool x3) ∧ (W).cell? ⟨B, 5, none⟩ = some (.bool x4) ∧ (W).cell? ⟨B, 6, none⟩ = some (.bool x5) ∧ (W).cell? ⟨bk, off + j * 7, none⟩ = some (.string ⟨po.toArray⟩) ∧ (W).cell? ⟨bk, off + j * 7 + 1, none⟩ = some (.string ⟨pc.toArray⟩) ∧ (W).cell? ⟨bk, off + j * 7 + 2, none⟩ = some (.bool p1) ∧ (W).cell? ⟨bk, off + j * 7 + 3, none⟩ = some (.bool p2) ∧ (W).cell? ⟨bk, off + j * 7 + 4, none⟩ = some (.bool p3) ∧ (W).cell? ⟨bk, off + j * 7 + 5, none⟩ = some (.bool p4) ∧ (W).cell? ⟨bk, off + j * 7 + 6, none⟩ = some (.bool p5)) := by
  obtain ⟨c0, c1, c2, c3, c4, c5, c6⟩ := h
  obtain ⟨d0, d1, d2, d3, d4, d5, d6⟩ := g
  exact ⟨c0, c1, c2, c3, c4, c5, c6, d0, d1, d2, d3, d4, d5, d6⟩

set_option maxHeartbeats 3200000 in
set_option maxRecDepth 100000 in
theorem rmay8_any {w : World} {v : Value} {l : List Ent} (hv : Ents w v l) (hs : ShortE l) (hl : l.length ≤ 4294967) {r : Bool} (h : Hid (roMayD l = r)) :
    Calls Tryz.prog 55 #[v] w fun e w' => e = .returned (.bool r) ∧ Below w.heap.size w w' := by
  have HV := Lib.hid hv
  have HS := Lib.hid hs
  have HL := Lib.hid hl
  obtain ⟨a, cap, rfl, hm⟩ := hv.open'
  clear hv hs hl
  go_enter Tryz.func55, Tryz.ntmps55
  go_wp2_with fail
  go_loopw [3] (fun i wr => ∃ k : Nat, k ≤ l.length ∧ i = .int .i64 k ∧ Hid (Below w.heap.size w wr) ∧ Hid ((List.range k).all (roDocAt l) = true)) (fun i _ => l.length - (intOf i).toNat)
  case atStart => exact ⟨0, by omega, rfl, Below.refl _ _, by show _ = _; simp⟩
  case round =>
    obtain ⟨k, hk, rfl, HB, HA⟩ := hrel
    by_cases hlt : k < l.length
    · obtain ⟨bk, off, rfl, h0, h1, h2, h3, h4, h5, h6⟩ := HV.out.row HB.out k hlt
      obtain ⟨hl1, hl2⟩ := HS.out.get hlt
      obtain ⟨⟨xo, xc, ⟨x1, x2, x3, x4, x5⟩⟩, hr⟩ : ∃ r, l.getD k Ent.zero = r := ⟨_, rfl⟩
      rw [hr] at h0 h1 h2 h3 h4 h5 h6 hl1 hl2
      simp only at h0 h1 h2 h3 h4 h5 h6 hl1 hl2
      have bn := bl_newZ wr (.cells #[.string ⟨xo.toArray⟩, .string ⟨xc.toArray⟩, .bool x1, .bool x2, .bool x3, .bool x4, .bool x5] 87)
      have B1 := Lib.hid (below2S HB.out bn)
      have C1 := Lib.hid (cells7_made wr ⟨xo, xc, ⟨x1, x2, x3, x4, x5⟩⟩ 87)
      have V1 := Lib.hid (HV.out.later B1.out)
      have hnn : (0 : Int) ≤ (k : Int) := by omega
      have hli : (k : Int) < (l.length : Int) := by omega
      have t1 : decide ((k : Int) < (l.length : Int)) = true := by simpa using hli
      clear bn
      obtain ⟨q1, hq1⟩ : ∃ q, idIs xo = q := ⟨_, rfl⟩
      obtain ⟨q2, hq2⟩ : ∃ q, idIs xc = q := ⟨_, rfl⟩
      have hI1 : ∀ w, _ := ris_any xo hl1
      have hI2 : ∀ w, _ := ris_any xc hl2
      rw [hq1] at hI1
      rw [hq2] at hI2
      have I1 := Lib.hid hI1
      have I2 := Lib.hid hI2
      clear hI1 hI2 hl1 hl2
      cases q1 with
      | false =>
        have HR : roMayD l = false := roMayD_off hlt (by unfold roDocAt roRiseAt; rw [hr]; simp [hq1])
        rw [h.out] at HR
        subst HR
        clear hr hq1 hq2
        go_wp2_with fail
        obtain ⟨c0, c1, c2, c3, c4, c5, c6⟩ := cells7_regrown C1.out
        simp only [Nat.zero_add] at c0 c1 c2 c3 c4 c5 c6
        refine wp_region_quiet_below (by kernel_rfl) (by kernel_rfl) ?_
        repeat (go_big_quiet_step (first | with_reducible exact rgS I1.out _ _ _ | with_reducible exact rgS I2.out _ _ _))
        refine wpQuiet_nil ?_
        intro w5 hw5
        have B5 := Lib.hid (below2S B1.out (regrown_belowP hw5))
        clear hw5
        go_wp2_with fail
        go_ret
        exact ⟨rfl, B5.out⟩
      | true =>
        cases q2 with
        | false =>
          have HR : roMayD l = false := roMayD_off hlt (by unfold roDocAt roRiseAt; rw [hr]; simp [hq2])
          rw [h.out] at HR
          subst HR
          clear hr hq1 hq2
          go_wp2_with fail
          obtain ⟨c0, c1, c2, c3, c4, c5, c6⟩ := cells7_regrown C1.out
          simp only [Nat.zero_add] at c0 c1 c2 c3 c4 c5 c6
          refine wp_region_quiet_below (by kernel_rfl) (by kernel_rfl) ?_
          repeat (go_big_quiet_step (first | with_reducible exact rgS I1.out _ _ _ | with_reducible exact rgS I2.out _ _ _))
          refine wpQuiet_nil ?_
          intro w5 hw5
          have B5 := Lib.hid (below2S B1.out (regrown_belowP hw5))
          clear hw5
          go_wp2_with fail
          go_ret
          exact ⟨rfl, B5.out⟩
        | true =>
          by_cases hoc : xo = xc
          · have HR : roMayD l = false := roMayD_off hlt (by unfold roDocAt roRiseAt; rw [hr]; simp [hoc])
            rw [h.out] at HR
            subst HR
            clear hr hq1 hq2
            subst hoc
            go_wp2_with fail
            obtain ⟨c0, c1, c2, c3, c4, c5, c6⟩ := cells7_regrown C1.out
            simp only [Nat.zero_add] at c0 c1 c2 c3 c4 c5 c6
            refine wp_region_quiet_below (by kernel_rfl) (by kernel_rfl) ?_
            repeat (go_big_quiet_step (first | with_reducible exact rgS I1.out _ _ _ | with_reducible exact rgS I2.out _ _ _))
            refine wpQuiet_nil ?_
            intro w5 hw5
            have B5 := Lib.hid (below2S B1.out (regrown_belowP hw5))
            clear hw5
            go_wp2_with fail
            go_ret
            exact ⟨rfl, B5.out⟩
          · have toc : (xo == xc) = false := by rw [beq_eq_false_iff_ne]; exact hoc
            obtain ⟨g, hg⟩ : ∃ g, decide (16 < (roOf l xo).length) = g := ⟨_, rfl⟩
            obtain ⟨hh, hhas⟩ : ∃ g, roHas l xc xo = g := ⟨_, rfl⟩
            obtain ⟨⟨i1, i2, i3, i4, i5⟩, hget⟩ : ∃ g, roGet l xc xo = g := ⟨_, rfl⟩
            obtain ⟨m, hmm⟩ : ∃ g, suMay ⟨x1, x2, x3, x4, x5⟩ ⟨i1, i2, i3, i4, i5⟩ = g := ⟨_, rfl⟩
            obtain ⟨z, hz⟩ : ∃ g, suEmpty ⟨x1, x2, x3, x4, x5⟩ = g := ⟨_, rfl⟩
            obtain ⟨y, hy⟩ : ∃ g, suEmpty ⟨i1, i2, i3, i4, i5⟩ = g := ⟨_, rfl⟩
            have FG := Lib.hid hget
            have MM := Lib.hid (rsmay_bl x1 x2 x3 x4 x5 i1 i2 i3 i4 i5 hmm)
            have MZ := Lib.hid (rsempty_eq x1 x2 x3 x4 x5 hz)
            have MY := Lib.hid (rsempty_eq i1 i2 i3 i4 i5 hy)
            have FH := Lib.hid hhas
            have tg : decide ((16 : Int) < ((roOf l xo).length : Int)) = g := by rw [← hg]; congr 1; apply propext; omega

            rcases Nat.eq_zero_or_pos k with rfl | hpos
            · have HAt := Lib.hid (roDocAt_eq hr (ri := true) (by unfold roRiseAt; rw [hr]; simp [hq1, hq2, hoc]) hg hhas hget hmm hz hy)
              have t8 : decide ((0 : Int) < ((0 : Nat) : Int)) = false := by simp
              simp only [Nat.zero_mul, Nat.add_zero] at h0 h1 h2 h3 h4 h5 h6
              clear hr hq1 hq2 hoc hg hhas hget hmm hz hy
              go_wp2_with fail
              clear h0 h1 h2 h3 h4 h5 h6
              have CE := C1
              refine wp_region_held_drew (S := (fun W => ((W).cell? ⟨wr.heap.size, 0, none⟩ = some (.string ⟨xo.toArray⟩) ∧ (W).cell? ⟨wr.heap.size, 1, none⟩ = some (.string ⟨xc.toArray⟩) ∧ (W).cell? ⟨wr.heap.size, 2, none⟩ = some (.bool x1) ∧ (W).cell? ⟨wr.heap.size, 3, none⟩ = some (.bool x2) ∧ (W).cell? ⟨wr.heap.size, 4, none⟩ = some (.bool x3) ∧ (W).cell? ⟨wr.heap.size, 5, none⟩ = some (.bool x4) ∧ (W).cell? ⟨wr.heap.size, 6, none⟩ = some (.bool x5)))) (by kernel_rfl) ?_ (fun hHeld => ?_)
              · exact s7 (C1.out.later (Below.refl _ _).drew)
              refine wpAnyH_take (i := 0) (oi := { dst := some 16, op := Op.fieldAddr 87 (Operand.tmp 4) 0, type := 0, pos := "ref.go:50", after := #[], guard := none }) (v := ?_) rfl (by as_aux_lemma => kernel_rfl) (by as_aux_lemma => kernel_rfl) (by as_aux_lemma => kernel_rfl) (fun _ _ _ h => h) (Or.inl ⟨by rfl, ?_⟩) (by assumption) ?_
              rotate_left
              · intro w' hSw
                try dsimp only at hSw
                go_simp
                try with_reducible rfl
              try simp only [Act.put, List.setIfInBounds_toArray, List.set_cons_zero, List.set_cons_succ]
              refine wpAnyH_take (i := 1) (oi := { dst := some 17, op := Op.load 9 (Operand.tmp 16), type := 9, pos := "ref.go:50", after := #[{ on := 0, ground := Ground.data }], guard := none }) (v := ?_) rfl (by as_aux_lemma => kernel_rfl) (by as_aux_lemma => kernel_rfl) (by as_aux_lemma => kernel_rfl) (fun _ _ _ h => h) (Or.inl ⟨by rfl, ?_⟩) (by assumption) ?_
              rotate_left
              · intro w' hSw
                try dsimp only at hSw
                go_simp
                try with_reducible rfl
              try simp only [Act.put, List.setIfInBounds_toArray, List.set_cons_zero, List.set_cons_succ]
              refine wpAnyH_ready (rs := [2]) (by as_aux_lemma => kernel_rfl) (by simp) ?_
              refine AllReadyH.cons (o := { dst := some 18, op := Op.call { callee := Callee.value (Operand.func 88), args := #[Operand.tmp 17], argTypes := #[9] }, type := 4, pos := "ref.go:50", after := #[{ on := 1, ground := Ground.data }], guard := none }) rfl (fun Kx hK => ?_) AllReadyH.nil
              go_simp
              refine (I1.out _).mono ?_
              rintro e w21 ⟨rfl, rfl⟩
              go_wp2_with fail
              refine hK.out _ _ ?_ (fun hHeld2 => ?_)
              · exact hHeld
              clear hK Kx hHeld
              have hHeld := hHeld2
              clear hHeld2
              try simp only [Act.put, List.setIfInBounds_toArray, List.set_cons_zero, List.set_cons_succ]
              refine wpAnyH_take (i := 3) (oi := { dst := some 19, op := Op.unOp UnOp.not 4 (Operand.tmp 18), type := 4, pos := "ref.go:50", after := #[{ on := 2, ground := Ground.data }], guard := none }) (v := ?_) rfl (by as_aux_lemma => kernel_rfl) (by as_aux_lemma => kernel_rfl) (by as_aux_lemma => kernel_rfl) (fun _ _ _ h => h) (Or.inl ⟨by rfl, ?_⟩) (by assumption) ?_
              rotate_left
              · intro w' hSw
                try dsimp only at hSw
                go_simp
                try with_reducible rfl
              try simp only [Act.put, List.setIfInBounds_toArray, List.set_cons_zero, List.set_cons_succ]
              refine wpAnyH_take (i := 4) (oi := { dst := some 20, op := Op.move (Operand.tmp 19), type := 4, pos := "ref.go:50", after := #[{ on := 3, ground := Ground.data }, { on := 2, ground := Ground.chain }], guard := none }) (v := ?_) rfl (by as_aux_lemma => kernel_rfl) (by as_aux_lemma => kernel_rfl) (by as_aux_lemma => kernel_rfl) (fun _ _ _ h => h) (Or.inl ⟨by rfl, ?_⟩) (by assumption) ?_
              rotate_left
              · intro w' hSw
                try dsimp only at hSw
                go_simp
                try with_reducible rfl
              try simp only [Act.put, List.setIfInBounds_toArray, List.set_cons_zero, List.set_cons_succ]
              refine wpAnyH_take (i := 5) (oi := { dst := some 21, op := Op.fieldAddr 87 (Operand.tmp 4) 1, type := 0, pos := "ref.go:50", after := #[{ on := 4, ground := Ground.guard }], guard := some (4, false) }) (v := ?_) rfl (by as_aux_lemma => kernel_rfl) (by as_aux_lemma => kernel_rfl) (by as_aux_lemma => kernel_rfl) (fun _ _ _ h => h) (Or.inl ⟨by rfl, ?_⟩) (by assumption) ?_
              rotate_left
              · intro w' hSw
                try dsimp only at hSw
                go_simp
                try with_reducible rfl
              try simp only [Act.put, List.setIfInBounds_toArray, List.set_cons_zero, List.set_cons_succ]
              refine wpAnyH_take (i := 6) (oi := { dst := some 22, op := Op.load 9 (Operand.tmp 21), type := 9, pos := "ref.go:50", after := #[{ on := 5, ground := Ground.data }, { on := 4, ground := Ground.guard }], guard := some (4, false) }) (v := ?_) rfl (by as_aux_lemma => kernel_rfl) (by as_aux_lemma => kernel_rfl) (by as_aux_lemma => kernel_rfl) (fun _ _ _ h => h) (Or.inl ⟨by rfl, ?_⟩) (by assumption) ?_
              rotate_left
              · intro w' hSw
                try dsimp only at hSw
                go_simp
                try with_reducible rfl
              try simp only [Act.put, List.setIfInBounds_toArray, List.set_cons_zero, List.set_cons_succ]
              refine wpAnyH_ready (rs := [7]) (by as_aux_lemma => kernel_rfl) (by simp) ?_
              refine AllReadyH.cons (o := { dst := some 23, op := Op.call { callee := Callee.value (Operand.func 88), args := #[Operand.tmp 22], argTypes := #[9] }, type := 4, pos := "ref.go:50", after := #[{ on := 6, ground := Ground.data }, { on := 4, ground := Ground.chain }, { on := 4, ground := Ground.guard }], guard := some (4, false) }) rfl (fun Kx hK => ?_) AllReadyH.nil
              go_simp
              refine (I2.out _).mono ?_
              rintro e w22 ⟨rfl, rfl⟩
              go_wp2_with fail
              refine hK.out _ _ ?_ (fun hHeld2 => ?_)
              · exact hHeld
              clear hK Kx hHeld
              have hHeld := hHeld2
              clear hHeld2
              try simp only [Act.put, List.setIfInBounds_toArray, List.set_cons_zero, List.set_cons_succ]
              refine wpAnyH_take (i := 8) (oi := { dst := some 24, op := Op.unOp UnOp.not 4 (Operand.tmp 23), type := 4, pos := "ref.go:50", after := #[{ on := 7, ground := Ground.data }, { on := 4, ground := Ground.guard }], guard := some (4, false) }) (v := ?_) rfl (by as_aux_lemma => kernel_rfl) (by as_aux_lemma => kernel_rfl) (by as_aux_lemma => kernel_rfl) (fun _ _ _ h => h) (Or.inl ⟨by rfl, ?_⟩) (by assumption) ?_
              rotate_left
              · intro w' hSw
                try dsimp only at hSw
                go_simp
                try with_reducible rfl
              try simp only [Act.put, List.setIfInBounds_toArray, List.set_cons_zero, List.set_cons_succ]
              refine wpAnyH_take (i := 9) (oi := { dst := some 25, op := Op.pick (Operand.tmp 20) (Operand.const (Value.bool true)) (Operand.tmp 24), type := 4, pos := "ref.go:50", after := #[{ on := 4, ground := Ground.data }, { on := 8, ground := Ground.data }], guard := none }) (v := ?_) rfl (by as_aux_lemma => kernel_rfl) (by as_aux_lemma => kernel_rfl) (by as_aux_lemma => kernel_rfl) (fun _ _ _ h => h) (Or.inl ⟨by rfl, ?_⟩) (by assumption) ?_
              rotate_left
              · intro w' hSw
                try dsimp only at hSw
                go_simp
                try with_reducible rfl
              try simp only [Act.put, List.setIfInBounds_toArray, List.set_cons_zero, List.set_cons_succ]
              refine wpAnyH_take (i := 10) (oi := { dst := some 26, op := Op.move (Operand.tmp 25), type := 4, pos := "ref.go:50", after := #[{ on := 9, ground := Ground.data }, { on := 7, ground := Ground.chain }], guard := none }) (v := ?_) rfl (by as_aux_lemma => kernel_rfl) (by as_aux_lemma => kernel_rfl) (by as_aux_lemma => kernel_rfl) (fun _ _ _ h => h) (Or.inl ⟨by rfl, ?_⟩) (by assumption) ?_
              rotate_left
              · intro w' hSw
                try dsimp only at hSw
                go_simp
                try with_reducible rfl
              try simp only [Act.put, List.setIfInBounds_toArray, List.set_cons_zero, List.set_cons_succ]
              refine wpAnyH_take (i := 11) (oi := { dst := some 27, op := Op.fieldAddr 87 (Operand.tmp 4) 0, type := 0, pos := "ref.go:50", after := #[{ on := 10, ground := Ground.guard }], guard := some (10, false) }) (v := ?_) rfl (by as_aux_lemma => kernel_rfl) (by as_aux_lemma => kernel_rfl) (by as_aux_lemma => kernel_rfl) (fun _ _ _ h => h) (Or.inl ⟨by rfl, ?_⟩) (by assumption) ?_
              rotate_left
              · intro w' hSw
                try dsimp only at hSw
                go_simp
                try with_reducible rfl
              try simp only [Act.put, List.setIfInBounds_toArray, List.set_cons_zero, List.set_cons_succ]
              refine wpAnyH_take (i := 12) (oi := { dst := some 28, op := Op.load 9 (Operand.tmp 27), type := 9, pos := "ref.go:50", after := #[{ on := 11, ground := Ground.data }, { on := 10, ground := Ground.guard }], guard := some (10, false) }) (v := ?_) rfl (by as_aux_lemma => kernel_rfl) (by as_aux_lemma => kernel_rfl) (by as_aux_lemma => kernel_rfl) (fun _ _ _ h => h) (Or.inl ⟨by rfl, ?_⟩) (by assumption) ?_
              rotate_left
              · intro w' hSw
                try dsimp only at hSw
                go_simp
                try with_reducible rfl
              try simp only [Act.put, List.setIfInBounds_toArray, List.set_cons_zero, List.set_cons_succ]
              refine wpAnyH_take (i := 13) (oi := { dst := some 29, op := Op.fieldAddr 87 (Operand.tmp 4) 1, type := 0, pos := "ref.go:50", after := #[{ on := 10, ground := Ground.guard }], guard := some (10, false) }) (v := ?_) rfl (by as_aux_lemma => kernel_rfl) (by as_aux_lemma => kernel_rfl) (by as_aux_lemma => kernel_rfl) (fun _ _ _ h => h) (Or.inl ⟨by rfl, ?_⟩) (by assumption) ?_
              rotate_left
              · intro w' hSw
                try dsimp only at hSw
                go_simp
                try with_reducible rfl
              try simp only [Act.put, List.setIfInBounds_toArray, List.set_cons_zero, List.set_cons_succ]
              refine wpAnyH_take (i := 14) (oi := { dst := some 30, op := Op.load 9 (Operand.tmp 29), type := 9, pos := "ref.go:50", after := #[{ on := 13, ground := Ground.data }, { on := 10, ground := Ground.guard }], guard := some (10, false) }) (v := ?_) rfl (by as_aux_lemma => kernel_rfl) (by as_aux_lemma => kernel_rfl) (by as_aux_lemma => kernel_rfl) (fun _ _ _ h => h) (Or.inl ⟨by rfl, ?_⟩) (by assumption) ?_
              rotate_left
              · intro w' hSw
                try dsimp only at hSw
                go_simp
                try with_reducible rfl
              try simp only [Act.put, List.setIfInBounds_toArray, List.set_cons_zero, List.set_cons_succ]
              refine wpAnyH_take (i := 15) (oi := { dst := some 31, op := Op.binOp BinOp.eql 9 (Operand.tmp 28) (Operand.tmp 30) 9, type := 4, pos := "ref.go:50", after := #[{ on := 12, ground := Ground.data }, { on := 14, ground := Ground.data }, { on := 10, ground := Ground.guard }], guard := some (10, false) }) (v := ?_) rfl (by as_aux_lemma => kernel_rfl) (by as_aux_lemma => kernel_rfl) (by as_aux_lemma => kernel_rfl) (fun _ _ _ h => h) (Or.inl ⟨by rfl, ?_⟩) (by assumption) ?_
              rotate_left
              · intro w' hSw
                try dsimp only at hSw
                go_simp
                try with_reducible rfl
              try simp only [Act.put, List.setIfInBounds_toArray, List.set_cons_zero, List.set_cons_succ]
              refine wpAnyH_take (i := 16) (oi := { dst := some 32, op := Op.pick (Operand.tmp 26) (Operand.const (Value.bool true)) (Operand.tmp 31), type := 4, pos := "ref.go:50", after := #[{ on := 10, ground := Ground.data }, { on := 15, ground := Ground.data }], guard := none }) (v := ?_) rfl (by as_aux_lemma => kernel_rfl) (by as_aux_lemma => kernel_rfl) (by as_aux_lemma => kernel_rfl) (fun _ _ _ h => h) (Or.inl ⟨by rfl, ?_⟩) (by assumption) ?_
              rotate_left
              · intro w' hSw
                try dsimp only at hSw
                go_simp
                try with_reducible rfl
              try simp only [Act.put, List.setIfInBounds_toArray, List.set_cons_zero, List.set_cons_succ]
              refine wpAnyH_take (i := 17) (oi := { dst := some 33, op := Op.move (Operand.tmp 32), type := 4, pos := "ref.go:50", after := #[{ on := 16, ground := Ground.data }, { on := 10, ground := Ground.chain }], guard := none }) (v := ?_) rfl (by as_aux_lemma => kernel_rfl) (by as_aux_lemma => kernel_rfl) (by as_aux_lemma => kernel_rfl) (fun _ _ _ h => h) (Or.inl ⟨by rfl, ?_⟩) (by assumption) ?_
              rotate_left
              · intro w' hSw
                try dsimp only at hSw
                go_simp
                try with_reducible rfl
              try simp only [Act.put, List.setIfInBounds_toArray, List.set_cons_zero, List.set_cons_succ]
              refine wpAnyH_take (i := 18) (oi := { dst := some 34, op := Op.move (Operand.tmp 3), type := 3, pos := "ref.go:50", after := #[{ on := 17, ground := Ground.guard }], guard := some (17, false) }) (v := ?_) rfl (by as_aux_lemma => kernel_rfl) (by as_aux_lemma => kernel_rfl) (by as_aux_lemma => kernel_rfl) (fun _ _ _ h => h) (Or.inl ⟨by rfl, ?_⟩) (by assumption) ?_
              rotate_left
              · intro w' hSw
                try dsimp only at hSw
                go_simp
                try with_reducible rfl
              try simp only [Act.put, List.setIfInBounds_toArray, List.set_cons_zero, List.set_cons_succ]
              refine wpAnyH_take (i := 19) (oi := { dst := some 35, op := Op.binOp BinOp.gtr 3 (Operand.tmp 34) (Operand.const (Value.int IntKind.i64 0)) 3, type := 4, pos := "ref.go:50", after := #[{ on := 18, ground := Ground.data }, { on := 17, ground := Ground.guard }], guard := some (17, false) }) (v := ?_) rfl (by as_aux_lemma => kernel_rfl) (by as_aux_lemma => kernel_rfl) (by as_aux_lemma => kernel_rfl) (fun _ _ _ h => h) (Or.inl ⟨by rfl, ?_⟩) (by assumption) ?_
              rotate_left
              · intro w' hSw
                try dsimp only at hSw
                go_simp
                try with_reducible rfl
              try simp only [Act.put, List.setIfInBounds_toArray, List.set_cons_zero, List.set_cons_succ]
              refine wpAnyH_take (i := 20) (oi := { dst := some 36, op := Op.move (Operand.tmp 35), type := 4, pos := "ref.go:50", after := #[{ on := 19, ground := Ground.data }, { on := 17, ground := Ground.chain }, { on := 17, ground := Ground.guard }], guard := some (17, false) }) (v := ?_) rfl (by as_aux_lemma => kernel_rfl) (by as_aux_lemma => kernel_rfl) (by as_aux_lemma => kernel_rfl) (fun _ _ _ h => h) (Or.inl ⟨by rfl, ?_⟩) (by assumption) ?_
              rotate_left
              · intro w' hSw
                try dsimp only at hSw
                go_simp
                try with_reducible rfl
              try simp only [Act.put, List.setIfInBounds_toArray, List.set_cons_zero, List.set_cons_succ]
              refine wpAnyH_take (i := 21) (oi := { dst := some 37, op := Op.move (Operand.tmp 0), type := 22, pos := "ref.go:50", after := #[{ on := 20, ground := Ground.guard }], guard := some (20, true) }) (v := undef) rfl (by as_aux_lemma => kernel_rfl) (by as_aux_lemma => kernel_rfl) (by as_aux_lemma => kernel_rfl) (fun _ _ _ h => h) (Or.inr ⟨by rfl, rfl⟩) (by assumption) ?_
              try simp only [Act.put, List.setIfInBounds_toArray, List.set_cons_zero, List.set_cons_succ]
              refine wpAnyH_take (i := 22) (oi := { dst := some 38, op := Op.move (Operand.tmp 3), type := 3, pos := "ref.go:50", after := #[{ on := 20, ground := Ground.guard }], guard := some (20, true) }) (v := undef) rfl (by as_aux_lemma => kernel_rfl) (by as_aux_lemma => kernel_rfl) (by as_aux_lemma => kernel_rfl) (fun _ _ _ h => h) (Or.inr ⟨by rfl, rfl⟩) (by assumption) ?_
              try simp only [Act.put, List.setIfInBounds_toArray, List.set_cons_zero, List.set_cons_succ]
              refine wpAnyH_take (i := 23) (oi := { dst := some 39, op := Op.binOp BinOp.sub 3 (Operand.tmp 38) (Operand.const (Value.int IntKind.i64 1)) 3, type := 3, pos := "ref.go:50", after := #[{ on := 22, ground := Ground.data }, { on := 20, ground := Ground.guard }], guard := some (20, true) }) (v := undef) rfl (by as_aux_lemma => kernel_rfl) (by as_aux_lemma => kernel_rfl) (by as_aux_lemma => kernel_rfl) (fun _ _ _ h => h) (Or.inr ⟨by rfl, rfl⟩) (by assumption) ?_
              try simp only [Act.put, List.setIfInBounds_toArray, List.set_cons_zero, List.set_cons_succ]
              refine wpAnyH_take (i := 24) (oi := { dst := some 40, op := Op.indexAddr 22 (Operand.tmp 37) (Operand.tmp 39), type := 0, pos := "ref.go:50", after := #[{ on := 21, ground := Ground.data }, { on := 23, ground := Ground.data }, { on := 20, ground := Ground.guard }], guard := some (20, true) }) (v := undef) rfl (by as_aux_lemma => kernel_rfl) (by as_aux_lemma => kernel_rfl) (by as_aux_lemma => kernel_rfl) (fun _ _ _ h => h) (Or.inr ⟨by rfl, rfl⟩) (by assumption) ?_
              try simp only [Act.put, List.setIfInBounds_toArray, List.set_cons_zero, List.set_cons_succ]
              refine wpAnyH_take (i := 25) (oi := { dst := some 41, op := Op.load 87 (Operand.tmp 40), type := 87, pos := "ref.go:50", after := #[{ on := 24, ground := Ground.data }, { on := 20, ground := Ground.guard }], guard := some (20, true) }) (v := undef) rfl (by as_aux_lemma => kernel_rfl) (by as_aux_lemma => kernel_rfl) (by as_aux_lemma => kernel_rfl) (fun _ _ _ h => h) (Or.inr ⟨by rfl, rfl⟩) (by assumption) ?_
              try simp only [Act.put, List.setIfInBounds_toArray, List.set_cons_zero, List.set_cons_succ]
              refine wpAnyH_take (i := 26) (oi := { dst := some 42, op := Op.load 87 (Operand.tmp 4), type := 87, pos := "ref.go:50", after := #[{ on := 20, ground := Ground.guard }], guard := some (20, true) }) (v := undef) rfl (by as_aux_lemma => kernel_rfl) (by as_aux_lemma => kernel_rfl) (by as_aux_lemma => kernel_rfl) (fun _ _ _ h => h) (Or.inr ⟨by rfl, rfl⟩) (by assumption) ?_
              try simp only [Act.put, List.setIfInBounds_toArray, List.set_cons_zero, List.set_cons_succ]
              refine wpAnyH_take (i := 27) (oi := { dst := some 43, op := Op.call { callee := Callee.value (Operand.func 100), args := #[Operand.tmp 41, Operand.tmp 42], argTypes := #[87, 87] }, type := 4, pos := "ref.go:50", after := #[{ on := 25, ground := Ground.data }, { on := 26, ground := Ground.data }, { on := 20, ground := Ground.chain }, { on := 20, ground := Ground.guard }], guard := some (20, true) }) (v := undef) rfl (by as_aux_lemma => kernel_rfl) (by as_aux_lemma => kernel_rfl) (by as_aux_lemma => kernel_rfl) (fun _ _ _ h => h) (Or.inr ⟨by rfl, rfl⟩) (by assumption) ?_
              try simp only [Act.put, List.setIfInBounds_toArray, List.set_cons_zero, List.set_cons_succ]
              refine wpAnyH_take (i := 28) (oi := { dst := some 44, op := Op.unOp UnOp.not 4 (Operand.tmp 43), type := 4, pos := "ref.go:50", after := #[{ on := 27, ground := Ground.data }, { on := 20, ground := Ground.guard }], guard := some (20, true) }) (v := undef) rfl (by as_aux_lemma => kernel_rfl) (by as_aux_lemma => kernel_rfl) (by as_aux_lemma => kernel_rfl) (fun _ _ _ h => h) (Or.inr ⟨by rfl, rfl⟩) (by assumption) ?_
              try simp only [Act.put, List.setIfInBounds_toArray, List.set_cons_zero, List.set_cons_succ]
              refine wpAnyH_take (i := 29) (oi := { dst := some 45, op := Op.pick (Operand.tmp 36) (Operand.tmp 44) (Operand.const (Value.bool false)), type := 4, pos := "ref.go:50", after := #[{ on := 20, ground := Ground.data }, { on := 28, ground := Ground.data }, { on := 17, ground := Ground.guard }], guard := some (17, false) }) (v := ?_) rfl (by as_aux_lemma => kernel_rfl) (by as_aux_lemma => kernel_rfl) (by as_aux_lemma => kernel_rfl) (fun _ _ _ h => h) (Or.inl ⟨by rfl, ?_⟩) (by assumption) ?_
              rotate_left
              · intro w' hSw
                try dsimp only at hSw
                go_simp
                try with_reducible rfl
              try simp only [Act.put, List.setIfInBounds_toArray, List.set_cons_zero, List.set_cons_succ]
              have BD := Lib.hid (below2S B1.out (Below.refl _ _).drew)
              have CD := Lib.hid (C1.out.later (Below.refl _ _).drew)
              refine wpAnyH_take (i := 30) (oi := { dst := some 46, op := Op.pick (Operand.tmp 33) (Operand.const (Value.bool true)) (Operand.tmp 45), type := 4, pos := "ref.go:50", after := #[{ on := 17, ground := Ground.data }, { on := 29, ground := Ground.data }], guard := none }) (v := ?_) rfl (by as_aux_lemma => kernel_rfl) (by as_aux_lemma => kernel_rfl) (by as_aux_lemma => kernel_rfl) (fun _ _ _ h => h) (Or.inl ⟨by rfl, ?_⟩) (by assumption) ?_
              rotate_left
              · intro w' hSw
                try dsimp only at hSw
                go_simp
                try with_reducible rfl
              try simp only [Act.put, List.setIfInBounds_toArray, List.set_cons_zero, List.set_cons_succ]
              refine wpAnyH_take (i := 31) (oi := { dst := some 47, op := Op.move (Operand.tmp 46), type := 4, pos := "ref.go:50", after := #[{ on := 30, ground := Ground.data }, { on := 27, ground := Ground.chain }], guard := none }) (v := ?_) rfl (by as_aux_lemma => kernel_rfl) (by as_aux_lemma => kernel_rfl) (by as_aux_lemma => kernel_rfl) (fun _ _ _ h => h) (Or.inl ⟨by rfl, ?_⟩) (by assumption) ?_
              rotate_left
              · intro w' hSw
                try dsimp only at hSw
                go_simp
                try with_reducible rfl
              try simp only [Act.put, List.setIfInBounds_toArray, List.set_cons_zero, List.set_cons_succ]
              refine wpAnyH_take (i := 32) (oi := { dst := some 48, op := Op.move (Operand.tmp 0), type := 22, pos := "ref.go:50", after := #[{ on := 31, ground := Ground.guard }], guard := some (31, false) }) (v := ?_) rfl (by as_aux_lemma => kernel_rfl) (by as_aux_lemma => kernel_rfl) (by as_aux_lemma => kernel_rfl) (fun _ _ _ h => h) (Or.inl ⟨by rfl, ?_⟩) (by assumption) ?_
              rotate_left
              · intro w' hSw
                try dsimp only at hSw
                go_simp
                try with_reducible rfl
              try simp only [Act.put, List.setIfInBounds_toArray, List.set_cons_zero, List.set_cons_succ]
              refine wpAnyH_take (i := 33) (oi := { dst := some 49, op := Op.fieldAddr 87 (Operand.tmp 4) 0, type := 0, pos := "ref.go:50", after := #[{ on := 31, ground := Ground.guard }], guard := some (31, false) }) (v := ?_) rfl (by as_aux_lemma => kernel_rfl) (by as_aux_lemma => kernel_rfl) (by as_aux_lemma => kernel_rfl) (fun _ _ _ h => h) (Or.inl ⟨by rfl, ?_⟩) (by assumption) ?_
              rotate_left
              · intro w' hSw
                try dsimp only at hSw
                go_simp
                try with_reducible rfl
              try simp only [Act.put, List.setIfInBounds_toArray, List.set_cons_zero, List.set_cons_succ]
              refine wpAnyH_take (i := 34) (oi := { dst := some 50, op := Op.load 9 (Operand.tmp 49), type := 9, pos := "ref.go:50", after := #[{ on := 33, ground := Ground.data }, { on := 31, ground := Ground.guard }], guard := some (31, false) }) (v := ?_) rfl (by as_aux_lemma => kernel_rfl) (by as_aux_lemma => kernel_rfl) (by as_aux_lemma => kernel_rfl) (fun _ _ _ h => h) (Or.inl ⟨by rfl, ?_⟩) (by assumption) ?_
              rotate_left
              · intro w' hSw
                try dsimp only at hSw
                go_simp
                try with_reducible rfl
              try simp only [Act.put, List.setIfInBounds_toArray, List.set_cons_zero, List.set_cons_succ]
              refine wpAnyH_ready (rs := [35]) (by as_aux_lemma => kernel_rfl) (by simp) ?_
              refine AllReadyH.cons (o := { dst := some 51, op := Op.call { callee := Callee.value (Operand.func 64), args := #[Operand.tmp 48, Operand.tmp 50], argTypes := #[22, 9] }, type := 38, pos := "ref.go:50", after := #[{ on := 32, ground := Ground.data }, { on := 34, ground := Ground.data }, { on := 31, ground := Ground.chain }, { on := 31, ground := Ground.guard }], guard := some (31, false) }) rfl (fun Kx hK => ?_) AllReadyH.nil
              go_simp
              refine (rof_any (HV.out.later BD.out) HL.out xo).mono ?_
              rintro e w24 ⟨u24, rfl, h24, b24⟩
              obtain ⟨a24, k24, rfl⟩ := ownT_slice h24
              have BE := Lib.hid (below2S BD.out b24)
              have CE := Lib.hid (CD.out.later b24)
              clear b24 h24
              go_wp2_with fail
              refine hK.out _ _ ?_ (fun hHeld2 => ?_)
              · exact s7 (CE.out)
              clear hK Kx hHeld
              have hHeld := hHeld2
              clear hHeld2
              try simp only [Act.put, List.setIfInBounds_toArray, List.set_cons_zero, List.set_cons_succ]
              refine wpAnyH_take (i := 36) (oi := { dst := some 52, op := Op.call { callee := Callee.builtin Builtin.len, args := #[Operand.tmp 51], argTypes := #[38] }, type := 3, pos := "ref.go:50", after := #[{ on := 35, ground := Ground.data }, { on := 31, ground := Ground.guard }], guard := some (31, false) }) (v := ?_) rfl (by as_aux_lemma => kernel_rfl) (by as_aux_lemma => kernel_rfl) (by as_aux_lemma => kernel_rfl) (fun _ _ _ h => h) (Or.inl ⟨by rfl, ?_⟩) (by assumption) ?_
              rotate_left
              · intro w' hSw
                try dsimp only at hSw
                go_simp
                try with_reducible rfl
              try simp only [Act.put, List.setIfInBounds_toArray, List.set_cons_zero, List.set_cons_succ]
              refine wpAnyH_take (i := 37) (oi := { dst := some 53, op := Op.binOp BinOp.gtr 3 (Operand.tmp 52) (Operand.const (Value.int IntKind.i64 16)) 3, type := 4, pos := "ref.go:50", after := #[{ on := 36, ground := Ground.data }, { on := 31, ground := Ground.guard }], guard := some (31, false) }) (v := ?_) rfl (by as_aux_lemma => kernel_rfl) (by as_aux_lemma => kernel_rfl) (by as_aux_lemma => kernel_rfl) (fun _ _ _ h => h) (Or.inl ⟨by rfl, ?_⟩) (by assumption) ?_
              rotate_left
              · intro w' hSw
                try dsimp only at hSw
                go_simp
                try with_reducible rfl
              try simp only [Act.put, List.setIfInBounds_toArray, List.set_cons_zero, List.set_cons_succ]
              refine wpAnyH_take (i := 38) (oi := { dst := some 54, op := Op.pick (Operand.tmp 47) (Operand.const (Value.bool true)) (Operand.tmp 53), type := 4, pos := "ref.go:50", after := #[{ on := 31, ground := Ground.data }, { on := 37, ground := Ground.data }], guard := none }) (v := ?_) rfl (by as_aux_lemma => kernel_rfl) (by as_aux_lemma => kernel_rfl) (by as_aux_lemma => kernel_rfl) (fun _ _ _ h => h) (Or.inl ⟨by rfl, ?_⟩) (by assumption) ?_
              rotate_left
              · intro w' hSw
                try dsimp only at hSw
                go_simp
                try with_reducible rfl
              try simp only [Act.put, List.setIfInBounds_toArray, List.set_cons_zero, List.set_cons_succ]
              refine wpAnyH_done (by kernel_rfl) ?_ _
              cases g with
              | true =>
                have HR : roMayD l = false := roMayD_off hlt (by rw [HAt.out]; simp)
                rw [h.out] at HR
                subst HR
                go_wp2_with fail
                go_ret
                exact ⟨rfl, BE.out⟩
              | false =>
                obtain ⟨c0, c1, c2, c3, c4, c5, c6⟩ := CE.out
                simp only [Nat.zero_add] at c0 c1 c2 c3 c4 c5 c6
                go_wp2_with fail
                refine (rget8_eq (HV.out.later BE.out) xc xo FG).mono ?_
                rintro e w7 ⟨rfl, b7⟩
                have b8 := below2S b7 (bl_newZ w7 (.cells #[.bool i1, .bool i2, .bool i3, .bool i4, .bool i5] 51))
                have D5 := Lib.hid (itAt_made w7 ⟨i1, i2, i3, i4, i5⟩ w7.heap.size rfl)
                replace BE := Lib.hid (below2S BE.out b8)
                replace CE := Lib.hid (CE.out.later b8)
                clear b7 b8 c0 c1 c2 c3 c4 c5 c6
                obtain ⟨c0, c1, c2, c3, c4, c5, c6⟩ := CE.out
                obtain ⟨d0, d1, d2, d3, d4⟩ := D5.out
                simp only [Nat.zero_add] at c0 c1 c2 c3 c4 c5 c6
                go_wp2_with fail
                have RH := rhas_any (HV.out.later BE.out) xc xo
                rw [FH.out] at RH
                refine RH.mono ?_
                rintro e w8 ⟨rfl, rfl⟩
                clear RH
                cases hh with
                | false =>
                  have HR : roMayD l = false := roMayD_off hlt (by rw [HAt.out]; simp)
                  rw [h.out] at HR
                  subst HR
                  go_wp2_with fail
                  go_ret
                  exact ⟨rfl, BE.out⟩
                | true =>
                  go_wp2_with fail
                  refine (MM.out _).mono ?_
                  rintro e w9 ⟨rfl, b9⟩
                  replace BE := Lib.hid (below2S BE.out b9)
                  replace CE := Lib.hid (CE.out.later b9)
                  replace D5 := Lib.hid (D5.out.later b9)
                  clear b9 c0 c1 c2 c3 c4 c5 c6 d0 d1 d2 d3 d4
                  obtain ⟨c0, c1, c2, c3, c4, c5, c6⟩ := CE.out
                  obtain ⟨d0, d1, d2, d3, d4⟩ := D5.out
                  simp only [Nat.zero_add] at c0 c1 c2 c3 c4 c5 c6
                  cases m with
                  | false =>
                    have HR : roMayD l = false := roMayD_off hlt (by rw [HAt.out]; simp)
                    rw [h.out] at HR
                    subst HR
                    go_wp2_with fail
                    go_ret
                    exact ⟨rfl, BE.out⟩
                  | true =>
                    go_wp2_with fail
                    refine (MZ.out _).mono ?_
                    rintro e w10 ⟨rfl, b10⟩
                    replace BE := Lib.hid (below2S BE.out b10)
                    replace D5 := Lib.hid (D5.out.later b10)
                    clear b10 c0 c1 c2 c3 c4 c5 c6 d0 d1 d2 d3 d4
                    obtain ⟨d0, d1, d2, d3, d4⟩ := D5.out
                    cases z with
                    | false =>
                      have HA2 := Lib.hid (roDoc_next HA.out (by rw [HAt.out]; simp))
                      clear d0 d1 d2 d3 d4
                      go_wp2_with fail
                      go_roundw
                      case rel => exact ⟨0 + 1, by omega, by go_num, BE, HA2⟩
                      case measure => simp [intOf]; omega
                    | true =>
                      go_wp2_with fail
                      refine (MY.out _).mono ?_
                      rintro e w11 ⟨rfl, b11⟩
                      replace BE := Lib.hid (below2S BE.out b11)
                      clear b11 d0 d1 d2 d3 d4
                      cases y with
                      | true =>
                        have HR : roMayD l = false := roMayD_off hlt (by rw [HAt.out]; simp)
                        rw [h.out] at HR
                        subst HR
                        go_wp2_with fail
                        go_ret
                        exact ⟨rfl, BE.out⟩
                      | false =>
                        have HA2 := Lib.hid (roDoc_next HA.out (by rw [HAt.out]; simp))
                        go_wp2_with fail
                        go_roundw
                        case rel => exact ⟨0 + 1, by omega, by go_num, BE, HA2⟩
                        case measure => simp [intOf]; omega
            · obtain ⟨j, rfl⟩ : ∃ j, k = j + 1 := ⟨k - 1, by omega⟩
              obtain ⟨b2, off2, e2, hP⟩ := HV.out.row HB.out j (by omega)
              injection e2 with e2
              injection e2 with e3 e4 _
              subst e3 e4
              obtain ⟨⟨po, pc, ⟨p1, p2, p3, p4, p5⟩⟩, hr2⟩ : ∃ r, l.getD j Ent.zero = r := ⟨_, rfl⟩
              rw [hr2] at hP
              have P1 := Lib.hid (hP.later (bl_newZ wr (.cells #[.string ⟨xo.toArray⟩, .string ⟨xc.toArray⟩, .bool x1, .bool x2, .bool x3, .bool x4, .bool x5] 87)))
              obtain ⟨p, hp⟩ : ∃ p, entLt ⟨po, pc, ⟨p1, p2, p3, p4, p5⟩⟩ ⟨xo, xc, ⟨x1, x2, x3, x4, x5⟩⟩ = p := ⟨_, rfl⟩
              have A8 := Lib.hid (rahead8_any po pc p1 p2 p3 p4 p5 xo xc x1 x2 x3 x4 x5 (Lib.hid hp))
              have hri : roRiseAt l (j + 1) = p := by
                unfold roRiseAt
                rw [hr, show j + 1 - 1 = j by omega, hr2, hp]
                simp [hq1, hq2, hoc]
              have em : ((j + 1 : Nat) : Int) - 1 = (j : Int) := by omega
              have t6 : (0 : Int) ≤ (j : Int) := by omega
              have t7 : (j : Int) < (l.length : Int) := by omega
              have t8 : decide ((0 : Int) < ((j + 1 : Nat) : Int)) = true := by rw [decide_eq_true_eq]; omega
              have t8' : decide ((0 : Int) < (j : Int) + 1) = true := by rw [decide_eq_true_eq]; omega
              have hw1 : IntKind.i64.wrap (j : Int) = (j : Int) := IntWalk.i64_in _ (by have := HL.out; omega)
              have hw2 : IntKind.i64.wrap ((j : Int) + 1 - 1) = (j : Int) := by rw [IntWalk.i64_in _ (by have := HL.out; omega)]; omega
              have em' : (j : Int) + 1 - 1 = (j : Int) := by omega
              cases p with
              | false =>
                have HR : roMayD l = false := roMayD_off hlt (by unfold roDocAt; rw [hri]; rfl)
                rw [h.out] at HR
                subst HR
                clear hr hr2 hq1 hq2 hg hhas hget hmm hz hy hp hri hP
                go_wp2_with fail
                obtain ⟨p0', p1', p2', p3', p4', p5', p6'⟩ := cells7_regrown P1.out
                try simp only at p0' p1' p2' p3' p4' p5' p6'
                obtain ⟨c0, c1, c2, c3, c4, c5, c6⟩ := cells7_regrown C1.out
                simp only [Nat.zero_add] at c0 c1 c2 c3 c4 c5 c6
                refine wp_region_quiet_below (by kernel_rfl) (by kernel_rfl) ?_
                repeat (go_big_quiet_step (first | with_reducible exact rgS I1.out _ _ _ | with_reducible exact rgS I2.out _ _ _ | with_reducible exact rgB A8.out _ _ _))
                refine wpQuiet_nil ?_
                intro w5 hw5
                have B5 := Lib.hid (below2S B1.out (regrown_belowP hw5))
                clear hw5
                go_wp2_with fail
                go_ret
                exact ⟨rfl, B5.out⟩
              | true =>
                have HAt := Lib.hid (roDocAt_eq hr hri hg hhas hget hmm hz hy)
                clear hr hr2 hq1 hq2 hoc hg hhas hget hmm hz hy hp hri hP
                go_wp2_with fail
                clear h0 h1 h2 h3 h4 h5 h6
                have CE := C1
                refine wp_region_held_drew (S := (fun W => ((W).cell? ⟨wr.heap.size, 0, none⟩ = some (.string ⟨xo.toArray⟩) ∧ (W).cell? ⟨wr.heap.size, 1, none⟩ = some (.string ⟨xc.toArray⟩) ∧ (W).cell? ⟨wr.heap.size, 2, none⟩ = some (.bool x1) ∧ (W).cell? ⟨wr.heap.size, 3, none⟩ = some (.bool x2) ∧ (W).cell? ⟨wr.heap.size, 4, none⟩ = some (.bool x3) ∧ (W).cell? ⟨wr.heap.size, 5, none⟩ = some (.bool x4) ∧ (W).cell? ⟨wr.heap.size, 6, none⟩ = some (.bool x5) ∧ (W).cell? ⟨bk, off + j * 7, none⟩ = some (.string ⟨po.toArray⟩) ∧ (W).cell? ⟨bk, off + j * 7 + 1, none⟩ = some (.string ⟨pc.toArray⟩) ∧ (W).cell? ⟨bk, off + j * 7 + 2, none⟩ = some (.bool p1) ∧ (W).cell? ⟨bk, off + j * 7 + 3, none⟩ = some (.bool p2) ∧ (W).cell? ⟨bk, off + j * 7 + 4, none⟩ = some (.bool p3) ∧ (W).cell? ⟨bk, off + j * 7 + 5, none⟩ = some (.bool p4) ∧ (W).cell? ⟨bk, off + j * 7 + 6, none⟩ = some (.bool p5)))) (by kernel_rfl) ?_ (fun hHeld => ?_)
                · exact s14 (C1.out.later (Below.refl _ _).drew) (P1.out.later (Below.refl _ _).drew)
                refine wpAnyH_take (i := 0) (oi := { dst := some 16, op := Op.fieldAddr 87 (Operand.tmp 4) 0, type := 0, pos := "ref.go:50", after := #[], guard := none }) (v := ?_) rfl (by as_aux_lemma => kernel_rfl) (by as_aux_lemma => kernel_rfl) (by as_aux_lemma => kernel_rfl) (fun _ _ _ h => h) (Or.inl ⟨by rfl, ?_⟩) (by assumption) ?_
                rotate_left
                · intro w' hSw
                  try dsimp only at hSw
                  go_simp
                  try with_reducible rfl
                try simp only [Act.put, List.setIfInBounds_toArray, List.set_cons_zero, List.set_cons_succ]
                refine wpAnyH_take (i := 1) (oi := { dst := some 17, op := Op.load 9 (Operand.tmp 16), type := 9, pos := "ref.go:50", after := #[{ on := 0, ground := Ground.data }], guard := none }) (v := ?_) rfl (by as_aux_lemma => kernel_rfl) (by as_aux_lemma => kernel_rfl) (by as_aux_lemma => kernel_rfl) (fun _ _ _ h => h) (Or.inl ⟨by rfl, ?_⟩) (by assumption) ?_
                rotate_left
                · intro w' hSw
                  try dsimp only at hSw
                  go_simp
                  try with_reducible rfl
                try simp only [Act.put, List.setIfInBounds_toArray, List.set_cons_zero, List.set_cons_succ]
                refine wpAnyH_ready (rs := [2]) (by as_aux_lemma => kernel_rfl) (by simp) ?_
                refine AllReadyH.cons (o := { dst := some 18, op := Op.call { callee := Callee.value (Operand.func 88), args := #[Operand.tmp 17], argTypes := #[9] }, type := 4, pos := "ref.go:50", after := #[{ on := 1, ground := Ground.data }], guard := none }) rfl (fun Kx hK => ?_) AllReadyH.nil
                go_simp
                refine (I1.out _).mono ?_
                rintro e w21 ⟨rfl, rfl⟩
                go_wp2_with fail
                refine hK.out _ _ ?_ (fun hHeld2 => ?_)
                · exact hHeld
                clear hK Kx hHeld
                have hHeld := hHeld2
                clear hHeld2
                try simp only [Act.put, List.setIfInBounds_toArray, List.set_cons_zero, List.set_cons_succ]
                refine wpAnyH_take (i := 3) (oi := { dst := some 19, op := Op.unOp UnOp.not 4 (Operand.tmp 18), type := 4, pos := "ref.go:50", after := #[{ on := 2, ground := Ground.data }], guard := none }) (v := ?_) rfl (by as_aux_lemma => kernel_rfl) (by as_aux_lemma => kernel_rfl) (by as_aux_lemma => kernel_rfl) (fun _ _ _ h => h) (Or.inl ⟨by rfl, ?_⟩) (by assumption) ?_
                rotate_left
                · intro w' hSw
                  try dsimp only at hSw
                  go_simp
                  try with_reducible rfl
                try simp only [Act.put, List.setIfInBounds_toArray, List.set_cons_zero, List.set_cons_succ]
                refine wpAnyH_take (i := 4) (oi := { dst := some 20, op := Op.move (Operand.tmp 19), type := 4, pos := "ref.go:50", after := #[{ on := 3, ground := Ground.data }, { on := 2, ground := Ground.chain }], guard := none }) (v := ?_) rfl (by as_aux_lemma => kernel_rfl) (by as_aux_lemma => kernel_rfl) (by as_aux_lemma => kernel_rfl) (fun _ _ _ h => h) (Or.inl ⟨by rfl, ?_⟩) (by assumption) ?_
                rotate_left
                · intro w' hSw
                  try dsimp only at hSw
                  go_simp
                  try with_reducible rfl
                try simp only [Act.put, List.setIfInBounds_toArray, List.set_cons_zero, List.set_cons_succ]
                refine wpAnyH_take (i := 5) (oi := { dst := some 21, op := Op.fieldAddr 87 (Operand.tmp 4) 1, type := 0, pos := "ref.go:50", after := #[{ on := 4, ground := Ground.guard }], guard := some (4, false) }) (v := ?_) rfl (by as_aux_lemma => kernel_rfl) (by as_aux_lemma => kernel_rfl) (by as_aux_lemma => kernel_rfl) (fun _ _ _ h => h) (Or.inl ⟨by rfl, ?_⟩) (by assumption) ?_
                rotate_left
                · intro w' hSw
                  try dsimp only at hSw
                  go_simp
                  try with_reducible rfl
                try simp only [Act.put, List.setIfInBounds_toArray, List.set_cons_zero, List.set_cons_succ]
                refine wpAnyH_take (i := 6) (oi := { dst := some 22, op := Op.load 9 (Operand.tmp 21), type := 9, pos := "ref.go:50", after := #[{ on := 5, ground := Ground.data }, { on := 4, ground := Ground.guard }], guard := some (4, false) }) (v := ?_) rfl (by as_aux_lemma => kernel_rfl) (by as_aux_lemma => kernel_rfl) (by as_aux_lemma => kernel_rfl) (fun _ _ _ h => h) (Or.inl ⟨by rfl, ?_⟩) (by assumption) ?_
                rotate_left
                · intro w' hSw
                  try dsimp only at hSw
                  go_simp
                  try with_reducible rfl
                try simp only [Act.put, List.setIfInBounds_toArray, List.set_cons_zero, List.set_cons_succ]
                refine wpAnyH_ready (rs := [7]) (by as_aux_lemma => kernel_rfl) (by simp) ?_
                refine AllReadyH.cons (o := { dst := some 23, op := Op.call { callee := Callee.value (Operand.func 88), args := #[Operand.tmp 22], argTypes := #[9] }, type := 4, pos := "ref.go:50", after := #[{ on := 6, ground := Ground.data }, { on := 4, ground := Ground.chain }, { on := 4, ground := Ground.guard }], guard := some (4, false) }) rfl (fun Kx hK => ?_) AllReadyH.nil
                go_simp
                refine (I2.out _).mono ?_
                rintro e w22 ⟨rfl, rfl⟩
                go_wp2_with fail
                refine hK.out _ _ ?_ (fun hHeld2 => ?_)
                · exact hHeld
                clear hK Kx hHeld
                have hHeld := hHeld2
                clear hHeld2
                try simp only [Act.put, List.setIfInBounds_toArray, List.set_cons_zero, List.set_cons_succ]
                refine wpAnyH_take (i := 8) (oi := { dst := some 24, op := Op.unOp UnOp.not 4 (Operand.tmp 23), type := 4, pos := "ref.go:50", after := #[{ on := 7, ground := Ground.data }, { on := 4, ground := Ground.guard }], guard := some (4, false) }) (v := ?_) rfl (by as_aux_lemma => kernel_rfl) (by as_aux_lemma => kernel_rfl) (by as_aux_lemma => kernel_rfl) (fun _ _ _ h => h) (Or.inl ⟨by rfl, ?_⟩) (by assumption) ?_
                rotate_left
                · intro w' hSw
                  try dsimp only at hSw
                  go_simp
                  try with_reducible rfl
                try simp only [Act.put, List.setIfInBounds_toArray, List.set_cons_zero, List.set_cons_succ]
                refine wpAnyH_take (i := 9) (oi := { dst := some 25, op := Op.pick (Operand.tmp 20) (Operand.const (Value.bool true)) (Operand.tmp 24), type := 4, pos := "ref.go:50", after := #[{ on := 4, ground := Ground.data }, { on := 8, ground := Ground.data }], guard := none }) (v := ?_) rfl (by as_aux_lemma => kernel_rfl) (by as_aux_lemma => kernel_rfl) (by as_aux_lemma => kernel_rfl) (fun _ _ _ h => h) (Or.inl ⟨by rfl, ?_⟩) (by assumption) ?_
                rotate_left
                · intro w' hSw
                  try dsimp only at hSw
                  go_simp
                  try with_reducible rfl
                try simp only [Act.put, List.setIfInBounds_toArray, List.set_cons_zero, List.set_cons_succ]
                refine wpAnyH_take (i := 10) (oi := { dst := some 26, op := Op.move (Operand.tmp 25), type := 4, pos := "ref.go:50", after := #[{ on := 9, ground := Ground.data }, { on := 7, ground := Ground.chain }], guard := none }) (v := ?_) rfl (by as_aux_lemma => kernel_rfl) (by as_aux_lemma => kernel_rfl) (by as_aux_lemma => kernel_rfl) (fun _ _ _ h => h) (Or.inl ⟨by rfl, ?_⟩) (by assumption) ?_
                rotate_left
                · intro w' hSw
                  try dsimp only at hSw
                  go_simp
                  try with_reducible rfl
                try simp only [Act.put, List.setIfInBounds_toArray, List.set_cons_zero, List.set_cons_succ]
                refine wpAnyH_take (i := 11) (oi := { dst := some 27, op := Op.fieldAddr 87 (Operand.tmp 4) 0, type := 0, pos := "ref.go:50", after := #[{ on := 10, ground := Ground.guard }], guard := some (10, false) }) (v := ?_) rfl (by as_aux_lemma => kernel_rfl) (by as_aux_lemma => kernel_rfl) (by as_aux_lemma => kernel_rfl) (fun _ _ _ h => h) (Or.inl ⟨by rfl, ?_⟩) (by assumption) ?_
                rotate_left
                · intro w' hSw
                  try dsimp only at hSw
                  go_simp
                  try with_reducible rfl
                try simp only [Act.put, List.setIfInBounds_toArray, List.set_cons_zero, List.set_cons_succ]
                refine wpAnyH_take (i := 12) (oi := { dst := some 28, op := Op.load 9 (Operand.tmp 27), type := 9, pos := "ref.go:50", after := #[{ on := 11, ground := Ground.data }, { on := 10, ground := Ground.guard }], guard := some (10, false) }) (v := ?_) rfl (by as_aux_lemma => kernel_rfl) (by as_aux_lemma => kernel_rfl) (by as_aux_lemma => kernel_rfl) (fun _ _ _ h => h) (Or.inl ⟨by rfl, ?_⟩) (by assumption) ?_
                rotate_left
                · intro w' hSw
                  try dsimp only at hSw
                  go_simp
                  try with_reducible rfl
                try simp only [Act.put, List.setIfInBounds_toArray, List.set_cons_zero, List.set_cons_succ]
                refine wpAnyH_take (i := 13) (oi := { dst := some 29, op := Op.fieldAddr 87 (Operand.tmp 4) 1, type := 0, pos := "ref.go:50", after := #[{ on := 10, ground := Ground.guard }], guard := some (10, false) }) (v := ?_) rfl (by as_aux_lemma => kernel_rfl) (by as_aux_lemma => kernel_rfl) (by as_aux_lemma => kernel_rfl) (fun _ _ _ h => h) (Or.inl ⟨by rfl, ?_⟩) (by assumption) ?_
                rotate_left
                · intro w' hSw
                  try dsimp only at hSw
                  go_simp
                  try with_reducible rfl
                try simp only [Act.put, List.setIfInBounds_toArray, List.set_cons_zero, List.set_cons_succ]
                refine wpAnyH_take (i := 14) (oi := { dst := some 30, op := Op.load 9 (Operand.tmp 29), type := 9, pos := "ref.go:50", after := #[{ on := 13, ground := Ground.data }, { on := 10, ground := Ground.guard }], guard := some (10, false) }) (v := ?_) rfl (by as_aux_lemma => kernel_rfl) (by as_aux_lemma => kernel_rfl) (by as_aux_lemma => kernel_rfl) (fun _ _ _ h => h) (Or.inl ⟨by rfl, ?_⟩) (by assumption) ?_
                rotate_left
                · intro w' hSw
                  try dsimp only at hSw
                  go_simp
                  try with_reducible rfl
                try simp only [Act.put, List.setIfInBounds_toArray, List.set_cons_zero, List.set_cons_succ]
                refine wpAnyH_take (i := 15) (oi := { dst := some 31, op := Op.binOp BinOp.eql 9 (Operand.tmp 28) (Operand.tmp 30) 9, type := 4, pos := "ref.go:50", after := #[{ on := 12, ground := Ground.data }, { on := 14, ground := Ground.data }, { on := 10, ground := Ground.guard }], guard := some (10, false) }) (v := ?_) rfl (by as_aux_lemma => kernel_rfl) (by as_aux_lemma => kernel_rfl) (by as_aux_lemma => kernel_rfl) (fun _ _ _ h => h) (Or.inl ⟨by rfl, ?_⟩) (by assumption) ?_
                rotate_left
                · intro w' hSw
                  try dsimp only at hSw
                  go_simp
                  try with_reducible rfl
                try simp only [Act.put, List.setIfInBounds_toArray, List.set_cons_zero, List.set_cons_succ]
                refine wpAnyH_take (i := 16) (oi := { dst := some 32, op := Op.pick (Operand.tmp 26) (Operand.const (Value.bool true)) (Operand.tmp 31), type := 4, pos := "ref.go:50", after := #[{ on := 10, ground := Ground.data }, { on := 15, ground := Ground.data }], guard := none }) (v := ?_) rfl (by as_aux_lemma => kernel_rfl) (by as_aux_lemma => kernel_rfl) (by as_aux_lemma => kernel_rfl) (fun _ _ _ h => h) (Or.inl ⟨by rfl, ?_⟩) (by assumption) ?_
                rotate_left
                · intro w' hSw
                  try dsimp only at hSw
                  go_simp
                  try with_reducible rfl
                try simp only [Act.put, List.setIfInBounds_toArray, List.set_cons_zero, List.set_cons_succ]
                refine wpAnyH_take (i := 17) (oi := { dst := some 33, op := Op.move (Operand.tmp 32), type := 4, pos := "ref.go:50", after := #[{ on := 16, ground := Ground.data }, { on := 10, ground := Ground.chain }], guard := none }) (v := ?_) rfl (by as_aux_lemma => kernel_rfl) (by as_aux_lemma => kernel_rfl) (by as_aux_lemma => kernel_rfl) (fun _ _ _ h => h) (Or.inl ⟨by rfl, ?_⟩) (by assumption) ?_
                rotate_left
                · intro w' hSw
                  try dsimp only at hSw
                  go_simp
                  try with_reducible rfl
                try simp only [Act.put, List.setIfInBounds_toArray, List.set_cons_zero, List.set_cons_succ]
                refine wpAnyH_take (i := 18) (oi := { dst := some 34, op := Op.move (Operand.tmp 3), type := 3, pos := "ref.go:50", after := #[{ on := 17, ground := Ground.guard }], guard := some (17, false) }) (v := ?_) rfl (by as_aux_lemma => kernel_rfl) (by as_aux_lemma => kernel_rfl) (by as_aux_lemma => kernel_rfl) (fun _ _ _ h => h) (Or.inl ⟨by rfl, ?_⟩) (by assumption) ?_
                rotate_left
                · intro w' hSw
                  try dsimp only at hSw
                  go_simp
                  try with_reducible rfl
                try simp only [Act.put, List.setIfInBounds_toArray, List.set_cons_zero, List.set_cons_succ]
                refine wpAnyH_take (i := 19) (oi := { dst := some 35, op := Op.binOp BinOp.gtr 3 (Operand.tmp 34) (Operand.const (Value.int IntKind.i64 0)) 3, type := 4, pos := "ref.go:50", after := #[{ on := 18, ground := Ground.data }, { on := 17, ground := Ground.guard }], guard := some (17, false) }) (v := ?_) rfl (by as_aux_lemma => kernel_rfl) (by as_aux_lemma => kernel_rfl) (by as_aux_lemma => kernel_rfl) (fun _ _ _ h => h) (Or.inl ⟨by rfl, ?_⟩) (by assumption) ?_
                rotate_left
                · intro w' hSw
                  try dsimp only at hSw
                  go_simp
                  try with_reducible rfl
                try simp only [Act.put, List.setIfInBounds_toArray, List.set_cons_zero, List.set_cons_succ]
                refine wpAnyH_take (i := 20) (oi := { dst := some 36, op := Op.move (Operand.tmp 35), type := 4, pos := "ref.go:50", after := #[{ on := 19, ground := Ground.data }, { on := 17, ground := Ground.chain }, { on := 17, ground := Ground.guard }], guard := some (17, false) }) (v := ?_) rfl (by as_aux_lemma => kernel_rfl) (by as_aux_lemma => kernel_rfl) (by as_aux_lemma => kernel_rfl) (fun _ _ _ h => h) (Or.inl ⟨by rfl, ?_⟩) (by assumption) ?_
                rotate_left
                · intro w' hSw
                  try dsimp only at hSw
                  go_simp
                  try with_reducible rfl
                try simp only [Act.put, List.setIfInBounds_toArray, List.set_cons_zero, List.set_cons_succ]
                refine wpAnyH_take (i := 21) (oi := { dst := some 37, op := Op.move (Operand.tmp 0), type := 22, pos := "ref.go:50", after := #[{ on := 20, ground := Ground.guard }], guard := some (20, true) }) (v := ?_) rfl (by as_aux_lemma => kernel_rfl) (by as_aux_lemma => kernel_rfl) (by as_aux_lemma => kernel_rfl) (fun _ _ _ h => h) (Or.inl ⟨by rfl, ?_⟩) (by assumption) ?_
                rotate_left
                · intro w' hSw
                  try dsimp only at hSw
                  go_simp
                  try with_reducible rfl
                try simp only [Act.put, List.setIfInBounds_toArray, List.set_cons_zero, List.set_cons_succ]
                refine wpAnyH_take (i := 22) (oi := { dst := some 38, op := Op.move (Operand.tmp 3), type := 3, pos := "ref.go:50", after := #[{ on := 20, ground := Ground.guard }], guard := some (20, true) }) (v := ?_) rfl (by as_aux_lemma => kernel_rfl) (by as_aux_lemma => kernel_rfl) (by as_aux_lemma => kernel_rfl) (fun _ _ _ h => h) (Or.inl ⟨by rfl, ?_⟩) (by assumption) ?_
                rotate_left
                · intro w' hSw
                  try dsimp only at hSw
                  go_simp
                  try with_reducible rfl
                try simp only [Act.put, List.setIfInBounds_toArray, List.set_cons_zero, List.set_cons_succ]
                refine wpAnyH_take (i := 23) (oi := { dst := some 39, op := Op.binOp BinOp.sub 3 (Operand.tmp 38) (Operand.const (Value.int IntKind.i64 1)) 3, type := 3, pos := "ref.go:50", after := #[{ on := 22, ground := Ground.data }, { on := 20, ground := Ground.guard }], guard := some (20, true) }) (v := ?_) rfl (by as_aux_lemma => kernel_rfl) (by as_aux_lemma => kernel_rfl) (by as_aux_lemma => kernel_rfl) (fun _ _ _ h => h) (Or.inl ⟨by rfl, ?_⟩) (by assumption) ?_
                rotate_left
                · intro w' hSw
                  try dsimp only at hSw
                  go_simp
                  try with_reducible rfl
                try simp only [Act.put, List.setIfInBounds_toArray, List.set_cons_zero, List.set_cons_succ]
                refine wpAnyH_take (i := 24) (oi := { dst := some 40, op := Op.indexAddr 22 (Operand.tmp 37) (Operand.tmp 39), type := 0, pos := "ref.go:50", after := #[{ on := 21, ground := Ground.data }, { on := 23, ground := Ground.data }, { on := 20, ground := Ground.guard }], guard := some (20, true) }) (v := ?_) rfl (by as_aux_lemma => kernel_rfl) (by as_aux_lemma => kernel_rfl) (by as_aux_lemma => kernel_rfl) (fun _ _ _ h => h) (Or.inl ⟨by rfl, ?_⟩) (by assumption) ?_
                rotate_left
                · intro w' hSw
                  try dsimp only at hSw
                  go_simp
                  try with_reducible rfl
                try simp only [Act.put, List.setIfInBounds_toArray, List.set_cons_zero, List.set_cons_succ]
                refine wpAnyH_take (i := 25) (oi := { dst := some 41, op := Op.load 87 (Operand.tmp 40), type := 87, pos := "ref.go:50", after := #[{ on := 24, ground := Ground.data }, { on := 20, ground := Ground.guard }], guard := some (20, true) }) (v := ?_) rfl (by as_aux_lemma => kernel_rfl) (by as_aux_lemma => kernel_rfl) (by as_aux_lemma => kernel_rfl) (fun _ _ _ h => h) (Or.inl ⟨by rfl, ?_⟩) (by assumption) ?_
                rotate_left
                · intro w' hSw
                  try dsimp only at hSw
                  go_simp
                  try with_reducible rfl
                try simp only [Act.put, List.setIfInBounds_toArray, List.set_cons_zero, List.set_cons_succ]
                refine wpAnyH_take (i := 26) (oi := { dst := some 42, op := Op.load 87 (Operand.tmp 4), type := 87, pos := "ref.go:50", after := #[{ on := 20, ground := Ground.guard }], guard := some (20, true) }) (v := ?_) rfl (by as_aux_lemma => kernel_rfl) (by as_aux_lemma => kernel_rfl) (by as_aux_lemma => kernel_rfl) (fun _ _ _ h => h) (Or.inl ⟨by rfl, ?_⟩) (by assumption) ?_
                rotate_left
                · intro w' hSw
                  try dsimp only at hSw
                  go_simp
                  try with_reducible rfl
                try simp only [Act.put, List.setIfInBounds_toArray, List.set_cons_zero, List.set_cons_succ]
                refine wpAnyH_ready (rs := [27]) (by as_aux_lemma => kernel_rfl) (by simp) ?_
                refine AllReadyH.cons (o := { dst := some 43, op := Op.call { callee := Callee.value (Operand.func 100), args := #[Operand.tmp 41, Operand.tmp 42], argTypes := #[87, 87] }, type := 4, pos := "ref.go:50", after := #[{ on := 25, ground := Ground.data }, { on := 26, ground := Ground.data }, { on := 20, ground := Ground.chain }, { on := 20, ground := Ground.guard }], guard := some (20, true) }) rfl (fun Kx hK => ?_) AllReadyH.nil
                go_simp
                refine (A8.out _).mono ?_
                rintro e w23 ⟨rfl, b23⟩
                have bd := below2S (Below.refl _ _).drew b23
                have BD := Lib.hid (below2S B1.out bd)
                have CD := Lib.hid (C1.out.later bd)
                have PD := Lib.hid (P1.out.later bd)
                clear bd b23
                go_wp2_with fail
                refine hK.out _ _ ?_ (fun hHeld2 => ?_)
                · exact s14 (CD.out) (PD.out)
                clear hK Kx hHeld
                have hHeld := hHeld2
                clear hHeld2
                try simp only [Act.put, List.setIfInBounds_toArray, List.set_cons_zero, List.set_cons_succ]
                refine wpAnyH_take (i := 28) (oi := { dst := some 44, op := Op.unOp UnOp.not 4 (Operand.tmp 43), type := 4, pos := "ref.go:50", after := #[{ on := 27, ground := Ground.data }, { on := 20, ground := Ground.guard }], guard := some (20, true) }) (v := ?_) rfl (by as_aux_lemma => kernel_rfl) (by as_aux_lemma => kernel_rfl) (by as_aux_lemma => kernel_rfl) (fun _ _ _ h => h) (Or.inl ⟨by rfl, ?_⟩) (by assumption) ?_
                rotate_left
                · intro w' hSw
                  try dsimp only at hSw
                  go_simp
                  try with_reducible rfl
                try simp only [Act.put, List.setIfInBounds_toArray, List.set_cons_zero, List.set_cons_succ]
                refine wpAnyH_take (i := 29) (oi := { dst := some 45, op := Op.pick (Operand.tmp 36) (Operand.tmp 44) (Operand.const (Value.bool false)), type := 4, pos := "ref.go:50", after := #[{ on := 20, ground := Ground.data }, { on := 28, ground := Ground.data }, { on := 17, ground := Ground.guard }], guard := some (17, false) }) (v := ?_) rfl (by as_aux_lemma => kernel_rfl) (by as_aux_lemma => kernel_rfl) (by as_aux_lemma => kernel_rfl) (fun _ _ _ h => h) (Or.inl ⟨by rfl, ?_⟩) (by assumption) ?_
                rotate_left
                · intro w' hSw
                  try dsimp only at hSw
                  go_simp
                  try with_reducible rfl
                try simp only [Act.put, List.setIfInBounds_toArray, List.set_cons_zero, List.set_cons_succ]
                refine wpAnyH_take (i := 30) (oi := { dst := some 46, op := Op.pick (Operand.tmp 33) (Operand.const (Value.bool true)) (Operand.tmp 45), type := 4, pos := "ref.go:50", after := #[{ on := 17, ground := Ground.data }, { on := 29, ground := Ground.data }], guard := none }) (v := ?_) rfl (by as_aux_lemma => kernel_rfl) (by as_aux_lemma => kernel_rfl) (by as_aux_lemma => kernel_rfl) (fun _ _ _ h => h) (Or.inl ⟨by rfl, ?_⟩) (by assumption) ?_
                rotate_left
                · intro w' hSw
                  try dsimp only at hSw
                  go_simp
                  try with_reducible rfl
                try simp only [Act.put, List.setIfInBounds_toArray, List.set_cons_zero, List.set_cons_succ]
                refine wpAnyH_take (i := 31) (oi := { dst := some 47, op := Op.move (Operand.tmp 46), type := 4, pos := "ref.go:50", after := #[{ on := 30, ground := Ground.data }, { on := 27, ground := Ground.chain }], guard := none }) (v := ?_) rfl (by as_aux_lemma => kernel_rfl) (by as_aux_lemma => kernel_rfl) (by as_aux_lemma => kernel_rfl) (fun _ _ _ h => h) (Or.inl ⟨by rfl, ?_⟩) (by assumption) ?_
                rotate_left
                · intro w' hSw
                  try dsimp only at hSw
                  go_simp
                  try with_reducible rfl
                try simp only [Act.put, List.setIfInBounds_toArray, List.set_cons_zero, List.set_cons_succ]
                refine wpAnyH_take (i := 32) (oi := { dst := some 48, op := Op.move (Operand.tmp 0), type := 22, pos := "ref.go:50", after := #[{ on := 31, ground := Ground.guard }], guard := some (31, false) }) (v := ?_) rfl (by as_aux_lemma => kernel_rfl) (by as_aux_lemma => kernel_rfl) (by as_aux_lemma => kernel_rfl) (fun _ _ _ h => h) (Or.inl ⟨by rfl, ?_⟩) (by assumption) ?_
                rotate_left
                · intro w' hSw
                  try dsimp only at hSw
                  go_simp
                  try with_reducible rfl
                try simp only [Act.put, List.setIfInBounds_toArray, List.set_cons_zero, List.set_cons_succ]
                refine wpAnyH_take (i := 33) (oi := { dst := some 49, op := Op.fieldAddr 87 (Operand.tmp 4) 0, type := 0, pos := "ref.go:50", after := #[{ on := 31, ground := Ground.guard }], guard := some (31, false) }) (v := ?_) rfl (by as_aux_lemma => kernel_rfl) (by as_aux_lemma => kernel_rfl) (by as_aux_lemma => kernel_rfl) (fun _ _ _ h => h) (Or.inl ⟨by rfl, ?_⟩) (by assumption) ?_
                rotate_left
                · intro w' hSw
                  try dsimp only at hSw
                  go_simp
                  try with_reducible rfl
                try simp only [Act.put, List.setIfInBounds_toArray, List.set_cons_zero, List.set_cons_succ]
                refine wpAnyH_take (i := 34) (oi := { dst := some 50, op := Op.load 9 (Operand.tmp 49), type := 9, pos := "ref.go:50", after := #[{ on := 33, ground := Ground.data }, { on := 31, ground := Ground.guard }], guard := some (31, false) }) (v := ?_) rfl (by as_aux_lemma => kernel_rfl) (by as_aux_lemma => kernel_rfl) (by as_aux_lemma => kernel_rfl) (fun _ _ _ h => h) (Or.inl ⟨by rfl, ?_⟩) (by assumption) ?_
                rotate_left
                · intro w' hSw
                  try dsimp only at hSw
                  go_simp
                  try with_reducible rfl
                try simp only [Act.put, List.setIfInBounds_toArray, List.set_cons_zero, List.set_cons_succ]
                refine wpAnyH_ready (rs := [35]) (by as_aux_lemma => kernel_rfl) (by simp) ?_
                refine AllReadyH.cons (o := { dst := some 51, op := Op.call { callee := Callee.value (Operand.func 64), args := #[Operand.tmp 48, Operand.tmp 50], argTypes := #[22, 9] }, type := 38, pos := "ref.go:50", after := #[{ on := 32, ground := Ground.data }, { on := 34, ground := Ground.data }, { on := 31, ground := Ground.chain }, { on := 31, ground := Ground.guard }], guard := some (31, false) }) rfl (fun Kx hK => ?_) AllReadyH.nil
                go_simp
                refine (rof_any (HV.out.later BD.out) HL.out xo).mono ?_
                rintro e w24 ⟨u24, rfl, h24, b24⟩
                obtain ⟨a24, k24, rfl⟩ := ownT_slice h24
                have BE := Lib.hid (below2S BD.out b24)
                have CE := Lib.hid (CD.out.later b24)
                have PE := Lib.hid (PD.out.later b24)
                clear b24 h24
                go_wp2_with fail
                refine hK.out _ _ ?_ (fun hHeld2 => ?_)
                · exact s14 (CE.out) (PE.out)
                clear hK Kx hHeld
                have hHeld := hHeld2
                clear hHeld2
                try simp only [Act.put, List.setIfInBounds_toArray, List.set_cons_zero, List.set_cons_succ]
                refine wpAnyH_take (i := 36) (oi := { dst := some 52, op := Op.call { callee := Callee.builtin Builtin.len, args := #[Operand.tmp 51], argTypes := #[38] }, type := 3, pos := "ref.go:50", after := #[{ on := 35, ground := Ground.data }, { on := 31, ground := Ground.guard }], guard := some (31, false) }) (v := ?_) rfl (by as_aux_lemma => kernel_rfl) (by as_aux_lemma => kernel_rfl) (by as_aux_lemma => kernel_rfl) (fun _ _ _ h => h) (Or.inl ⟨by rfl, ?_⟩) (by assumption) ?_
                rotate_left
                · intro w' hSw
                  try dsimp only at hSw
                  go_simp
                  try with_reducible rfl
                try simp only [Act.put, List.setIfInBounds_toArray, List.set_cons_zero, List.set_cons_succ]
                refine wpAnyH_take (i := 37) (oi := { dst := some 53, op := Op.binOp BinOp.gtr 3 (Operand.tmp 52) (Operand.const (Value.int IntKind.i64 16)) 3, type := 4, pos := "ref.go:50", after := #[{ on := 36, ground := Ground.data }, { on := 31, ground := Ground.guard }], guard := some (31, false) }) (v := ?_) rfl (by as_aux_lemma => kernel_rfl) (by as_aux_lemma => kernel_rfl) (by as_aux_lemma => kernel_rfl) (fun _ _ _ h => h) (Or.inl ⟨by rfl, ?_⟩) (by assumption) ?_
                rotate_left
                · intro w' hSw
                  try dsimp only at hSw
                  go_simp
                  try with_reducible rfl
                try simp only [Act.put, List.setIfInBounds_toArray, List.set_cons_zero, List.set_cons_succ]
                refine wpAnyH_take (i := 38) (oi := { dst := some 54, op := Op.pick (Operand.tmp 47) (Operand.const (Value.bool true)) (Operand.tmp 53), type := 4, pos := "ref.go:50", after := #[{ on := 31, ground := Ground.data }, { on := 37, ground := Ground.data }], guard := none }) (v := ?_) rfl (by as_aux_lemma => kernel_rfl) (by as_aux_lemma => kernel_rfl) (by as_aux_lemma => kernel_rfl) (fun _ _ _ h => h) (Or.inl ⟨by rfl, ?_⟩) (by assumption) ?_
                rotate_left
                · intro w' hSw
                  try dsimp only at hSw
                  go_simp
                  try with_reducible rfl
                try simp only [Act.put, List.setIfInBounds_toArray, List.set_cons_zero, List.set_cons_succ]
                refine wpAnyH_done (by kernel_rfl) ?_ _
                cases g with
                | true =>
                  have HR : roMayD l = false := roMayD_off hlt (by rw [HAt.out]; simp)
                  rw [h.out] at HR
                  subst HR
                  go_wp2_with fail
                  go_ret
                  exact ⟨rfl, BE.out⟩
                | false =>
                  obtain ⟨c0, c1, c2, c3, c4, c5, c6⟩ := CE.out
                  simp only [Nat.zero_add] at c0 c1 c2 c3 c4 c5 c6
                  go_wp2_with fail
                  refine (rget8_eq (HV.out.later BE.out) xc xo FG).mono ?_
                  rintro e w7 ⟨rfl, b7⟩
                  have b8 := below2S b7 (bl_newZ w7 (.cells #[.bool i1, .bool i2, .bool i3, .bool i4, .bool i5] 51))
                  have D5 := Lib.hid (itAt_made w7 ⟨i1, i2, i3, i4, i5⟩ w7.heap.size rfl)
                  replace BE := Lib.hid (below2S BE.out b8)
                  replace CE := Lib.hid (CE.out.later b8)
                  clear b7 b8 c0 c1 c2 c3 c4 c5 c6
                  obtain ⟨c0, c1, c2, c3, c4, c5, c6⟩ := CE.out
                  obtain ⟨d0, d1, d2, d3, d4⟩ := D5.out
                  simp only [Nat.zero_add] at c0 c1 c2 c3 c4 c5 c6
                  go_wp2_with fail
                  have RH := rhas_any (HV.out.later BE.out) xc xo
                  rw [FH.out] at RH
                  refine RH.mono ?_
                  rintro e w8 ⟨rfl, rfl⟩
                  clear RH
                  cases hh with
                  | false =>
                    have HR : roMayD l = false := roMayD_off hlt (by rw [HAt.out]; simp)
                    rw [h.out] at HR
                    subst HR
                    go_wp2_with fail
                    go_ret
                    exact ⟨rfl, BE.out⟩
                  | true =>
                    go_wp2_with fail
                    refine (MM.out _).mono ?_
                    rintro e w9 ⟨rfl, b9⟩
                    replace BE := Lib.hid (below2S BE.out b9)
                    replace CE := Lib.hid (CE.out.later b9)
                    replace D5 := Lib.hid (D5.out.later b9)
                    clear b9 c0 c1 c2 c3 c4 c5 c6 d0 d1 d2 d3 d4
                    obtain ⟨c0, c1, c2, c3, c4, c5, c6⟩ := CE.out
                    obtain ⟨d0, d1, d2, d3, d4⟩ := D5.out
                    simp only [Nat.zero_add] at c0 c1 c2 c3 c4 c5 c6
                    cases m with
                    | false =>
                      have HR : roMayD l = false := roMayD_off hlt (by rw [HAt.out]; simp)
                      rw [h.out] at HR
                      subst HR
                      go_wp2_with fail
                      go_ret
                      exact ⟨rfl, BE.out⟩
                    | true =>
                      go_wp2_with fail
                      refine (MZ.out _).mono ?_
                      rintro e w10 ⟨rfl, b10⟩
                      replace BE := Lib.hid (below2S BE.out b10)
                      replace D5 := Lib.hid (D5.out.later b10)
                      clear b10 c0 c1 c2 c3 c4 c5 c6 d0 d1 d2 d3 d4
                      obtain ⟨d0, d1, d2, d3, d4⟩ := D5.out
                      cases z with
                      | false =>
                        have HA2 := Lib.hid (roDoc_next HA.out (by rw [HAt.out]; simp))
                        clear d0 d1 d2 d3 d4
                        go_wp2_with fail
                        go_roundw
                        case rel => exact ⟨j + 1 + 1, by omega, by go_num, BE, HA2⟩
                        case measure => simp [intOf]; omega
                      | true =>
                        go_wp2_with fail
                        refine (MY.out _).mono ?_
                        rintro e w11 ⟨rfl, b11⟩
                        replace BE := Lib.hid (below2S BE.out b11)
                        clear b11 d0 d1 d2 d3 d4
                        cases y with
                        | true =>
                          have HR : roMayD l = false := roMayD_off hlt (by rw [HAt.out]; simp)
                          rw [h.out] at HR
                          subst HR
                          go_wp2_with fail
                          go_ret
                          exact ⟨rfl, BE.out⟩
                        | false =>
                          have HA2 := Lib.hid (roDoc_next HA.out (by rw [HAt.out]; simp))
                          go_wp2_with fail
                          go_roundw
                          case rel => exact ⟨j + 1 + 1, by omega, by go_num, BE, HA2⟩
                          case measure => simp [intOf]; omega
    · obtain rfl : k = l.length := by omega
      have HR : roMayD l = true := HA.out
      rw [h.out] at HR
      subst HR
      go_wp2_with fail
      go_ret
      exact ⟨rfl, HB.out⟩

end Go.Proofs.YtdilcckoapaimaaGreat

end

section

/-
  THE CONTRACTS OF value.May (with mayBeStatus) AND OF THE DOCUMENT'S ANSWER TO IT.
-/
namespace Go.Proofs.YtdilcckoapaimaaGreat
open Go.RowKit

theorem chOk_lo {b : UInt8} (h : b.toNat < 32) : chOk b = false := by unfold chOk; simp; omega
theorem chOk_hi {b : UInt8} (h : 126 < b.toNat) : chOk b = false := by unfold chOk; simp; omega
theorem chOk_yes {b : UInt8} (h : ¬ b.toNat < 32) (h' : ¬ 126 < b.toNat) : chOk b = true := by unfold chOk; simp; omega

theorem all_take_succ {l : List UInt8} {k : Nat} {b : UInt8} (hb : l[k]? = some b) (p : UInt8 → Bool) : (l.take (k + 1)).all p = ((l.take k).all p && p b) := by
  obtain ⟨h1, h2⟩ := List.getElem?_eq_some_iff.1 hb
  rw [List.take_succ_eq_append_getElem h1, h2, List.all_append]
  simp

theorem all_no {l : List UInt8} {k : Nat} {b : UInt8} (hb : l[k]? = some b) {p : UInt8 → Bool} (h : p b = false) : l.all p = false := by
  obtain ⟨h1, h2⟩ := List.getElem?_eq_some_iff.1 hb
  rw [Bool.eq_false_iff]
  intro h'
  have := List.all_eq_true.1 h' l[k] (List.getElem_mem h1)
  rw [h2, h] at this
  cases this

set_option maxHeartbeats 400000 in
set_option maxRecDepth 100000 in
theorem stat_any (l : List UInt8) (hl : l.length ≤ 4294967296) (w : World) :
    Calls Tryz.prog 122 #[.string ⟨l.toArray⟩] w fun e w' => e = .returned (.bool (stOk l)) ∧ w = w' := by
  by_cases h : 32 < l.length
  · have HR : Hid (stOk l = false) := by show _ = _; unfold stOk; simp; omega
    go_enter Tryz.func122, Tryz.ntmps122
    go_wp2_with fail
    go_ret
    exact ⟨by rw [HR.out]; rfl, rfl⟩
  · have h32 : decide (l.length ≤ 32) = true := by simp; omega
    have H32 := Lib.hid h32
    clear h32
    go_enter Tryz.func122, Tryz.ntmps122
    go_wp2_with fail
    go_loop [9] (fun i => ∃ k : Nat, k ≤ l.length ∧ i = .int .i64 k ∧ Hid ((l.take k).all chOk = true)) (fun i => l.length - (intOf i).toNat)
    case atStart => exact ⟨0, by omega, rfl, by show _ = _; simp⟩
    case round =>
      obtain ⟨k, hk, rfl, HA⟩ := hrel
      by_cases hlt : k < l.length
      · have hlt' : k < (⟨l.toArray⟩ : ByteArray).size := by rw [size_bytes]; exact hlt
        obtain ⟨b, hb⟩ : ∃ b : UInt8, (⟨l.toArray⟩ : ByteArray)[k]'hlt' = b := ⟨_, rfl⟩
        have HB : Hid (l[k]? = some b) := by rw [← hb]; exact bytes_at l k hlt'
        have h256 := b.toNat_lt
        by_cases h1 : b.toNat < 32
        · have HN : Hid (stOk l = false) := by show _ = _; unfold stOk; rw [all_no HB.out (chOk_lo h1)]; simp
          go_wp2_with fail
          go_ret
          exact ⟨by rw [HN.out]; rfl, rfl⟩
        · by_cases h2 : 126 < b.toNat
          · have HN : Hid (stOk l = false) := by show _ = _; unfold stOk; rw [all_no HB.out (chOk_hi h2)]; simp
            go_wp2_with fail
            go_ret
            exact ⟨by rw [HN.out]; rfl, rfl⟩
          · have HN : Hid ((l.take (k + 1)).all chOk = true) := by show _ = _; rw [all_take_succ HB.out, HA.out, chOk_yes h1 h2]; rfl
            go_wp2_with fail
            go_round
            case rel => exact ⟨k + 1, by omega, by go_num, HN⟩
            case measure => simp [intOf]; omega
      · obtain rfl : k = l.length := by omega
        have HR : Hid (stOk l = true) := by
          show _ = _
          have := HA.out
          rw [List.take_length] at this
          unfold stOk
          rw [this, H32.out]
          rfl
        go_wp2_with fail
        go_ret
        exact ⟨by rw [HR.out]; rfl, rfl⟩

/-- A value as the model lays it. -/
def numsV (a b c : Int) (l : List UInt8) : Value := .agg #[.int .i64 a, .int .i64 b, .int .i64 c, .string ⟨l.toArray⟩]

theorem numsOk_cases (a b c : Int) : (numsOk a b c = true ∧ 1 ≤ a ∧ a ≤ 4 ∧ -128 ≤ b ∧ b ≤ 127 ∧ 0 ≤ c ∧ c ≤ 1099511627776) ∨
    (numsOk a b c = false ∧ (a < 1 ∨ (1 ≤ a ∧ 4 < a) ∨ (1 ≤ a ∧ a ≤ 4 ∧ b < -128) ∨ (1 ≤ a ∧ a ≤ 4 ∧ -128 ≤ b ∧ 127 < b) ∨ (1 ≤ a ∧ a ≤ 4 ∧ -128 ≤ b ∧ b ≤ 127 ∧ c < 0) ∨ (1 ≤ a ∧ a ≤ 4 ∧ -128 ≤ b ∧ b ≤ 127 ∧ 0 ≤ c ∧ 1099511627776 < c))) := by
  unfold numsOk
  by_cases h : 1 ≤ a ∧ a ≤ 4 ∧ -128 ≤ b ∧ b ≤ 127 ∧ 0 ≤ c ∧ c ≤ 1099511627776
  · exact .inl ⟨by simpa using h, h⟩
  · exact .inr ⟨by simpa using h, by omega⟩

set_option maxHeartbeats 800000 in
set_option maxRecDepth 100000 in
theorem may_any (a b c : Int) (l : List UInt8) (hl : l.length ≤ 4294967296) (w : World) :
    Calls Tryz.prog 70 #[.agg #[.int .i64 a, .int .i64 b, .int .i64 c, .string ⟨l.toArray⟩]] w fun e w' => e = .returned (.bool (vaMay ⟨a, b, c, l⟩)) ∧ Below w.heap.size w w' := by
  rcases numsOk_cases a b c with ⟨h, h1, h2, h3, h4, h5, h6⟩ | ⟨h, hor⟩
  · have HR : Hid (vaMay ⟨a, b, c, l⟩ = stOk l) := by show _ = _; unfold vaMay; simp only; rw [h]; rfl
    clear h
    go_enter Tryz.func70, Tryz.ntmps70
    go_wp2_with fail
    refine (stat_any l hl _).mono ?_
    rintro e w' ⟨rfl, rfl⟩
    go_wp2_with fail
    go_ret
    exact ⟨by rw [HR.out]; rfl, (Below.refl _ _).alloc (Nat.le_refl _) _⟩
  · have HR : Hid (vaMay ⟨a, b, c, l⟩ = false) := by show _ = _; unfold vaMay; simp only; rw [h]; rfl
    clear h
    rcases hor with h1 | ⟨h1, h2⟩ | ⟨h1, h2, h3⟩ | ⟨h1, h2, h3, h4⟩ | ⟨h1, h2, h3, h4, h5⟩ | ⟨h1, h2, h3, h4, h5, h6⟩
    all_goals
      go_enter Tryz.func70, Tryz.ntmps70
      go_wp2_with fail
      go_ret
      exact ⟨by rw [HR.out]; rfl, (Below.refl _ _).alloc (Nat.le_refl _) _⟩

set_option maxHeartbeats 1600000 in
set_option maxRecDepth 100000 in
theorem rmay_any (a b c : Int) (l : List UInt8) (hl : l.length ≤ 4294967296) (w : World) :
    Calls Tryz.prog 133 #[.agg #[.int .i64 a, .int .i64 b, .int .i64 c, .string ⟨l.toArray⟩]] w fun e w' => e = .returned (.bool (vaMay ⟨a, b, c, l⟩)) ∧ Below w.heap.size w w' := by
  rcases numsOk_cases a b c with ⟨h, h1, h2, h3, h4, h5, h6⟩ | ⟨h, hor⟩
  · have HM : Hid (vaMay ⟨a, b, c, l⟩ = stOk l) := by show _ = _; unfold vaMay; simp only; rw [h]; rfl
    clear h
    by_cases h : 32 < l.length
    · have HR : Hid (vaMay ⟨a, b, c, l⟩ = false) := by show _ = _; rw [HM.out]; unfold stOk; simp; omega
      clear HM
      go_enter Tryz.func133, Tryz.ntmps133
      go_wp2_with fail
      go_ret
      exact ⟨by rw [HR.out]; rfl, (Below.refl _ _).alloc (Nat.le_refl _) _⟩
    · have h32 : decide (l.length ≤ 32) = true := by simp; omega
      have H32 := Lib.hid h32
      clear h32
      go_enter Tryz.func133, Tryz.ntmps133
      go_wp2_with fail
      go_loop [3] (fun i => ∃ k : Nat, k ≤ l.length ∧ i = .int .i64 k ∧ Hid ((l.take k).all chOk = true)) (fun i => l.length - (intOf i).toNat)
      case atStart => exact ⟨0, by omega, rfl, by show _ = _; simp⟩
      case round =>
        obtain ⟨k, hk, rfl, HA⟩ := hrel
        by_cases hlt : k < l.length
        · have hlt' : k < (⟨l.toArray⟩ : ByteArray).size := by rw [size_bytes]; exact hlt
          obtain ⟨b, hb⟩ : ∃ b : UInt8, (⟨l.toArray⟩ : ByteArray)[k]'hlt' = b := ⟨_, rfl⟩
          have HB : Hid (l[k]? = some b) := by rw [← hb]; exact bytes_at l k hlt'
          have h256 := b.toNat_lt
          by_cases h1 : b.toNat < 32
          · have HN : Hid (stOk l = false) := by show _ = _; unfold stOk; rw [all_no HB.out (chOk_lo h1)]; simp
            go_wp2_with fail
            go_ret
            exact ⟨by rw [HM.out, HN.out]; rfl, (Below.refl _ _).alloc (Nat.le_refl _) _⟩
          · by_cases h2 : 126 < b.toNat
            · have HN : Hid (stOk l = false) := by show _ = _; unfold stOk; rw [all_no HB.out (chOk_hi h2)]; simp
              go_wp2_with fail
              go_ret
              exact ⟨by rw [HM.out, HN.out]; rfl, (Below.refl _ _).alloc (Nat.le_refl _) _⟩
            · have HN : Hid ((l.take (k + 1)).all chOk = true) := by show _ = _; rw [all_take_succ HB.out, HA.out, chOk_yes h1 h2]; rfl
              go_wp2_with fail
              go_round
              case rel => exact ⟨k + 1, by omega, by go_num, HN⟩
              case measure => simp [intOf]; omega
        · obtain rfl : k = l.length := by omega
          have HR : Hid (stOk l = true) := by
            show _ = _
            have := HA.out
            rw [List.take_length] at this
            unfold stOk
            rw [this, H32.out]
            rfl
          go_wp2_with fail
          go_ret
          exact ⟨by rw [HM.out, HR.out]; rfl, (Below.refl _ _).alloc (Nat.le_refl _) _⟩
  · have HR : Hid (vaMay ⟨a, b, c, l⟩ = false) := by show _ = _; unfold vaMay; simp only; rw [h]; rfl
    clear h
    rcases hor with h1 | ⟨h1, h2⟩ | ⟨h1, h2, h3⟩ | ⟨h1, h2, h3, h4⟩ | ⟨h1, h2, h3, h4, h5⟩ | ⟨h1, h2, h3, h4, h5, h6⟩
    all_goals
      go_enter Tryz.func133, Tryz.ntmps133
      go_wp2_with fail
      go_ret
      exact ⟨by rw [HR.out]; rfl, (Below.refl _ _).alloc (Nat.le_refl _) _⟩

end Go.Proofs.YtdilcckoapaimaaGreat

end
