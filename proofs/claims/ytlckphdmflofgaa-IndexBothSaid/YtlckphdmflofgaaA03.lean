/-
  TEXTS OF THE PROOF, one behind the other: IdRput, IdRmerge, IxRside, IdConcat, IdMerge, IxOth, IxB, IdIs, IdFold, IdTake, Bytes, IdRef, IdLive, IxLive.
-/
import Derived.Test.YtlckphdmflofgaaA02
import Derived.Lib.AppendZeros
import Derived.OwnWalk
import Derived.BigQuiet
import Derived.Deep.DeepMust
import Derived.Lib.OwnBridge
import Derived.Test.YtlckphdmflofgaaA01
import Derived.Lib.OthersKept
import Derived.Lib.ConvBytes
import Derived.Laws.IdiomStrings

section
/-
  THE CONTRACTS OF THE DOCUMENT'S put AND Merge.
-/
namespace Go.Proofs.Ytlckphdmflofgaa
open Go.RowKit

theorem ins_at (x : List UInt8) : ∀ (ls : List (List UInt8)) (i : Nat), i ≤ ls.length → (∀ j, j < i → idLess (ls.getD j []) x = true) →
    (i < ls.length → ls.getD i [] = x → ins x ls = ls) ∧ ((i < ls.length → idLess (ls.getD i []) x = false ∧ ¬ ls.getD i [] = x) → ins x ls = ls.take i ++ ([x] ++ ls.drop i))
  | [], i, hi, _ => by
    simp only [List.length_nil] at hi
    obtain rfl : i = 0 := by omega
    exact ⟨fun h => absurd h (by simp), fun _ => by simp [ins]⟩
  | y :: ls, 0, _, _ => by
    refine ⟨fun _ h => ?_, fun h => ?_⟩
    · simp only [List.getD_cons_zero] at h
      subst h
      unfold ins
      rw [if_neg (by rw [idLess_irrefl]; decide), if_pos rfl]
    · obtain ⟨h1, h2⟩ := h (by simp)
      simp only [List.getD_cons_zero] at h1 h2
      unfold ins
      rw [if_neg (by rw [h1]; decide), if_neg h2]
      simp
  | y :: ls, i + 1, hi, h => by
    have ih := ins_at x ls i (by simpa using hi) (fun j hj => by simpa using h (j + 1) (by omega))
    have h0 : idLess y x = true := by simpa using h 0 (by omega)
    refine ⟨fun h1 h2 => ?_, fun h1 => ?_⟩
    · unfold ins
      rw [if_pos h0, ih.1 (by simpa using h1) (by simpa using h2)]
    · unfold ins
      rw [if_pos h0, ih.2 (fun h2 => by simpa using h1 (by simpa using h2))]
      simp

/-- The cells of a part of a row. -/
theorem src_cells {w W : World} {b off : Nat} {ls : List (List UInt8)} (hc : ∀ i, i < ls.length → w.cell? ⟨b, off + i, none⟩ = some (encS (ls.getD i []))) (hbw : b < w.heap.size) (hb : Below w.heap.size w W)
    (i : Nat) (ms : List (List UInt8)) (hms : ∀ j, j < ms.length → i + j < ls.length ∧ ms.getD j [] = ls.getD (i + j) []) (o : Nat) (ho : o = off + i) :
    ∀ ad, some (⟨b, o, none⟩ : Addr) = some ad → ∀ j u, (ms.map encS)[j]? = some u → W.cell? (ad.add j) = some u := by
  intro ad had j u hu
  subst ho
  obtain rfl := Option.some.inj had
  have hj : j < ms.length := by
    have := (List.getElem?_eq_some_iff.1 hu).1
    simpa using this
  obtain ⟨h1, h2⟩ := hms j hj
  rw [List.getElem?_map, getD_some hj] at hu
  simp only [Option.map_some, Option.some.injEq] at hu
  rw [Addr.add_lit, hb.cell (p := ⟨b, off + i + j, none⟩) hbw, Nat.add_assoc, hc (i + j) h1, ← h2, hu]

theorem new_cell {w : World} {u : Value} {e : TypeId} : ∀ ad, some (⟨w.heap.size, 0, none⟩ : Addr) = some ad → ∀ j v, ([u] : List Value)[j]? = some v → (w.alloc (.cells #[u] e)).cell? (ad.add j) = some v := by
  intro ad had j v hv
  obtain rfl := Option.some.inj had
  exact cells_one w u e j v hv

theorem take_facts {ls : List (List UInt8)} {k : Nat} (hk : k ≤ ls.length) : ∀ j, j < (ls.take k).length → 0 + j < ls.length ∧ (ls.take k).getD j [] = ls.getD (0 + j) [] := by
  intro j hj
  have : j < k := by simp at hj; omega
  refine ⟨by omega, ?_⟩
  simp [List.getD, this]

theorem drop_facts {ls : List (List UInt8)} {k : Nat} : ∀ j, j < (ls.drop k).length → k + j < ls.length ∧ (ls.drop k).getD j [] = ls.getD (k + j) [] := by
  intro j hj
  have : k + j < ls.length := by simp at hj; omega
  exact ⟨this, by simp [List.getD]⟩

set_option maxHeartbeats 1600000 in
set_option maxRecDepth 100000 in
theorem iput_some {w : World} (b off cap : Nat) (ls : List (List UInt8)) (x : List UInt8) (h1 : 1 ≤ ls.length) (h2 : ls.length ≤ cap) (h3 : cap ≤ 9223372036854775807) (h4 : ls.length ≤ 1000)
    (hbw : b < w.heap.size) (hc : ∀ i, i < ls.length → w.cell? ⟨b, off + i, none⟩ = some (encS (ls.getD i []))) :
    Calls Try.prog 33 #[.slice (some ⟨b, off, none⟩) ls.length cap, .string ⟨x.toArray⟩] w fun e w' => ∃ v, e = .returned v ∧ Texts w' v (ins x ls) ∧ Below w.heap.size w w' := by
  obtain ⟨i0, hi, hz0, hz1, hz2⟩ := info_parts Try.infoStr
  have HT : Hid (Texts w (.slice (some ⟨b, off, none⟩) ls.length cap) ls) := ⟨_, cap, rfl, h2, by unfold maxLen; omega, (fun e => by cases e), .inr ⟨b, off, rfl, hbw, hc⟩⟩
  have HC := Lib.hid hc
  clear hc
  go_enter Try.func33, Try.ntmps33
  go_wp2_with fail
  go_loop [5] (fun i => ∃ k : Nat, k ≤ ls.length ∧ i = .int .i64 k ∧ Hid (∀ j, j < k → idLess (ls.getD j []) x = true)) (fun i => ls.length - (intOf i).toNat)
  case atStart => exact ⟨0, by omega, rfl, fun j hj => absurd hj (by omega)⟩
  case round =>
    obtain ⟨k, hk, rfl, HA⟩ := hrel
    by_cases hlt : k < ls.length
    · have hcell := HC.out k hlt
      unfold encS at hcell
      obtain ⟨y, hy⟩ : ∃ y, ls.getD k [] = y := ⟨_, rfl⟩
      rw [hy] at hcell
      have HY := Lib.hid hy
      clear hy
      cases hl : idLess y x with
      | true =>
        have HN : Hid (∀ j, j < k + 1 → idLess (ls.getD j []) x = true) := by
          show ∀ j, _
          intro j hj
          by_cases e : j = k
          · rw [e, HY.out]; exact hl
          · exact HA.out j (by omega)
        have HL := Lib.hid hl
        clear hl
        go_wp2_with fail
        refine (rless_eq y x HL _).mono ?_
        rintro e w' ⟨rfl, rfl⟩
        go_wp2_with fail
        go_round
        case rel => exact ⟨k + 1, by omega, by go_num, HN⟩
        case measure => simp [intOf]; omega
      | false =>
        have HL := Lib.hid hl
        clear hl
        by_cases e : y = x
        · subst e
          have HI := Lib.hid ((ins_at y ls k hk HA.out).1 hlt HY.out)
          go_wp2_with fail
          refine (rless_eq y y HL _).mono ?_
          rintro e w' ⟨rfl, rfl⟩
          go_wp2_with fail
          go_ret
          exact ⟨_, rfl, by rw [HI.out]; exact HT.out, Below.refl _ _⟩
        · have HI := Lib.hid ((ins_at x ls k hk HA.out).2 (fun _ => by rw [HY.out]; exact ⟨HL.out, e⟩))
          have t1 : (y == x) = false := by simpa using e
          clear e
          go_wp2_with fail
          refine (rless_eq y x HL _).mono ?_
          rintro e w' ⟨rfl, rfl⟩
          go_wp2_with (at_builtin; go_must (refine wpList_append_texts rfl _ _ 38 rfl w.heap.size 9 i0 _ 16 Try.underlying38 hi hz0 hz1 hz2 rfl _ [] rfl (by exact ownT_made w 9) (some ⟨b, off, none⟩) k cap (ls.take k) rfl (by simp; omega) (fun e => by cases e) (src_cells HC.out hbw ((Below.refl _ _).alloc (Nat.le_refl _) _) 0 _ (take_facts hk) _ rfl) (by simp; omega) (by decide) (by simp) ?_))
          intro v1 w1 hown1 hb1
          have HB1 : Hid (Below w.heap.size w w1) := ((Below.refl _ _).alloc (Nat.le_refl _) _).trans hb1
          have hsz1 : w.heap.size ≤ w1.heap.size := HB1.out.size
          have HO1 := Lib.hid hown1
          clear hb1 hown1
          go_wp2_with (at_builtin; go_must (refine wpList_append_texts rfl _ _ 38 rfl w.heap.size 9 i0 _ 16 Try.underlying38 hi hz0 hz1 hz2 rfl _ _ rfl (by exact HO1.out.alloc _) (some ⟨w1.heap.size, 0, none⟩) 1 1 [x] rfl rfl (fun e => by cases e) new_cell (by simp; omega) (by decide) (by simp; omega) ?_))
          intro v2 w2 hown2 hb2
          have HB2 : Hid (Below w.heap.size w w2) := (HB1.out.alloc hsz1 _).trans hb2
          have hsz2 : w.heap.size ≤ w2.heap.size := HB2.out.size
          have HO2 := Lib.hid hown2
          clear hb2 hown2
          go_wp2_with (at_builtin; go_must (refine wpList_append_texts rfl _ _ 38 rfl w.heap.size 9 i0 _ 16 Try.underlying38 hi hz0 hz1 hz2 rfl _ _ rfl (by exact HO2.out) (some ⟨b, off + k, none⟩) (ls.length - k) (cap - k) (ls.drop k) rfl (by simp) (fun e => by cases e) (src_cells HC.out hbw HB2.out k _ drop_facts _ rfl) (by simp; omega) (by decide) hsz2 ?_))
          intro v3 w3 hown3 hb3
          have HB3 : Hid (Below w.heap.size w w3) := HB2.out.trans hb3
          have HO3 := Lib.hid hown3
          clear hb3 hown3
          go_wp2_with fail
          go_ret
          exact ⟨_, rfl, by rw [HI.out]; have := HO3.out.texts; simpa using this, HB3.out⟩
    · obtain rfl : k = ls.length := by omega
      have HI : Hid (ins x ls = ls.take ls.length ++ ([x] ++ [])) := by
        show _ = _
        have := (ins_at x ls ls.length hk HA.out).2 (fun h => absurd h (by omega))
        simpa using this
      go_wp2_with (at_builtin; go_must (refine wpList_append_texts rfl _ _ 38 rfl w.heap.size 9 i0 _ 16 Try.underlying38 hi hz0 hz1 hz2 rfl _ [] rfl (by exact ownT_made w 9) (some ⟨b, off, none⟩) ls.length cap (ls.take ls.length) rfl (by simp) (fun e => by cases e) (src_cells HC.out hbw ((Below.refl _ _).alloc (Nat.le_refl _) _) 0 _ (take_facts (Nat.le_refl _)) _ rfl) (by simp; omega) (by decide) (by simp) ?_))
      intro v1 w1 hown1 hb1
      have HB1 : Hid (Below w.heap.size w w1) := ((Below.refl _ _).alloc (Nat.le_refl _) _).trans hb1
      have hsz1 : w.heap.size ≤ w1.heap.size := HB1.out.size
      have HO1 := Lib.hid hown1
      clear hb1 hown1
      go_wp2_with (at_builtin; go_must (refine wpList_append_texts rfl _ _ 38 rfl w.heap.size 9 i0 _ 16 Try.underlying38 hi hz0 hz1 hz2 rfl _ _ rfl (by exact HO1.out.alloc _) (some ⟨w1.heap.size, 0, none⟩) 1 1 [x] rfl rfl (fun e => by cases e) new_cell (by simp; omega) (by decide) (by simp; omega) ?_))
      intro v2 w2 hown2 hb2
      have HB2 : Hid (Below w.heap.size w w2) := (HB1.out.alloc hsz1 _).trans hb2
      have hsz2 : w.heap.size ≤ w2.heap.size := HB2.out.size
      have HO2 := Lib.hid hown2
      clear hb2 hown2
      go_wp2_with (at_builtin; go_must (refine wpList_append_texts rfl _ _ 38 rfl w.heap.size 9 i0 _ 16 Try.underlying38 hi hz0 hz1 hz2 rfl _ _ rfl (by exact HO2.out) _ _ _ [] (by rfl) rfl (fun e => by split at e <;> cases e) (fun _ _ j u hu => by simp at hu) (by simp; omega) (by decide) hsz2 ?_))
      all_goals
        intro v3 w3 hown3 hb3
        have HB3 : Hid (Below w.heap.size w w3) := HB2.out.trans hb3
        have HO3 := Lib.hid hown3
        clear hb3 hown3
        go_wp2_with fail
        go_ret
        exact ⟨_, rfl, by rw [HI.out]; have := HO3.out.texts; simpa using this, HB3.out⟩

set_option maxHeartbeats 800000 in
set_option maxRecDepth 100000 in
theorem iput_nil {w : World} (x : List UInt8) :
    Calls Try.prog 33 #[.slice none 0 0, .string ⟨x.toArray⟩] w fun e w' => ∃ v, e = .returned v ∧ Texts w' v (ins x []) ∧ Below w.heap.size w w' := by
  obtain ⟨i0, hi, hz0, hz1, hz2⟩ := info_parts Try.infoStr
  go_enter Try.func33, Try.ntmps33
  go_wp2_with fail
  refine wp_loop_rounds 1 ?_
  rw [rounds_succ]
  go_wp2_with (at_builtin; go_must (refine wpList_append_texts rfl _ _ 38 rfl w.heap.size 9 i0 _ 16 Try.underlying38 hi hz0 hz1 hz2 rfl _ [] rfl (by exact ownT_made w 9) none _ _ [] (by rfl) rfl (fun _ => ⟨rfl, rfl⟩) (fun _ e => by cases e) (by simp) (by decide) (by simp) ?_))
  intro v1 w1 hown1 hb1
  have HB1 : Hid (Below w.heap.size w w1) := ((Below.refl _ _).alloc (Nat.le_refl _) _).trans hb1
  have hsz1 : w.heap.size ≤ w1.heap.size := HB1.out.size
  have HO1 := Lib.hid hown1
  clear hb1 hown1
  go_wp2_with (at_builtin; go_must (refine wpList_append_texts rfl _ _ 38 rfl w.heap.size 9 i0 _ 16 Try.underlying38 hi hz0 hz1 hz2 rfl _ _ rfl (by exact HO1.out.alloc _) (some ⟨w1.heap.size, 0, none⟩) 1 1 [x] rfl rfl (fun e => by cases e) new_cell (by simp) (by decide) (by simp; omega) ?_))
  intro v2 w2 hown2 hb2
  have HB2 : Hid (Below w.heap.size w w2) := (HB1.out.alloc hsz1 _).trans hb2
  have hsz2 : w.heap.size ≤ w2.heap.size := HB2.out.size
  have HO2 := Lib.hid hown2
  clear hb2 hown2
  go_wp2_with (at_builtin; go_must (refine wpList_append_texts rfl _ _ 38 rfl w.heap.size 9 i0 _ 16 Try.underlying38 hi hz0 hz1 hz2 rfl _ _ rfl (by exact HO2.out) none _ _ [] (by rfl) rfl (fun _ => ⟨rfl, rfl⟩) (fun _ e => by cases e) (by simp) (by decide) hsz2 ?_))
  intro v3 w3 hown3 hb3
  have HB3 : Hid (Below w.heap.size w w3) := HB2.out.trans hb3
  have HO3 := Lib.hid hown3
  clear hb3 hown3
  go_wp2_with fail
  go_ret
  exact ⟨_, rfl, by have := HO3.out.texts; simpa [ins] using this, HB3.out⟩

/-- What Merge hands to put: nil, or a row that is not empty. -/
def Heaped (w : World) (v : Value) (ls : List (List UInt8)) : Prop := Texts w v ls ∧ (ls = [] → v = .slice none 0 0)

theorem iput_any {w : World} {v : Value} {ls : List (List UInt8)} (h : Heaped w v ls) (hl : ls.length ≤ 1000) (x : List UInt8) :
    Calls Try.prog 33 #[v, .string ⟨x.toArray⟩] w fun e w' => ∃ v, e = .returned v ∧ Texts w' v (ins x ls) ∧ Below w.heap.size w w' := by
  obtain ⟨⟨a, cap, rfl, h1, h2, h3, h4⟩, h5⟩ := h
  unfold maxLen at h2
  rcases h4 with rfl | ⟨b, off, rfl, hb, hc⟩
  · rw [h5 rfl]
    exact iput_nil x
  · by_cases h0 : ls = []
    · subst h0
      have := h5 rfl
      simp at this
    · have : 1 ≤ ls.length := by
        rcases ls with _ | ⟨_, _⟩
        · exact absurd rfl h0
        · simp
      exact iput_some b off cap ls x this h1 h2 hl hb hc

end Go.Proofs.Ytlckphdmflofgaa
end

section
/-
  THE CONTRACT OF THE DOCUMENT'S Merge.
-/
namespace Go.Proofs.Ytlckphdmflofgaa
open Go.RowKit

theorem ins_len (x : List UInt8) : ∀ ls, (ins x ls).length ≤ ls.length + 1 ∧ 1 ≤ (ins x ls).length
  | [] => by simp [ins]
  | y :: ls => by
    have := ins_len x ls
    unfold ins
    split
    · simp only [List.length_cons]; omega
    · split <;> simp

theorem mrg_snoc (l : List (List UInt8)) (x : List UInt8) : mrg (l ++ [x]) = ins x (mrg l) := by
  unfold mrg
  rw [List.foldl_append]
  rfl

theorem mrg_len (l : List (List UInt8)) : (mrg l).length ≤ l.length := by
  have : ∀ acc : List (List UInt8), (l.foldl (fun out x => ins x out) acc).length ≤ acc.length + l.length := by
    induction l with
    | nil => intro acc; simp
    | cons x l ih =>
      intro acc
      have h1 := ih (ins x acc)
      have h2 := (ins_len x acc).1
      simp only [List.foldl_cons, List.length_cons]
      omega
  simpa [mrg] using this []

theorem heaped_ins {w : World} {v : Value} {ls : List (List UInt8)} {x : List UInt8} (h : Texts w v (ins x ls)) : Heaped w v (ins x ls) := by
  refine ⟨h, fun e => ?_⟩
  have := (ins_len x ls).2
  rw [e] at this
  simp at this

theorem Heaped.later {w w' : World} {v : Value} {ls : List (List UInt8)} (h : Heaped w v ls) (hb : Below w.heap.size w w') : Heaped w' v ls := ⟨h.1.later hb, h.2⟩

/-- A cell of a row, in a later world. -/
theorem Texts.cell {w wr : World} {a : Option Addr} {n cap : Nat} {ls : List (List UInt8)} (h : Texts w (.slice a n cap) ls) (hb : Below w.heap.size w wr) (k : Nat) (hk : k < ls.length) :
    ∃ b off, a = some ⟨b, off, none⟩ ∧ wr.cell? ⟨b, off + k, none⟩ = some (.string ⟨(ls.getD k []).toArray⟩) := by
  obtain ⟨a', cap', e, _, _, _, h⟩ := h.later hb
  simp only [Value.slice.injEq] at e
  rcases h with h | ⟨b, off, e', _, hc⟩
  · rw [h] at hk; simp at hk
  · exact ⟨b, off, e.1.trans e', hc k hk⟩

set_option maxHeartbeats 1600000 in
set_option maxRecDepth 100000 in
theorem irmerge_big {w : World} {va vb : Value} {as' bs' : List (List UInt8)} (ha : Texts w va as') (hb : Texts w vb bs') (hal : as'.length ≤ 500) (hbl : bs'.length ≤ 500) :
    Calls Try.prog 24 #[va, vb] w fun e w' => ∃ v, e = .returned v ∧ Texts w' v (mrg (as' ++ bs')) ∧ Below w.heap.size w w' := by
  have HA := Lib.hid ha
  have HB := Lib.hid hb
  obtain ⟨a, cap, rfl, _, _, _, _⟩ := ha
  obtain ⟨a2, cap2, rfl, _, _, _, _⟩ := hb
  go_enter Try.func24, Try.ntmps24
  go_wp2_with fail
  go_loopw [5, 6] (fun v i wr => ∃ k : Nat, k ≤ as'.length ∧ i = .int .i64 k ∧ Hid (Heaped wr v (mrg (as'.take k))) ∧ Below w.heap.size w wr) (fun _ i _ => as'.length - (intOf i).toNat)
  case atStart => exact ⟨0, by omega, rfl, ⟨texts_nil w, fun _ => rfl⟩, Below.refl _ _⟩
  case round =>
    rename_i v0 _ wr _
    obtain ⟨k, hk, rfl, HV, hnx⟩ := hrel
    have HN := Lib.hid hnx
    by_cases hlt : k < as'.length
    · obtain ⟨b1, o1, e1, hc1⟩ := HA.out.cell HN.out k hlt
      subst e1
      obtain ⟨x, hx⟩ : ∃ x, as'.getD k [] = x := ⟨_, rfl⟩
      rw [hx] at hc1
      have HM : Hid (mrg (as'.take (k + 1)) = ins x (mrg (as'.take k))) := by
        show _ = _
        rw [List.take_succ_eq_append_getElem hlt, mrg_snoc]
        congr 1
        rw [← hx]
        simp [List.getD, List.getElem?_eq_getElem hlt]
      have hml := mrg_len (as'.take k)
      have hml' : (mrg (as'.take k)).length ≤ 1000 := by
        have : (as'.take k).length ≤ k := List.length_take_le _ _
        omega
      have HP := Lib.hid (iput_any HV.out hml' x)
      clear hx hnx hml hml'
      go_wp2_with fail
      refine HP.out.mono ?_
      rintro e w1 ⟨v1, rfl, ht1, hb1⟩
      have HT1 : Hid (Heaped w1 v1 (mrg (as'.take (k + 1)))) := by show Heaped _ _ _; rw [HM.out]; exact heaped_ins ht1
      have HN1 := Lib.hid (below2' HN.out hb1)
      clear ht1 hb1 HP
      go_wp2_with fail
      go_roundw
      case rel => exact ⟨k + 1, by omega, by go_num, HT1, HN1.out⟩
      case measure => simp [intOf]; omega
    · obtain rfl : k = as'.length := by omega
      rw [List.take_length] at HV
      have hfull : as'.length ≤ as'.length := Nat.le_refl _
      clear hnx
      go_wp2_with fail
      go_loopw [5, 7] (fun v i ws => ∃ k : Nat, k ≤ bs'.length ∧ i = .int .i64 k ∧ Hid (Heaped ws v (mrg (as' ++ bs'.take k))) ∧ Below w.heap.size w ws) (fun _ i _ => bs'.length - (intOf i).toNat)
      case atStart => exact ⟨0, by omega, rfl, by show Heaped _ _ _; simpa using HV.out, HN.out⟩
      case round =>
        obtain ⟨k, hk, rfl, HV2, hnx⟩ := hrel
        have HN2 := Lib.hid hnx
        by_cases hlt2 : k < bs'.length
        · obtain ⟨b1, o1, e1, hc1⟩ := HB.out.cell HN2.out k hlt2
          subst e1
          obtain ⟨x, hx⟩ : ∃ x, bs'.getD k [] = x := ⟨_, rfl⟩
          rw [hx] at hc1
          have HM : Hid (mrg (as' ++ bs'.take (k + 1)) = ins x (mrg (as' ++ bs'.take k))) := by
            show _ = _
            rw [List.take_succ_eq_append_getElem hlt2, ← List.append_assoc, mrg_snoc]
            congr 1
            rw [← hx]
            simp [List.getD, List.getElem?_eq_getElem hlt2]
          have hml := mrg_len (as' ++ bs'.take k)
          have hml' : (mrg (as' ++ bs'.take k)).length ≤ 1000 := by
            have : (bs'.take k).length ≤ k := List.length_take_le _ _
            rw [List.length_append] at hml
            omega
          have HP := Lib.hid (iput_any HV2.out hml' x)
          clear hx hnx hml hml'
          go_wp2_with fail
          refine HP.out.mono ?_
          rintro e w1 ⟨v1, rfl, ht1, hb1⟩
          have HT1 : Hid (Heaped w1 v1 (mrg (as' ++ bs'.take (k + 1)))) := by show Heaped _ _ _; rw [HM.out]; exact heaped_ins ht1
          have HN1 := Lib.hid (below2' HN2.out hb1)
          clear ht1 hb1 HP
          go_wp2_with fail
          go_roundw
          case rel => exact ⟨k + 1, by omega, by go_num, HT1, HN1.out⟩
          case measure => simp [intOf]; omega
        · obtain rfl : k = bs'.length := by omega
          rw [List.take_length] at HV2
          clear hnx
          go_wp2_with fail
          go_ret
          exact ⟨_, rfl, HV2.out.1, HN2.out⟩

theorem irmerge_any {w : World} {va vb : Value} {as' bs' : List (List UInt8)} (ha : Texts w va as') (hb : Texts w vb bs') (hal : as'.length ≤ 100) (hbl : bs'.length ≤ 100) :
    Calls Try.prog 24 #[va, vb] w fun e w' => ∃ v, e = .returned v ∧ Texts w' v (mrg (as' ++ bs')) ∧ Below w.heap.size w w' :=
  irmerge_big ha hb (by omega) (by omega)

end Go.Proofs.Ytlckphdmflofgaa
end

section
/-
  LAYER 13, THE DOCUMENT: who stands across from a user.
-/
namespace Go.Proofs.Ytlckphdmflofgaa
open Go.RowKit Go.ChangeMaps Go.MapKept

theorem ix_infoTxt : (Try.prog.info? 9).map (fun i => (i.zero, i.size, i.bytes)) = some (some (.string ⟨#[]⟩), 1, 16) := by kernel_rfl

theorem ix_new1 {w : World} {u : Value} {e : TypeId} : ∀ ad, some (⟨w.heap.size, 0, none⟩ : Addr) = some ad → ∀ j v, ([u] : List Value)[j]? = some v → (w.alloc (.cells #[u] e)).cell? (ad.add j) = some v := by
  intro ad had j v hv
  obtain rfl := Option.some.inj had
  exact cells_one w u e j v hv

/-- Those across from a user in the first k pairs. -/
def sdT (L : List Pr) (s : Bool) (u : List UInt8) (k : Nat) : List (List UInt8) := ((L.take k).filter (fun p => pcOf s p = u)).map (pcOf (!s))

theorem sdT_next {L : List Pr} {k : Nat} (hk : k < L.length) (s : Bool) (u : List UInt8) {p : Pr} (hp : L.getD k ([], []) = p) : sdT L s u (k + 1) = if pcOf s p = u then sdT L s u k ++ [pcOf (!s) p] else sdT L s u k := by
  have e : L[k] = p := by rw [← hp, List.getD_eq_getElem?_getD, List.getElem?_eq_getElem hk]; rfl
  unfold sdT
  rw [List.take_succ_eq_append_getElem hk, e, List.filter_append, List.map_append]
  by_cases h : pcOf s p = u
  · rw [if_pos h, List.filter_cons, if_pos (by simp [h])]
    rfl
  · rw [if_neg h, List.filter_cons, if_neg (by simp [h])]
    simp

theorem sdT_le (L : List Pr) (s : Bool) (u : List UInt8) (k : Nat) : (sdT L s u k).length ≤ L.length := by
  unfold sdT
  rw [List.length_map]
  exact Nat.le_trans (List.length_filter_le _ _) (by rw [List.length_take]; omega)

theorem sdT_end (L : List Pr) (s : Bool) (u : List UInt8) : mrg (sdT L s u L.length ++ []) = ixSide L s u := by
  unfold sdT ixSide
  rw [List.take_length, List.append_nil]

set_option maxHeartbeats 3200000 in
set_option maxRecDepth 100000 in
theorem rixside_w {w : World} {base xb : Nat} {vl : Value} {L : List Pr} (h : Rix w base xb vl L) (hl : L.length ≤ 100) (u : List UInt8) :
    Calls Try.prog 32 #[.pointer (some ⟨xb, 0, none⟩), .string ⟨u.toArray⟩, .int .i64 0] w fun e w' => ∃ v, e = .returned v ∧ Texts w' v (ixSide L false u) ∧ Below w.heap.size w w' := by
  obtain ⟨i0, hi, hz0, hz1, hz2⟩ := info_parts ix_infoTxt
  obtain ⟨a, cap, rfl⟩ := rix_shape h
  have HV := Lib.hid (h.2.2.rd rprOK)
  have HI := Lib.hid h
  clear h
  go_enter Try.func32, Try.ntmps32
  go_wp2_with fail
  go_loopw [7, 8] (fun s i wr => ∃ k : Nat, k ≤ L.length ∧ i = .int .i64 k ∧ Hid (OwnT wr w.heap.size 9 s (sdT L false u k)) ∧ Hid (Below w.heap.size w wr)) (fun _ i _ => L.length - (intOf i).toNat)
  case atStart => exact ⟨0, by omega, rfl, World.ownsRow_nil _ _ _ _, Below.refl _ _⟩
  case round =>
    obtain ⟨k, hk, rfl, HO, HN⟩ := hrel
    have c0 := (HI.out.later HN.out).cell.1
    by_cases hlt : k < L.length
    · obtain ⟨b, off, rfl, hc⟩ := HV.out.row HN.out k hlt
      have hX := fun p e => sdT_next (p := p) hlt false u e
      obtain ⟨y, hy⟩ : ∃ y, L.getD k ([], []) = y := ⟨_, rfl⟩
      rw [hy] at hc
      have hX := hX _ hy
      clear hy
      obtain ⟨y1, y2⟩ := y
      have x0 : wr.cell? ⟨b, off + k * 2, none⟩ = some (.string ⟨y1.toArray⟩) := hc 0 _ rfl
      have x1 : wr.cell? ⟨b, off + k * 2 + 1, none⟩ = some (.string ⟨y2.toArray⟩) := hc 1 _ rfl
      clear hc
      by_cases e1 : y1 = u
      · have t1 : (y1 == u) = true := by simpa using e1
        rw [if_pos (show pcOf false (y1, y2) = u from e1)] at hX
        have hX : sdT L false u (k + 1) = sdT L false u k ++ [y2] := hX
        have HX := Lib.hid hX
        have hcl : (sdT L false u k).length ≤ 100 := Nat.le_trans (sdT_le L false u k) hl
        have O2 := Lib.hid (HO.out.alloc (.cells #[.string ⟨y2.toArray⟩] 9))
        have N2 := Lib.hid (HN.out.alloc HN.out.size (.cells #[.string ⟨y2.toArray⟩] 9))
        have hz3 := N2.out.size
        clear hX HO e1
        go_wp2_with (at_builtin; go_must (refine wpList_append_texts rfl _ _ 38 rfl w.heap.size 9 i0 _ 16 Try.underlying38 hi hz0 hz1 hz2 rfl _ (sdT L false u k) rfl (by exact O2.out) _ 1 1 [y2] rfl rfl (fun e => nomatch e) ?c1 (by simp only [List.length_cons, List.length_nil]; omega) (by decide) hz3 ?_))
        case c1 => exact ix_new1
        intro v' w' hown' hb'
        rw [← HX.out] at hown'
        have O3 := Lib.hid hown'
        have N4 := Lib.hid (N2.out.trans hb')
        clear hown' hb' O2 x0 x1 c0
        go_wp2_with fail
        go_roundw
        case rel => exact ⟨k + 1, by omega, by go_num, O3, N4⟩
        case measure => simp [intOf]; omega
      · have t1 : (y1 == u) = false := by simpa using e1
        rw [if_neg (show ¬ pcOf false (y1, y2) = u from e1)] at hX
        have O3 : Hid (OwnT wr w.heap.size 9 _ (sdT L false u (k + 1))) := Lib.hid (by rw [hX]; exact HO.out)
        clear hX HO e1
        go_wp2_with fail
        go_roundw
        case rel => exact ⟨k + 1, by omega, by go_num, O3, HN⟩
        case measure => simp [intOf]; omega
    · obtain rfl : k = L.length := by omega
      have HT := HO
      have hlen : (sdT L false u L.length).length ≤ 100 := Nat.le_trans (sdT_le L false u _) hl
      clear HO
      go_wp2_with fail
      refine (irmerge_any HT.out.texts (texts_nil _) hlen (by simp)).mono ?_
      rintro e w1 ⟨v, rfl, ht1, b1⟩
      rw [sdT_end] at ht1
      have N3 := Lib.hid (below2Z HN.out b1)
      have HT1 := Lib.hid ht1
      clear b1 ht1
      go_wp2_with fail
      go_ret
      exact ⟨_, rfl, HT1.out, N3.out⟩

set_option maxHeartbeats 3200000 in
set_option maxRecDepth 100000 in
theorem rixside_c {w : World} {base xb : Nat} {vl : Value} {L : List Pr} (h : Rix w base xb vl L) (hl : L.length ≤ 100) (u : List UInt8) :
    Calls Try.prog 32 #[.pointer (some ⟨xb, 0, none⟩), .string ⟨u.toArray⟩, .int .i64 1] w fun e w' => ∃ v, e = .returned v ∧ Texts w' v (ixSide L true u) ∧ Below w.heap.size w w' := by
  obtain ⟨i0, hi, hz0, hz1, hz2⟩ := info_parts ix_infoTxt
  obtain ⟨a, cap, rfl⟩ := rix_shape h
  have HV := Lib.hid (h.2.2.rd rprOK)
  have HI := Lib.hid h
  clear h
  go_enter Try.func32, Try.ntmps32
  go_wp2_with fail
  go_loopw [7, 8] (fun s i wr => ∃ k : Nat, k ≤ L.length ∧ i = .int .i64 k ∧ Hid (OwnT wr w.heap.size 9 s (sdT L true u k)) ∧ Hid (Below w.heap.size w wr)) (fun _ i _ => L.length - (intOf i).toNat)
  case atStart => exact ⟨0, by omega, rfl, World.ownsRow_nil _ _ _ _, Below.refl _ _⟩
  case round =>
    obtain ⟨k, hk, rfl, HO, HN⟩ := hrel
    have c0 := (HI.out.later HN.out).cell.1
    by_cases hlt : k < L.length
    · obtain ⟨b, off, rfl, hc⟩ := HV.out.row HN.out k hlt
      have hX := fun p e => sdT_next (p := p) hlt true u e
      obtain ⟨y, hy⟩ : ∃ y, L.getD k ([], []) = y := ⟨_, rfl⟩
      rw [hy] at hc
      have hX := hX _ hy
      clear hy
      obtain ⟨y1, y2⟩ := y
      have x0 : wr.cell? ⟨b, off + k * 2, none⟩ = some (.string ⟨y1.toArray⟩) := hc 0 _ rfl
      have x1 : wr.cell? ⟨b, off + k * 2 + 1, none⟩ = some (.string ⟨y2.toArray⟩) := hc 1 _ rfl
      clear hc
      by_cases e1 : y2 = u
      · have t1 : (y2 == u) = true := by simpa using e1
        rw [if_pos (show pcOf true (y1, y2) = u from e1)] at hX
        have hX : sdT L true u (k + 1) = sdT L true u k ++ [y1] := hX
        have HX := Lib.hid hX
        have hcl : (sdT L true u k).length ≤ 100 := Nat.le_trans (sdT_le L true u k) hl
        have O2 := Lib.hid (HO.out.alloc (.cells #[.string ⟨y1.toArray⟩] 9))
        have N2 := Lib.hid (HN.out.alloc HN.out.size (.cells #[.string ⟨y1.toArray⟩] 9))
        have hz3 := N2.out.size
        clear hX HO e1
        go_wp2_with (at_builtin; go_must (refine wpList_append_texts rfl _ _ 38 rfl w.heap.size 9 i0 _ 16 Try.underlying38 hi hz0 hz1 hz2 rfl _ (sdT L true u k) rfl (by exact O2.out) _ 1 1 [y1] rfl rfl (fun e => nomatch e) ?c1 (by simp only [List.length_cons, List.length_nil]; omega) (by decide) hz3 ?_))
        case c1 => exact ix_new1
        intro v' w' hown' hb'
        rw [← HX.out] at hown'
        have O3 := Lib.hid hown'
        have N4 := Lib.hid (N2.out.trans hb')
        clear hown' hb' O2 x0 x1 c0
        go_wp2_with fail
        go_roundw
        case rel => exact ⟨k + 1, by omega, by go_num, O3, N4⟩
        case measure => simp [intOf]; omega
      · have t1 : (y2 == u) = false := by simpa using e1
        rw [if_neg (show ¬ pcOf true (y1, y2) = u from e1)] at hX
        have O3 : Hid (OwnT wr w.heap.size 9 _ (sdT L true u (k + 1))) := Lib.hid (by rw [hX]; exact HO.out)
        clear hX HO e1
        go_wp2_with fail
        go_roundw
        case rel => exact ⟨k + 1, by omega, by go_num, O3, HN⟩
        case measure => simp [intOf]; omega
    · obtain rfl : k = L.length := by omega
      have HT := HO
      have hlen : (sdT L true u L.length).length ≤ 100 := Nat.le_trans (sdT_le L true u _) hl
      clear HO
      go_wp2_with fail
      refine (irmerge_any HT.out.texts (texts_nil _) hlen (by simp)).mono ?_
      rintro e w1 ⟨v, rfl, ht1, b1⟩
      rw [sdT_end] at ht1
      have N3 := Lib.hid (below2Z HN.out b1)
      have HT1 := Lib.hid ht1
      clear b1 ht1
      go_wp2_with fail
      go_ret
      exact ⟨_, rfl, HT1.out, N3.out⟩

theorem rixwatch_any {w : World} {base xb : Nat} {vl : Value} {L : List Pr} (h : Rix w base xb vl L) (hl : L.length ≤ 100) (u : List UInt8) :
    Calls Try.prog 21 #[.pointer (some ⟨xb, 0, none⟩), .string ⟨u.toArray⟩] w fun e w' => ∃ v, e = .returned v ∧ Texts w' v (ixSide L true u) ∧ Below w.heap.size w w' := by
  have H := Lib.hid (rixside_c h hl u)
  clear h
  go_enter Try.func21, Try.ntmps21
  go_wp2_with fail
  refine H.out.mono ?_
  rintro e w1 ⟨v, rfl, ht1, b1⟩
  go_wp2_with fail
  go_ret
  exact ⟨_, rfl, ht1, b1⟩

theorem rixcont_any {w : World} {base xb : Nat} {vl : Value} {L : List Pr} (h : Rix w base xb vl L) (hl : L.length ≤ 100) (u : List UInt8) :
    Calls Try.prog 23 #[.pointer (some ⟨xb, 0, none⟩), .string ⟨u.toArray⟩] w fun e w' => ∃ v, e = .returned v ∧ Texts w' v (ixSide L false u) ∧ Below w.heap.size w w' := by
  have H := Lib.hid (rixside_w h hl u)
  clear h
  go_enter Try.func23, Try.ntmps23
  go_wp2_with fail
  refine H.out.mono ?_
  rintro e w1 ⟨v, rfl, ht1, b1⟩
  go_wp2_with fail
  go_ret
  exact ⟨_, rfl, ht1, b1⟩

end Go.Proofs.Ytlckphdmflofgaa
end

section
/-
  THE CONTRACTS OF slices.Grow (of nil) AND slices.Concat (of two rows of texts), AT THIS PROGRAM.
-/
namespace Go.Proofs.Ytlckphdmflofgaa
open Go.RowKit

theorem zeros_size (z : Value) (hz : z.cells.size = 1) (n : Nat) : (Builtin.zeroCells z.cells n).size = n := by
  unfold Builtin.zeroCells
  simp [hz]

set_option maxHeartbeats 800000 in
set_option maxRecDepth 100000 in
theorem grow_nil (n : Nat) (hn : n ≤ 1000) (w : World) :
    Calls Try.prog 83 #[.slice none 0 0, .int .i64 n] w fun e w' => ∃ v, e = .returned v ∧ OwnT w' w.heap.size 9 v [] ∧ Below w.heap.size w w' := by
  obtain ⟨i0, hi, hz0, hz1, hz2⟩ := info_parts Try.infoStr
  by_cases h0 : n = 0
  · subst h0
    go_enter Try.func83, Try.ntmps83
    go_wp2_with fail
    go_ret
    exact ⟨_, rfl, World.ownsRow_nil _ _ _ _, Below.refl _ _⟩
  · have hrz := fun ty => Lib.run_append_nil_zeros (P := Try.prog) w 38 3 ty 9 i0 _ .i64 .i64 Try.underlying38 Try.underlying3 hi hz0 n (by omega) (by omega) (by omega) (by rw [hz2]; omega)
    have hG1 := grownCap_ge w n 0 9
    have hG2 := grownCap_le_maxLen w n 0 9 (by unfold maxLen; omega)
    obtain ⟨G, hG⟩ : ∃ G, G = grownCap w n 0 9 := ⟨_, rfl⟩
    rw [← hG] at hrz hG1 hG2
    have hO : Hid (OwnT (w.drew.alloc (.cells (Builtin.zeroCells (Value.string ⟨#[]⟩).cells n ++ Builtin.zeroCells (Value.string ⟨#[]⟩).cells (G - n)) 9)) w.heap.size 9 (.slice (some ⟨w.heap.size, 0, none⟩) 0 G) []) := by
      refine World.ownsRow_made (base := w.heap.size) w.drew _ G (Nat.le_refl _) hG2 ?_
      rw [Array.size_append, zeros_size _ rfl, zeros_size _ rfl]
      omega
    have h1 : 0 < n := by omega
    unfold maxLen at hG2
    clear hG h0
    go_enter Try.func83, Try.ntmps83
    go_wp2_with (at_builtin; go_must (refine Lib.wpList_append_run _ rfl _ _ _ _ rfl _ _ rfl rfl _ _ (hrz _) ?_))
    go_wp2_with fail
    go_ret
    exact ⟨_, rfl, hO.out, (Below.refl _ _).drew.alloc (Nat.le_refl _) _⟩

/-- A slice of texts as the source of an append. -/
theorem texts_src {W : World} {a : Option Addr} {n cap : Nat} {ls : List (List UInt8)} (h : Texts W (.slice a n cap) ls) :
    n = ls.length ∧ (a = none → cap = 0 ∧ ls = []) ∧ (∀ ad, a = some ad → ∀ j u, (ls.map encS)[j]? = some u → W.cell? (ad.add j) = some u) := by
  obtain ⟨a', cap', e, h1, h2, h3, h4⟩ := h
  simp only [Value.slice.injEq] at e
  obtain ⟨rfl, rfl, rfl⟩ := e
  refine ⟨rfl, fun e => ⟨h3 e, List.length_eq_zero_iff.1 (by have := h3 e; omega)⟩, ?_⟩
  rintro ad rfl j u hu
  have hj : j < ls.length := by
    have := (List.getElem?_eq_some_iff.1 hu).1
    simpa using this
  rcases h4 with h | ⟨b, off, e, _, hc⟩
  · rw [h] at hj; simp at hj
  · obtain rfl := Option.some.inj e
    rw [List.getElem?_map, getD_some hj] at hu
    simp only [Option.map_some, Option.some.injEq] at hu
    rw [Addr.add_lit, hc j hj, hu]

set_option maxHeartbeats 1600000 in
set_option maxRecDepth 100000 in
theorem concat_sum {w : World} {va vb : Value} {ls ms : List (List UInt8)} (ha : Texts w va ls) (hb : Texts w vb ms) (hlm : ls.length + ms.length ≤ 1000)
    (B : Nat) (k0 : w.cell? ⟨B, 0, none⟩ = some va) (k1 : w.cell? ⟨B, 1, none⟩ = some vb) :
    Calls Try.prog 68 #[.slice (some ⟨B, 0, none⟩) 2 2] w fun e w' => ∃ v, e = .returned v ∧ OwnT w' w.heap.size 9 v (ls ++ ms) ∧ Below w.heap.size w w' := by
  have hl : ls.length ≤ 1000 := by omega
  have hm : ms.length ≤ 1000 := by omega
  obtain ⟨i0, hi, hz0, hz1, hz2⟩ := info_parts Try.infoStr
  have HA := Lib.hid ha
  have HB := Lib.hid hb
  obtain ⟨a, cap, rfl, _, _, _, _⟩ := ha
  obtain ⟨a2, cap2, rfl, _, _, _, _⟩ := hb
  have HG := Lib.hid (grow_nil (ls.length + ms.length) (by omega))
  have K0 := Lib.hid k0
  have K1 := Lib.hid k1
  have hB := World.block_lt_of_cell? w _ k0
  simp only at hB
  go_enter Try.func68, Try.ntmps68
  go_wp2_with fail
  refine wp_loop_rounds 3 ?_
  rw [rounds_succ]
  go_wp2_with fail
  rw [rounds_succ]
  go_wp2_with fail
  rw [rounds_succ]
  go_wp2_with fail
  refine (HG.out _).mono ?_
  rintro e w1 ⟨v1, rfl, ho1, hb1⟩
  have HO1 := Lib.hid ho1
  have HB1 := Lib.hid hb1
  have k0 := cell_after K0.out hb1
  have k1 := cell_after K1.out hb1
  have hA1 := Lib.hid (texts_src (HA.out.later hb1))
  have hsz1 := hb1.size
  clear hb1 ho1
  go_wp2_with fail
  refine wp_loop_rounds 3 ?_
  rw [rounds_succ]
  go_wp2_with (at_builtin; go_must (refine wpList_append_texts rfl _ _ 38 rfl w.heap.size 9 i0 _ 16 Try.underlying38 hi hz0 hz1 hz2 rfl _ _ rfl (by exact HO1.out) a ls.length cap ls rfl rfl hA1.out.2.1 hA1.out.2.2 (by simp; omega) (by decide) hsz1 ?_))
  intro v2 w2 hown2 hb2
  have HB2 : Hid (Below w.heap.size w w2) := HB1.out.trans hb2
  have hsz2 : w.heap.size ≤ w2.heap.size := HB2.out.size
  have k1 := cell_after K1.out HB2.out
  have hA2 := Lib.hid (texts_src (HB.out.later HB2.out))
  have HO2 := Lib.hid hown2
  clear hb2 hown2 k0
  go_wp2_with fail
  rw [rounds_succ]
  go_wp2_with (at_builtin; go_must (refine wpList_append_texts rfl _ _ 38 rfl w.heap.size 9 i0 _ 16 Try.underlying38 hi hz0 hz1 hz2 rfl _ _ rfl (by exact HO2.out) a2 ms.length cap2 ms rfl rfl hA2.out.2.1 hA2.out.2.2 (by first | omega | (simp; omega)) (by decide) hsz2 ?_))
  intro v3 w3 hown3 hb3
  have HB3 : Hid (Below w.heap.size w w3) := HB2.out.trans hb3
  have HO3 := Lib.hid hown3
  clear hb3 hown3 k1
  go_wp2_with fail
  rw [rounds_succ]
  go_wp2_with fail
  go_ret
  exact ⟨_, rfl, by have := HO3.out; simpa using this, HB3.out⟩

theorem concat_any {w : World} {va vb : Value} {ls ms : List (List UInt8)} (ha : Texts w va ls) (hb : Texts w vb ms) (hl : ls.length ≤ 100) (hm : ms.length ≤ 100)
    (B : Nat) (k0 : w.cell? ⟨B, 0, none⟩ = some va) (k1 : w.cell? ⟨B, 1, none⟩ = some vb) :
    Calls Try.prog 68 #[.slice (some ⟨B, 0, none⟩) 2 2] w fun e w' => ∃ v, e = .returned v ∧ OwnT w' w.heap.size 9 v (ls ++ ms) ∧ Below w.heap.size w w' :=
  concat_sum ha hb (by omega) B k0 k1

end Go.Proofs.Ytlckphdmflofgaa
end

section
/-
  THE CONTRACT OF ident.Merge: the lists as one, sorted, each text once.
-/
namespace Go.Proofs.Ytlckphdmflofgaa
open Go.RowKit Go.Lib Go.Sort

theorem encS_cell : OneCell encS := fun _ => rfl

theorem eql_S : EqlAt Try.prog 9 encS (fun x y => decide (x = y)) :=
  ⟨fun x y w => by rw [show encS x = .string ⟨x.toArray⟩ from rfl, show encS y = .string ⟨y.toArray⟩ from rfl, (EqlAt.string Try.prog 9).1]; by_cases h : x = y <;> simp [h, ByteArray.toList_eq],
   fun op a b x y w => GuardAt.string Try.prog 9 op a b _ _ w⟩

theorem neq_S : NeqAt Try.prog 9 encS (fun x y => decide (x = y)) :=
  ⟨fun x y w => by rw [show encS x = .string ⟨x.toArray⟩ from rfl, show encS y = .string ⟨y.toArray⟩ from rfl, (NeqAt.string Try.prog 9).1]; by_cases h : x = y <;> simp [h, ByteArray.toList_eq],
   fun op a b x y w => GuardAt.string Try.prog 9 op a b _ _ w⟩

theorem compare_lays (blk off size : Nat) (w : World) : CmpLays1 Try.prog 70 #[] encS idCmp blk off size w :=
  fun m os dk _ x y => (compare_any x y (sortWorld encS w blk off m dk os)).mono fun _ _ ⟨he, o, hw⟩ => ⟨he, 0, #[o], by rw [hw, alloc_eq_grow]; rfl⟩

theorem below_grow {B : Nat} {w0 w : World} (h : Below B w0 w) (hB : B ≤ w.heap.size) (os : Array Obj) : Below B w0 (grow w os) :=
  ⟨h.os, h.tape, h.output, by have := h.size; simp only [grow, Array.size_append]; omega, fun k hk => by
    rw [← h.block k hk]
    simp only [grow]
    rw [Array.getElem?_append_left (by omega)]⟩

/-- The row behind the sort. -/
theorem sorted_row {w1 : World} {g n : Nat} {d d' : Array (List UInt8)} {os : Array Obj} (hH : Holds encS w1 g 0 d) (hg : g < w1.heap.size) (hd : d'.size = d.size) :
    Holds encS (sortWorld encS w1 g 0 n d' os) g 0 d' := by
  unfold sortWorld
  refine holds_grow encS _ os g 0 d' ?_ (holds_putRow encS _ g 0 d d' (holds_ahead encS w1 n g 0 d hH) hd)
  simpa [putRow, mapBlock, Sort.ahead] using hg

theorem sorted_below {B : Nat} {w0 w1 : World} {g n : Nat} {d' : Array (List UInt8)} {os : Array Obj} (h : Below B w0 w1) (hB : B ≤ w1.heap.size) (hg : B ≤ g) : Below B w0 (sortWorld encS w1 g 0 n d' os) := by
  unfold sortWorld
  refine below_grow (below_putRow h hg) ?_ os
  simpa [putRow, mapBlock, Sort.ahead] using hB

/-- The row behind Compact. -/
theorem compact_texts {w2 : World} {g q cap : Nat} {d : Array (List UInt8)} (hH : Holds encS w2 g 0 d) (hg : g < w2.heap.size) (hn : d.size ≤ cap) (hc : cap ≤ maxLen) {ls : List (List UInt8)} (hle : ls.length ≤ d.size) :
    Texts (putRow encS (Sort.ahead w2 q) g 0 (ls ++ List.replicate (d.size - ls.length) []).toArray) (.slice (some ⟨g, 0, none⟩) ls.length cap) ls := by
  refine ⟨some ⟨g, 0, none⟩, cap, rfl, by omega, hc, (fun e => by cases e), .inr ⟨g, 0, rfl, ?_, fun i hi => ?_⟩⟩
  · simpa [putRow, mapBlock, Sort.ahead] using hg
  · have h := holds_putRow encS (Sort.ahead w2 q) g 0 d (ls ++ List.replicate (d.size - ls.length) []).toArray (holds_ahead encS w2 q g 0 d hH) (by simp; omega)
    have h1 := (h i (by simp; omega)).1
    rw [h1]
    congr 2
    rw [getElem!_pos _ i (by simp; omega)]
    simp [List.getD, hi]

theorem compact_len (d : Array (List UInt8)) : (compactUpTo d d.size).length ≤ d.size := by
  unfold compactUpTo
  rw [List.length_map]
  exact Nat.le_trans (List.length_filter_le _ _) (by simp)

/-- A slice that lies at 'base' or behind it. -/
def LiesAt (base : Nat) (v : Value) : Prop := ∀ b o n c, v = .slice (some ⟨b, o, none⟩) n c → base ≤ b

theorem ownT_lies {w : World} {base e : Nat} {v : Value} {ls : List (List UInt8)} (h : OwnT w base e v ls) : LiesAt base v := by
  rintro b o n c rfl
  exact (World.ownsRow.lt h b rfl).1

set_option maxHeartbeats 1600000 in
set_option maxRecDepth 100000 in
theorem merge_at {w : World} {va vb : Value} {ls ms : List (List UInt8)} (ha : Texts w va ls) (hb : Texts w vb ms) (hl : ls.length ≤ 100) (hm : ms.length ≤ 100) :
    Calls Try.prog 51 #[va, vb] w fun e w' => ∃ v, e = .returned v ∧ Texts w' v (mrg (ls ++ ms)) ∧ LiesAt w.heap.size v ∧ Below w.heap.size w w' := by
  have eg : ∀ args w, (callFunc 70 args).run Try.prog w = .ok (.enter 70 args) w := enters_of Try.func70 (by kernel_rfl) rfl
  have hB0 : Below w.heap.size w (w.alloc (.cells #[va, vb] 38)) := (Below.refl _ _).alloc (Nat.le_refl _) _
  have HC := Lib.hid (concat_any (ha.later hB0) (hb.later hB0) hl hm w.heap.size (by simp) (by simp))
  have HB0 := Lib.hid hB0
  obtain ⟨a, cap, rfl, _, _, _, _⟩ := ha
  obtain ⟨a2, cap2, rfl, _, _, _, _⟩ := hb
  clear hB0
  go_enter Try.func51, Try.ntmps51
  go_wp2_with fail
  refine HC.out.mono ?_
  rintro e w1 ⟨v1, rfl, ho1, hb1⟩
  have HB1 := Lib.hid (below2' HB0.out hb1)
  have hsz1 : w.heap.size + 1 ≤ w1.heap.size := by have := hb1.size; simpa using this
  have HO1 := Lib.hid ho1
  clear hb1 ho1 HC HB0
  by_cases h0 : ls ++ ms = []
  · have hr : Hid (mrg (ls ++ ms) = []) := by show _ = _; rw [h0]; rfl
    obtain ⟨p, c, rfl, _⟩ : ∃ p c, v1 = .slice p 0 c ∧ True := by
      obtain ⟨p, c, e, _⟩ := HO1.out.texts
      rw [h0] at e
      exact ⟨p, c, e, trivial⟩
    have HT := Lib.hid HO1.out.texts
    have HLi := Lib.hid (ownT_lies HO1.out)
    have HS := Lib.hid (Try.slices_SortFunc_none (α := List UInt8) p c (.func (.func 70) #[] #[]) w1)
    have HK := Lib.hid (Try.slices_Compact_string_empty p c w1)
    have H0 := Lib.hid h0
    clear h0
    go_wp2_with fail
    refine HS.out.mono ?_
    rintro e w' ⟨rfl, rfl⟩
    go_wp2_with fail
    refine HK.out.mono ?_
    rintro e w' ⟨rfl, rfl⟩
    go_wp2_with fail
    go_ret
    exact ⟨_, rfl, by rw [hr.out]; have := HT.out; rw [H0.out] at this; exact this, fun b o n c e => Nat.le_trans (by simp) (HLi.out b o n c e), HB1.out⟩
  · have hv : v1 ≠ .slice none 0 0 := by
      intro e
      obtain ⟨p, c, e', _⟩ := HO1.out.texts
      rw [e'] at e
      simp only [Value.slice.injEq] at e
      exact h0 (List.length_eq_zero_iff.1 e.2.1)
    obtain ⟨g, c, rfl, hg1, hg2, hn, hc, _, hH⟩ := holds_of_ownsRow (zs := ls ++ ms) (HO1.out : World.ownsRow _ _ _ _ _ _ _) hv
    have hg1' : w.heap.size + 1 ≤ g := by simpa using hg1
    have HS := Lib.hid (Try.slices_SortFunc_total encS (fun _ => rfl) idCmp idSWO 70 #[] g 0 c (ls ++ ms).toArray w1 eg (compare_lays g 0 _ w1) hH hg2 (by simp; omega) idTot)
    have hlen : (ls ++ ms).length = ls.length + ms.length := List.length_append
    simp only [List.size_toArray, hlen] at HS
    have HH := Lib.hid hH
    rw [hlen] at hn
    clear eg hH hg1 hv h0 hlen
    go_wp2_with fail
    refine HS.out.mono ?_
    rintro e w2 ⟨rfl, nn, os, hw2⟩
    have hDl : Hid (Holds encS w2 g 0 ((ls ++ ms).mergeSort fun x y => !(ltOf idCmp) y x).toArray) := by
      show Holds _ _ _ _ _
      rw [hw2]
      exact sorted_row HH.out hg2 (by simp)
    have HB2 : Hid (Below w.heap.size w w2) := by
      show Below _ _ _
      rw [hw2]
      exact sorted_below HB1.out (by omega) (by omega)
    have hg3 : Hid (g < w2.heap.size) := by
      show g < _
      rw [hw2]
      simp only [sortWorld, grow, Array.size_append, putRow, mapBlock, Array.size_modify, Sort.ahead]
      omega
    have hsl : ((ls ++ ms).mergeSort fun x y => !(ltOf idCmp) y x).length = ls.length + ms.length := by simp
    obtain ⟨d, hd⟩ : ∃ d, d = ((ls ++ ms).mergeSort fun x y => !(ltOf idCmp) y x).toArray := ⟨_, rfl⟩
    have hds : d.size = ls.length + ms.length := by rw [hd]; simp
    have HM : Hid (compactUpTo d d.size = mrg (ls ++ ms)) := by show _ = _; rw [hd]; exact sort_compact _
    rw [← hd] at hDl
    have HK := Lib.hid (Try.slices_Compact encS encS_cell eql_S neq_S [] (fun _ => by kernel_rfl) g 0 c d w2 hDl.out (by omega) (by omega))
    have hcl := compact_len d
    rw [HM.out] at HK hcl
    rw [hds] at HK
    have HT : Hid (∀ q, Texts (putRow encS (Sort.ahead w2 q) g 0 (mrg (ls ++ ms) ++ List.replicate (d.size - (mrg (ls ++ ms)).length) []).toArray) (.slice (some ⟨g, 0, none⟩) (mrg (ls ++ ms)).length c) (mrg (ls ++ ms))) :=
      fun q => compact_texts hDl.out hg3.out (by omega) hc hcl
    rw [hds] at HT
    clear hw2 hd hds hsl HM HS hDl hcl HH
    obtain ⟨r, hr⟩ : ∃ r, mrg (ls ++ ms) = r := ⟨_, rfl⟩
    rw [hr] at HK HT
    have HR := Lib.hid hr
    clear hr
    go_wp2_with fail
    refine HK.out.mono ?_
    rintro e w3 ⟨rfl, q, hw3⟩
    have HT3 := HT.out q
    rw [← hw3] at HT3
    have HB3 : Hid (Below w.heap.size w w3) := by
      show Below _ _ _
      rw [hw3]
      exact below_putRow HB2.out (by omega)
    have HT3' := Lib.hid HT3
    clear hw3 HT3 HK HT
    go_wp2_with fail
    go_ret
    exact ⟨_, rfl, by rw [HR.out]; exact HT3'.out, fun b o n c e => (by injection e with e _ _; injection e with e; injection e with e _ _; omega), HB3.out⟩

end Go.Proofs.Ytlckphdmflofgaa
end

section
/-
  LAYER 13, THE CODE: who stands across from a user.
-/
namespace Go.Proofs.Ytlckphdmflofgaa
open Go.RowKit Go.ChangeMaps Go.MapKept

/-- Those across from a user in the first k of its list. -/
def otT (l : List Pr) (s : Bool) (k : Nat) : List (List UInt8) := (l.take k).map (pcOf (!s))

theorem otT_next {l : List Pr} {k : Nat} (hk : k < l.length) (s : Bool) {p : Pr} (hp : l.getD k ([], []) = p) : otT l s (k + 1) = otT l s k ++ [pcOf (!s) p] := by
  have e : l[k] = p := by rw [← hp, List.getD_eq_getElem?_getD, List.getElem?_eq_getElem hk]; rfl
  unfold otT
  rw [List.take_succ_eq_append_getElem hk, e, List.map_append]
  rfl

theorem otT_len (l : List Pr) (s : Bool) (k : Nat) : (otT l s k).length ≤ l.length := by
  unfold otT
  rw [List.length_map, List.length_take]
  omega

theorem otT_end {x : Ix} {L : List Pr} (h : IxHas x L) (s : Bool) (u : List UInt8) : mrg (otT (x.S s u) s (x.S s u).length ++ []) = ixSide L s u := by
  unfold otT
  rw [List.take_length, List.append_nil, side_of h]

set_option maxHeartbeats 3200000 in
set_option maxRecDepth 100000 in
theorem ixothers_w {w : World} {base xb N : Nat} {L : List Pr} {x : Ix} {mp m0 m1 : Nat} {f : Bool → List UInt8 → Option IxSl} (h : IxAt w base xb N L x mp m0 m1 f) (u : List UInt8) (hu : u.length ≤ 4294967296) (hl : (x.S false u).length ≤ 100) :
    Calls Try.prog 31 #[.pointer (some ⟨xb, 0, none⟩), .int .i64 0, .string ⟨u.toArray⟩] w fun e w' => ∃ v, e = .returned v ∧ Texts w' v (ixSide L false u) ∧ LiesAt w.heap.size v ∧ Below w.heap.size w w' := by
  obtain ⟨i0, hi, hz0, hz1, hz2⟩ := info_parts ix_infoTxt
  obtain ⟨c0, c1, c2⟩ := h.cells
  have hlook := (h.side false).look u hu
  have HE := Lib.hid (otT_end h.has false u)
  have hv := (h.list false u).rd prOK
  generalize hl0 : x.S false u = l at hv HE hl
  obtain ⟨a, cap, hsl, hll⟩ := hv.open'
  rw [hsl] at hlook hv
  simp only [sdOf, Bool.false_eq_true, if_false] at hlook
  have HV := Lib.hid hv
  clear h hv hsl
  go_enter Try.func31, Try.ntmps31
  go_wp2_with fail
  go_loopw [7, 21] (fun s i wr => ∃ k : Nat, k ≤ l.length ∧ i = .int .i64 k ∧ Hid (OwnT wr w.heap.size 9 s (otT l false k)) ∧ Hid (Below w.heap.size w wr)) (fun _ i _ => l.length - (intOf i).toNat)
  case atStart => exact ⟨0, by omega, rfl, World.ownsRow_nil _ _ _ _, Below.refl _ _⟩
  case round =>
    obtain ⟨k, hk, rfl, HO, HN⟩ := hrel
    by_cases hlt : k < l.length
    · obtain ⟨b, off, rfl, hc⟩ := HV.out.row HN.out k hlt
      have hX := fun p e => otT_next (p := p) hlt false e
      obtain ⟨y, hy⟩ : ∃ y, l.getD k ([], []) = y := ⟨_, rfl⟩
      rw [hy] at hc
      have hX := hX _ hy
      clear hy
      obtain ⟨y1, y2⟩ := y
      have x0 : wr.cell? ⟨b, off + k * 2, none⟩ = some (.string ⟨y1.toArray⟩) := hc 0 _ rfl
      have x1 : wr.cell? ⟨b, off + k * 2 + 1, none⟩ = some (.string ⟨y2.toArray⟩) := hc 1 _ rfl
      clear hc
      have hX : otT l false (k + 1) = otT l false k ++ [y2] := hX
      have HX := Lib.hid hX
      have hcl : (otT l false k).length ≤ 100 := Nat.le_trans (otT_len l false k) hl
      clear hX
      go_upto_region 7 with fail
      have hb1 := (MapKept.heap_alloc wr (.cells #[.string ⟨y1.toArray⟩, .string ⟨y2.toArray⟩] 57)).1
      have HO1 := Lib.hid (HO.out.alloc (.cells #[.string ⟨y1.toArray⟩, .string ⟨y2.toArray⟩] 57))
      have HN1 := Lib.hid (HN.out.alloc HN.out.size (.cells #[.string ⟨y1.toArray⟩, .string ⟨y2.toArray⟩] 57))
      clear x0 x1 HO
      generalize wr.alloc (.cells #[.string ⟨y1.toArray⟩, .string ⟨y2.toArray⟩] 57) = w1 at hb1 HO1 HN1 ⊢
      generalize wr.heap.size = pb at hb1 ⊢
      have z0 : w1.cell? ⟨pb, 0, none⟩ = some (.string ⟨y1.toArray⟩) := by simp [World.cell?, hb1]
      have z1 : w1.cell? ⟨pb, 1, none⟩ = some (.string ⟨y2.toArray⟩) := by simp [World.cell?, hb1]
      have O2 := Lib.hid (HO1.out.alloc (.cells #[.string ⟨y2.toArray⟩] 9))
      have N2 := Lib.hid (HN1.out.alloc HN1.out.size (.cells #[.string ⟨y2.toArray⟩] 9))
      have hz3 := N2.out.size
      clear hb1 HO1 HN
      go_wp2_with (at_builtin; go_must (refine wpList_append_texts rfl _ _ 38 rfl w.heap.size 9 i0 _ 16 Try.underlying38 hi hz0 hz1 hz2 rfl _ (otT l false k) rfl (by exact O2.out) _ 1 1 [y2] rfl rfl (fun e => nomatch e) ?c1 (by simp only [List.length_cons, List.length_nil]; omega) (by decide) hz3 ?_))
      case c1 => exact ix_new1
      intro v' w' hown' hb'
      rw [← HX.out] at hown'
      have O3 := Lib.hid hown'
      have N4 := Lib.hid (N2.out.trans hb')
      clear hown' hb' O2 z0 z1
      go_wp2_with fail
      go_roundw
      case rel => exact ⟨k + 1, by omega, by go_num, O3, N4⟩
      case measure => simp [intOf]; omega
    · obtain rfl : k = l.length := by omega
      have HT := HO
      have hlen : (otT l false l.length).length ≤ 100 := Nat.le_trans (otT_len l false _) hl
      clear HO
      go_wp2_with fail
      refine (merge_at HT.out.texts (texts_nil _) hlen (by simp)).mono ?_
      rintro e w1 ⟨v, rfl, ht1, hli, b1⟩
      rw [HE.out] at ht1
      have N3 := Lib.hid (below2Z HN.out b1)
      have HT1 := Lib.hid ht1
      have HLi : Hid (LiesAt w.heap.size v) := fun b o n c e => Nat.le_trans HN.out.size (hli b o n c e)
      clear b1 ht1 hli
      go_wp2_with fail
      go_ret
      exact ⟨_, rfl, HT1.out, HLi.out, N3.out⟩

set_option maxHeartbeats 3200000 in
set_option maxRecDepth 100000 in
theorem ixothers_c {w : World} {base xb N : Nat} {L : List Pr} {x : Ix} {mp m0 m1 : Nat} {f : Bool → List UInt8 → Option IxSl} (h : IxAt w base xb N L x mp m0 m1 f) (u : List UInt8) (hu : u.length ≤ 4294967296) (hl : (x.S true u).length ≤ 100) :
    Calls Try.prog 31 #[.pointer (some ⟨xb, 0, none⟩), .int .i64 1, .string ⟨u.toArray⟩] w fun e w' => ∃ v, e = .returned v ∧ Texts w' v (ixSide L true u) ∧ LiesAt w.heap.size v ∧ Below w.heap.size w w' := by
  obtain ⟨i0, hi, hz0, hz1, hz2⟩ := info_parts ix_infoTxt
  obtain ⟨c0, c1, c2⟩ := h.cells
  have hlook := (h.side true).look u hu
  have HE := Lib.hid (otT_end h.has true u)
  have hv := (h.list true u).rd prOK
  generalize hl0 : x.S true u = l at hv HE hl
  obtain ⟨a, cap, hsl, hll⟩ := hv.open'
  rw [hsl] at hlook hv
  simp only [sdOf, if_true] at hlook
  have HV := Lib.hid hv
  clear h hv hsl
  go_enter Try.func31, Try.ntmps31
  go_wp2_with fail
  go_loopw [7, 21] (fun s i wr => ∃ k : Nat, k ≤ l.length ∧ i = .int .i64 k ∧ Hid (OwnT wr w.heap.size 9 s (otT l true k)) ∧ Hid (Below w.heap.size w wr)) (fun _ i _ => l.length - (intOf i).toNat)
  case atStart => exact ⟨0, by omega, rfl, World.ownsRow_nil _ _ _ _, Below.refl _ _⟩
  case round =>
    obtain ⟨k, hk, rfl, HO, HN⟩ := hrel
    by_cases hlt : k < l.length
    · obtain ⟨b, off, rfl, hc⟩ := HV.out.row HN.out k hlt
      have hX := fun p e => otT_next (p := p) hlt true e
      obtain ⟨y, hy⟩ : ∃ y, l.getD k ([], []) = y := ⟨_, rfl⟩
      rw [hy] at hc
      have hX := hX _ hy
      clear hy
      obtain ⟨y1, y2⟩ := y
      have x0 : wr.cell? ⟨b, off + k * 2, none⟩ = some (.string ⟨y1.toArray⟩) := hc 0 _ rfl
      have x1 : wr.cell? ⟨b, off + k * 2 + 1, none⟩ = some (.string ⟨y2.toArray⟩) := hc 1 _ rfl
      clear hc
      have hX : otT l true (k + 1) = otT l true k ++ [y1] := hX
      have HX := Lib.hid hX
      have hcl : (otT l true k).length ≤ 100 := Nat.le_trans (otT_len l true k) hl
      clear hX
      go_upto_region 7 with fail
      have hb1 := (MapKept.heap_alloc wr (.cells #[.string ⟨y1.toArray⟩, .string ⟨y2.toArray⟩] 57)).1
      have HO1 := Lib.hid (HO.out.alloc (.cells #[.string ⟨y1.toArray⟩, .string ⟨y2.toArray⟩] 57))
      have HN1 := Lib.hid (HN.out.alloc HN.out.size (.cells #[.string ⟨y1.toArray⟩, .string ⟨y2.toArray⟩] 57))
      clear x0 x1 HO
      generalize wr.alloc (.cells #[.string ⟨y1.toArray⟩, .string ⟨y2.toArray⟩] 57) = w1 at hb1 HO1 HN1 ⊢
      generalize wr.heap.size = pb at hb1 ⊢
      have z0 : w1.cell? ⟨pb, 0, none⟩ = some (.string ⟨y1.toArray⟩) := by simp [World.cell?, hb1]
      have z1 : w1.cell? ⟨pb, 1, none⟩ = some (.string ⟨y2.toArray⟩) := by simp [World.cell?, hb1]
      have O2 := Lib.hid (HO1.out.alloc (.cells #[.string ⟨y1.toArray⟩] 9))
      have N2 := Lib.hid (HN1.out.alloc HN1.out.size (.cells #[.string ⟨y1.toArray⟩] 9))
      have hz3 := N2.out.size
      clear hb1 HO1 HN
      go_wp2_with (at_builtin; go_must (refine wpList_append_texts rfl _ _ 38 rfl w.heap.size 9 i0 _ 16 Try.underlying38 hi hz0 hz1 hz2 rfl _ (otT l true k) rfl (by exact O2.out) _ 1 1 [y1] rfl rfl (fun e => nomatch e) ?c1 (by simp only [List.length_cons, List.length_nil]; omega) (by decide) hz3 ?_))
      case c1 => exact ix_new1
      intro v' w' hown' hb'
      rw [← HX.out] at hown'
      have O3 := Lib.hid hown'
      have N4 := Lib.hid (N2.out.trans hb')
      clear hown' hb' O2 z0 z1
      go_wp2_with fail
      go_roundw
      case rel => exact ⟨k + 1, by omega, by go_num, O3, N4⟩
      case measure => simp [intOf]; omega
    · obtain rfl : k = l.length := by omega
      have HT := HO
      have hlen : (otT l true l.length).length ≤ 100 := Nat.le_trans (otT_len l true _) hl
      clear HO
      go_wp2_with fail
      refine (merge_at HT.out.texts (texts_nil _) hlen (by simp)).mono ?_
      rintro e w1 ⟨v, rfl, ht1, hli, b1⟩
      rw [HE.out] at ht1
      have N3 := Lib.hid (below2Z HN.out b1)
      have HT1 := Lib.hid ht1
      have HLi : Hid (LiesAt w.heap.size v) := fun b o n c e => Nat.le_trans HN.out.size (hli b o n c e)
      clear b1 ht1 hli
      go_wp2_with fail
      go_ret
      exact ⟨_, rfl, HT1.out, HLi.out, N3.out⟩

theorem ixwatch_any {w : World} {base xb N : Nat} {L : List Pr} {x : Ix} {mp m0 m1 : Nat} {f : Bool → List UInt8 → Option IxSl} (h : IxAt w base xb N L x mp m0 m1 f) (u : List UInt8) (hu : u.length ≤ 4294967296) (hl : (x.S true u).length ≤ 100) :
    Calls Try.prog 20 #[.pointer (some ⟨xb, 0, none⟩), .string ⟨u.toArray⟩] w fun e w' => ∃ v, e = .returned v ∧ Texts w' v (ixSide L true u) ∧ LiesAt w.heap.size v ∧ Below w.heap.size w w' := by
  have H := Lib.hid (ixothers_c h u hu hl)
  clear h
  go_enter Try.func20, Try.ntmps20
  go_wp2_with fail
  refine H.out.mono ?_
  rintro e w1 ⟨v, rfl, ht1, hli, b1⟩
  go_wp2_with fail
  go_ret
  exact ⟨_, rfl, ht1, hli, b1⟩

theorem ixcont_any {w : World} {base xb N : Nat} {L : List Pr} {x : Ix} {mp m0 m1 : Nat} {f : Bool → List UInt8 → Option IxSl} (h : IxAt w base xb N L x mp m0 m1 f) (u : List UInt8) (hu : u.length ≤ 4294967296) (hl : (x.S false u).length ≤ 100) :
    Calls Try.prog 22 #[.pointer (some ⟨xb, 0, none⟩), .string ⟨u.toArray⟩] w fun e w' => ∃ v, e = .returned v ∧ Texts w' v (ixSide L false u) ∧ LiesAt w.heap.size v ∧ Below w.heap.size w w' := by
  have H := Lib.hid (ixothers_w h u hu hl)
  clear h
  go_enter Try.func22, Try.ntmps22
  go_wp2_with fail
  refine H.out.mono ?_
  rintro e w1 ⟨v, rfl, ht1, hli, b1⟩
  go_wp2_with fail
  go_ret
  exact ⟨_, rfl, ht1, hli, b1⟩

end Go.Proofs.Ytlckphdmflofgaa
end

section
/-
  AN INDEX, AS THE STATEMENTS OF LAYER 13 MEET IT: its pairs, its blocks, and how often it may still be turned.
-/
namespace Go.Proofs.Ytlckphdmflofgaa
open Go.RowKit Go.ChangeMaps Go.MapKept

/-- Block xb is an Index of the pairs L; F are its blocks. -/
def IxB (w : World) (base xb K : Nat) (L : List Pr) (F : Nat → Prop) : Prop :=
  ∃ N x mp m0 m1 f, IxAt w base xb N L x mp m0 m1 f ∧ N + 8 * L.length ≤ K ∧ F = IxFoot xb mp m0 m1 f

variable {w w' : World} {base xb K : Nat} {L : List Pr} {F G G' : Nat → Prop}

theorem IxB.lt (h : IxB w base xb K L F) {b : Nat} (hb : F b) : b < w.heap.size := by
  obtain ⟨N, x, mp, m0, m1, f, h1, -, rfl⟩ := h
  exact Nat.lt_of_not_le fun hle => h1.raw.far hle hb

theorem IxB.low (h : IxB w base xb K L F) {b : Nat} (hb : F b) : base ≤ b := by
  obtain ⟨N, x, mp, m0, m1, f, h1, -, rfl⟩ := h
  exact h1.raw.foot_low hb

theorem IxB.stay (h : IxB w base xb K L F) (hk : ∀ b, F b → w'.heap[b]? = w.heap[b]?) : IxB w' base xb K L F := by
  obtain ⟨N, x, mp, m0, m1, f, h1, h2, rfl⟩ := h
  exact ⟨N, x, mp, m0, m1, f, (h1.raw.stay hk).at rfl h1.has h1.short, h2, rfl⟩

theorem IxB.later (h : IxB w base xb K L F) (hb : Below w.heap.size w w') : IxB w' base xb K L F := h.stay fun b hf => hb.block b (h.lt hf)

/-- Another one was turned. -/
theorem IxB.beside (h : IxB w base xb K L F) (ht : Turned w w' G G') (hd : ∀ b, F b → ¬ G b) : IxB w' base xb K L F := h.stay fun b hf => ht.2.1 b (h.lt hf) (hd b hf)

theorem IxB.low' {base' : Nat} (h : IxB w base xb K L F) (hb : base' ≤ base) : IxB w base' xb K L F := by
  obtain ⟨N, x, mp, m0, m1, f, h1, h2, rfl⟩ := h
  refine ⟨N, x, mp, m0, m1, f, { h1 with low := ⟨Nat.le_trans hb h1.low.1, Nat.le_trans hb h1.low.2.1, Nat.le_trans hb h1.low.2.2.1, Nat.le_trans hb h1.low.2.2.2⟩, list := fun s u => ownS_low (h1.list s u) hb }, h2, rfl⟩

theorem IxB.more {M : Nat} (h : IxB w base xb K L F) (hm : K ≤ M) : IxB w base xb M L F := by
  obtain ⟨N, x, mp, m0, m1, f, h1, h2, rfl⟩ := h
  exact ⟨N, x, mp, m0, m1, f, h1, by omega, rfl⟩

theorem IxB.baseLe (h : IxB w base xb K L F) : base ≤ w.heap.size := by
  obtain ⟨N, x, mp, m0, m1, f, h1, h2, rfl⟩ := h
  exact Nat.le_trans h1.low.1 (Nat.le_of_lt h1.lt)

theorem IxB.nd (h : IxB w base xb K L F) : L.Nodup := by
  obtain ⟨N, x, mp, m0, m1, f, h1, h2, rfl⟩ := h
  exact h1.has.nd

theorem IxB.short (h : IxB w base xb K L F) : ∀ p ∈ L, p.1.length ≤ 60 ∧ p.2.length ≤ 60 := by
  obtain ⟨N, x, mp, m0, m1, f, h1, h2, rfl⟩ := h
  exact h1.short

theorem ixb_new (w : World) : Calls Try.prog 11 #[] w fun e w' => ∃ xb F, e = .returned (.pointer (some ⟨xb, 0, none⟩)) ∧ IxB w' w.heap.size xb 0 [] F ∧ Below w.heap.size w w' :=
  (ixnew_any w 0).mono fun _ _ ⟨xb, h1, h2, h3⟩ => ⟨xb, _, h1, ⟨0, _, _, _, _, _, h2, by simp, rfl⟩, h3⟩

theorem ixb_set (h : IxB w base xb K L F) (hK : K ≤ 99000) (u v : List UInt8) (hu : u.length ≤ 60) (hv : v.length ≤ 60) (hl : L.length ≤ 1000) (on : Bool) {L' : List Pr} {r : Bool} (hs : ixSet L (u, v) on = (L', r)) :
    Calls Try.prog 12 #[.pointer (some ⟨xb, 0, none⟩), .string ⟨u.toArray⟩, .string ⟨v.toArray⟩, .bool on] w fun e w' =>
      ∃ F', e = .returned (.bool r) ∧ IxB w' base xb (K + 12) L' F' ∧ Below base w w' ∧ Turned w w' F F' := by
  obtain ⟨N, x, mp, m0, m1, f, h1, h2, rfl⟩ := h
  refine (ixset_any h1 (by omega) u v hu hv hl on hs).mono ?_
  rintro e w' ⟨x', f', he, h3, h4, h5⟩
  refine ⟨_, he, ⟨_, x', mp, m0, m1, f', h3, ?_, rfl⟩, h4, h5⟩
  have hlen : L'.length ≤ L.length + 1 := by
    have := congrArg Prod.fst hs
    unfold ixSet at this
    subst this
    split
    · simp
    · split
      · simp
      · exact Nat.le_succ_of_le (List.length_filter_le _ _)
  omega

theorem ixb_forget (h : IxB w base xb K L F) (hK : K ≤ 99000) (u : List UInt8) (hu : u.length ≤ 60) (hl : L.length ≤ 1000) :
    Calls Try.prog 16 #[.pointer (some ⟨xb, 0, none⟩), .string ⟨u.toArray⟩] w fun e w' =>
      ∃ F', e = .returned (.int .i64 ((L.length : Int) - (ixForget L u).length)) ∧ IxB w' base xb K (ixForget L u) F' ∧ Below base w w' ∧ Turned w w' F F' := by
  obtain ⟨N, x, mp, m0, m1, f, h1, h2, rfl⟩ := h
  refine (ixforget_any h1 (by omega) hl u hu).mono ?_
  rintro e w' ⟨M, x', f', he, hM, h3, h4, h5⟩
  refine ⟨_, he, ⟨_, x', mp, m0, m1, f', h3, ?_, rfl⟩, h4, h5⟩
  have : (ixForget L u).length ≤ L.length := List.length_filter_le _ _
  omega

theorem ixb_has (h : IxB w base xb K L F) (u v : List UInt8) (hu : u.length ≤ 60) (hv : v.length ≤ 60) {q : Bool} (hq : ixHas L (u, v) = q) :
    Calls Try.prog 14 #[.pointer (some ⟨xb, 0, none⟩), .string ⟨u.toArray⟩, .string ⟨v.toArray⟩] w fun e w' => e = .returned (.bool q) ∧ Below w.heap.size w w' := by
  obtain ⟨N, x, mp, m0, m1, f, h1, h2, rfl⟩ := h
  exact ixhas_any h1 u v (by omega) (by omega) hq

theorem ixb_len (h : IxB w base xb K L F) : Calls Try.prog 18 #[.pointer (some ⟨xb, 0, none⟩)] w fun e w' => e = .returned (.int .i64 L.length) ∧ w = w' := by
  obtain ⟨N, x, mp, m0, m1, f, h1, h2, rfl⟩ := h
  exact ixlen_any h1

theorem ixb_watch (h : IxB w base xb K L F) (u : List UInt8) (hu : u.length ≤ 60) (hl : L.length ≤ 100) {ls : List (List UInt8)} (hs : ixSide L true u = ls) :
    Calls Try.prog 20 #[.pointer (some ⟨xb, 0, none⟩), .string ⟨u.toArray⟩] w fun e w' => ∃ v, e = .returned v ∧ (Texts w' v ls ∧ LiesAt w.heap.size v) ∧ Below w.heap.size w w' := by
  obtain ⟨N, x, mp, m0, m1, f, h1, h2, rfl⟩ := h
  refine (ixwatch_any h1 u (by omega) (Nat.le_trans (side_len h1.has true u) hl)).mono ?_
  rintro e w' ⟨v, he, h3, h4, h5⟩
  rw [hs] at h3
  exact ⟨v, he, ⟨h3, h4⟩, h5⟩

theorem ixb_cont (h : IxB w base xb K L F) (u : List UInt8) (hu : u.length ≤ 60) (hl : L.length ≤ 100) {ls : List (List UInt8)} (hs : ixSide L false u = ls) :
    Calls Try.prog 22 #[.pointer (some ⟨xb, 0, none⟩), .string ⟨u.toArray⟩] w fun e w' => ∃ v, e = .returned v ∧ (Texts w' v ls ∧ LiesAt w.heap.size v) ∧ Below w.heap.size w w' := by
  obtain ⟨N, x, mp, m0, m1, f, h1, h2, rfl⟩ := h
  refine (ixcont_any h1 u (by omega) (Nat.le_trans (side_len h1.has false u) hl)).mono ?_
  rintro e w' ⟨v, he, h3, h4, h5⟩
  rw [hs] at h3
  exact ⟨v, he, ⟨h3, h4⟩, h5⟩

end Go.Proofs.Ytlckphdmflofgaa
end

section
/-
  THE CONTRACTS OF ident.Is (with isLetter, isInner), Put, Take AND OF THE DOCUMENT'S ANSWERS TO THEM.
-/
namespace Go.Proofs.Ytlckphdmflofgaa
open Go.RowKit

def runeLc (r : Int) : Bool := decide (97 ≤ r) && decide (r ≤ 122)
def runeIn (r : Int) : Bool := (decide (48 ≤ r) && decide (r ≤ 57)) || decide (r = 45)

end Go.Proofs.Ytlckphdmflofgaa
end

section
/-
  THE CONTRACT OF ident.Fold (with small): a Builder, written in a range over a string.
-/
namespace Go.Proofs.Ytlckphdmflofgaa
open Go.RowKit Go.Lib

def smallR (r : Int) : Int := if 65 ≤ r ∧ r ≤ 90 then r + 32 else r

/-- Where the folding of l stands: at pos; acc is what is written. -/
def FoldAt (l : List UInt8) (pos : Nat) (acc : List UInt8) : Prop :=
  (pos ≤ l.length ∧ acc = idLow (l.take pos)) ∨ ((∃ b ∈ acc, 128 ≤ b.toNat) ∧ ∃ b ∈ l, 128 ≤ b.toNat)

end Go.Proofs.Ytlckphdmflofgaa
end

section
/-
  THE CONTRACTS OF ident.Put AND ident.Take.
-/
namespace Go.Proofs.Ytlckphdmflofgaa
open Go.RowKit

end Go.Proofs.Ytlckphdmflofgaa
end

section
/-
  A TEXT TURNED INTO A NEW ROW OF BYTES: what is known of the world behind it. Over any program.
-/
namespace Go.Proofs.Ytlckphdmflofgaa
open Go.RowKit

end Go.Proofs.Ytlckphdmflofgaa
end

section
/-
  THE CONTRACTS OF THE DOCUMENT'S ANSWERS Is, Fold, Put, Take OF LAYER 3.
-/
namespace Go.Proofs.Ytlckphdmflofgaa
open Go.RowKit

/-- l, folded up to k. -/
def lowAt (l : List UInt8) (k : Nat) : List UInt8 := idLow (l.take k) ++ l.drop k

/-- A row of bytes in memory that may be written. -/
def RowB (w : World) (B : Nat) (u : List UInt8) : Prop := ∀ j, j < u.length → w.cell? ⟨B, j, none⟩ = some (.int .u8 (u.getD j 0).toNat) ∧ w.frozen? ⟨B, j, none⟩ = false

theorem RowB.drew {w : World} {B : Nat} {u : List UInt8} (h : RowB w B u) : RowB w.drew B u := h

theorem RowB.set {w : World} {B : Nat} {u : List UInt8} (h : RowB w B u) (j : Nat) (b : UInt8) (hj : j < u.length) : RowB (w.setCell ⟨B, j, none⟩ (.int .u8 b.toNat)) B (u.set j b) := by
  intro i hi
  have hi' : i < u.length := by simpa using hi
  refine ⟨?_, (World.frozen?_setCell w _ _ _).trans (h i hi').2⟩
  by_cases hij : i = j
  · subst hij
    rw [World.cell?_setCell_same _ _ _ (h i hj).1]
    simp [List.getD, hj]
  · rw [World.cell?_setCell_other _ _ _ _ (by simp), (h i hi').1]
    simp [List.getD, show ¬ j = i by omega]

end Go.Proofs.Ytlckphdmflofgaa
end

section
/-
  THE CONTRACT OF live OF LAYER 3's STATEMENTS: it returns true.
-/
namespace Go.Proofs.Ytlckphdmflofgaa
open Go.RowKit

/-- A row of texts that is built with what it holds. -/
theorem texts_made (w : World) (T : TypeId) (B : Nat) (hB : B = w.heap.size) (ls : List (List UInt8)) (hl : ls.length ≤ 100) (A : Array Value) (hA : A = (ls.map encS).toArray) (n : Nat) (hn : n = ls.length) :
    Texts (w.alloc (.cells A T)) (.slice (some ⟨B, 0, none⟩) n n) ls := by
  subst hB hA hn
  refine ⟨_, _, rfl, Nat.le_refl _, by unfold maxLen; omega, (fun e => by cases e), .inr ⟨_, _, rfl, by simp, fun i hi => ?_⟩⟩
  rw [World.cell?_alloc_at _ _ _ _ rfl, Nat.zero_add]
  simp [List.getD, List.getElem?_eq_getElem hi]

theorem i1 : Hid (idFold [65, 110, 110, 45, 50] = ([97, 110, 110, 45, 50], true)) := by show _ = _; decide +kernel
end Go.Proofs.Ytlckphdmflofgaa
end

section
/-
  THE CONTRACT OF live OF LAYER 13's STATEMENTS: it returns true.
-/
namespace Go.Proofs.Ytlckphdmflofgaa
open Go.RowKit Go.ChangeMaps Go.MapKept

/-- Texts beside an Index's blocks. -/
def TxOff (w : World) (v : Value) (ls : List (List UInt8)) (F : Nat → Prop) : Prop := Texts w v ls ∧ (ls = [] ∨ ∀ b o n c, v = .slice (some ⟨b, o, none⟩) n c → ¬ F b)

theorem TxOff.later {w w' : World} {v : Value} {ls : List (List UInt8)} {F : Nat → Prop} (h : TxOff w v ls F) (hb : Below w.heap.size w w') : TxOff w' v ls F := ⟨h.1.later hb, h.2⟩

theorem txOff_of {w w' : World} {v : Value} {ls : List (List UInt8)} {base xb K : Nat} {L : List Pr} {F : Nat → Prop} (h : Texts w' v ls) (hv : LiesAt w.heap.size v) (hx : IxB w base xb K L F) : TxOff w' v ls F :=
  ⟨h, .inr fun b o n c e hf => by have := hx.lt hf; have := hv b o n c e; omega⟩

theorem TxOff.turned {w w' : World} {v : Value} {ls : List (List UInt8)} {F G : Nat → Prop} (h : TxOff w v ls F) (ht : Turned w w' F G) : TxOff w' v ls G := by
  obtain ⟨⟨a, cap, h1, h2, h3, h4, h5⟩, hf⟩ := h
  rcases h5 with h5 | ⟨b, off, e, hlt, hc⟩
  · exact ⟨⟨a, cap, h1, h2, h3, h4, .inl h5⟩, .inl h5⟩
  · rcases hf with hf | hf
    · exact ⟨⟨a, cap, h1, h2, h3, h4, .inl hf⟩, .inl hf⟩
    have hnf := hf b off ls.length cap (by rw [h1, e])
    have he := ht.2.1 b hlt hnf
    refine ⟨⟨a, cap, h1, h2, h3, h4, .inr ⟨b, off, e, Nat.lt_of_lt_of_le hlt ht.1, fun i hi => (World.cell?_of_block (a := ⟨b, off + i, none⟩) he).trans (hc i hi)⟩⟩, .inr fun b' o n c e' hg => ?_⟩
    rw [h1, e] at e'
    injection e' with e' _ _
    injection e' with e'
    injection e' with e' _ _
    subst e'
    rcases ht.2.2 b hg with a | a
    · exact hnf a
    · omega

set_option maxHeartbeats 3200000 in
set_option maxRecDepth 1000000 in
theorem live13 (w : World) : Calls Try.prog 10 #[] w fun e w' => e = .returned (.bool true) ∧ Below w.heap.size w w' := by
  go_enter Try.func10, Try.ntmps10
  go_wp2_with fail
  refine (ixb_new w).mono ?_
  rintro e w1 ⟨xb, F1, rfl, h, b⟩
  have HB := Lib.hid b
  have H := Lib.hid h
  clear h b
  go_wp2_with fail
  refine (ixb_set H.out (by omega) [99] [98] (by decide) (by decide) (by decide) true (L' := [([99], [98])]) (r := true) (by decide +kernel)).mono ?_
  rintro e w2 ⟨F2, rfl, h, b, t⟩
  replace H := Lib.hid h
  replace HB := Lib.hid (HB.out.trans b)
  clear h b t
  go_wp2_with fail
  refine (ixb_set H.out (by omega) [97] [98] (by decide) (by decide) (by decide) true (L' := [([99], [98]), ([97], [98])]) (r := true) (by decide +kernel)).mono ?_
  rintro e w3 ⟨F3, rfl, h, b, t⟩
  replace H := Lib.hid h
  replace HB := Lib.hid (HB.out.trans b)
  clear h b t
  go_wp2_with fail
  refine (ixb_set H.out (by omega) [97] [98] (by decide) (by decide) (by decide) true (L' := [([99], [98]), ([97], [98])]) (r := false) (by decide +kernel)).mono ?_
  rintro e w4 ⟨F4, rfl, h, b, t⟩
  replace H := Lib.hid h
  replace HB := Lib.hid (HB.out.trans b)
  clear h b t
  go_wp2_with fail
  refine (ixb_set H.out (by omega) [97] [97] (by decide) (by decide) (by decide) true (L' := [([99], [98]), ([97], [98]), ([97], [97])]) (r := true) (by decide +kernel)).mono ?_
  rintro e w5 ⟨F5, rfl, h, b, t⟩
  replace H := Lib.hid h
  replace HB := Lib.hid (HB.out.trans b)
  clear h b t
  go_wp2_with fail
  refine (ixb_watch H.out [98] (by decide) (by decide) (ls := [[97], [99]]) (by decide +kernel)).mono ?_
  rintro e w6 ⟨vp, rfl, ⟨h1, h2⟩, b⟩
  have Tp := Lib.hid (txOff_of h1 h2 H.out)
  replace H := Lib.hid (H.out.later b)
  replace HB := Lib.hid (below2Z HB.out b)
  clear h1 h2 b
  go_wp2_with fail
  refine (ixb_cont H.out [97] (by decide) (by decide) (ls := [[97], [98]]) (by decide +kernel)).mono ?_
  rintro e w7 ⟨vq, rfl, ⟨h1, h2⟩, b⟩
  replace Tp := Lib.hid (Tp.out.later b)
  have Tq := Lib.hid (txOff_of h1 h2 H.out)
  replace H := Lib.hid (H.out.later b)
  replace HB := Lib.hid (below2Z HB.out b)
  clear h1 h2 b
  go_wp2_with fail
  refine (ixb_len H.out).mono ?_
  rintro e w99 ⟨rfl, rfl⟩
  go_wp2_with fail
  refine (ixb_set H.out (by omega) [99] [98] (by decide) (by decide) (by decide) false (L' := [([97], [98]), ([97], [97])]) (r := true) (by decide +kernel)).mono ?_
  rintro e w8 ⟨F8, rfl, h, b, t⟩
  replace Tp := Lib.hid (Tp.out.turned t)
  replace Tq := Lib.hid (Tq.out.turned t)
  replace H := Lib.hid h
  replace HB := Lib.hid (HB.out.trans b)
  clear h b t
  go_wp2_with fail
  refine (ixb_set H.out (by omega) [99] [98] (by decide) (by decide) (by decide) false (L' := [([97], [98]), ([97], [97])]) (r := false) (by decide +kernel)).mono ?_
  rintro e w9 ⟨F9, rfl, h, b, t⟩
  replace Tp := Lib.hid (Tp.out.turned t)
  replace Tq := Lib.hid (Tq.out.turned t)
  replace H := Lib.hid h
  replace HB := Lib.hid (HB.out.trans b)
  clear h b t
  go_wp2_with fail
  refine (ixb_forget H.out (by omega) [97] (by decide) (by decide)).mono ?_
  rintro e w10 ⟨F10, rfl, h, b, t⟩
  rw [show ixForget [([97], [98]), ([97], [97])] [97] = [] from by decide +kernel] at h ⊢
  replace Tp := Lib.hid (Tp.out.turned t)
  replace Tq := Lib.hid (Tq.out.turned t)
  replace H := Lib.hid h
  replace HB := Lib.hid (HB.out.trans b)
  clear h b t
  go_wp2_with fail
  have bb := bl_newZ w10 (.cells #[.string ⟨#[97]⟩, .string ⟨#[99]⟩] 9)
  refine (same_yes (ls := [[97], [99]]) (Tp.out.1.later bb) (texts_made w10 _ _ rfl _ (by decide) _ rfl _ rfl) (by decide)).mono ?_
  rintro e w11 ⟨rfl, b⟩
  replace b := below2Z bb b
  replace Tp := Lib.hid (Tp.out.later b)
  replace Tq := Lib.hid (Tq.out.later b)
  replace H := Lib.hid (H.out.later b)
  replace HB := Lib.hid (below2Z HB.out b)
  clear b bb
  go_wp2_with fail
  have bb := bl_newZ w11 (.cells #[.string ⟨#[97]⟩, .string ⟨#[98]⟩] 9)
  refine (same_yes (ls := [[97], [98]]) (Tq.out.1.later bb) (texts_made w11 _ _ rfl _ (by decide) _ rfl _ rfl) (by decide)).mono ?_
  rintro e w12 ⟨rfl, b⟩
  replace b := below2Z bb b
  replace Tp := Lib.hid (Tp.out.later b)
  replace Tq := Lib.hid (Tq.out.later b)
  replace H := Lib.hid (H.out.later b)
  replace HB := Lib.hid (below2Z HB.out b)
  clear b bb
  go_wp2_with fail
  refine (ixb_len H.out).mono ?_
  rintro e w99 ⟨rfl, rfl⟩
  go_wp2_with fail
  refine (ixb_has H.out [97] [98] (by decide) (by decide) (q := false) (by decide +kernel)).mono ?_
  rintro e w13 ⟨rfl, b⟩
  replace HB := Lib.hid (below2Z HB.out b)
  clear b
  go_wp2_with fail
  go_ret
  exact ⟨rfl, HB.out⟩

end Go.Proofs.Ytlckphdmflofgaa
end
