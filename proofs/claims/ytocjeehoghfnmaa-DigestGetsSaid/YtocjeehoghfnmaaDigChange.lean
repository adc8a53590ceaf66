/-
  THE CONTRACT OF digest.Changes.
-/
import Derived.Test.YtocjeehoghfnmaaDigChgs
namespace Go.Proofs.Ytocjeehoghfnmaa
open Go.RowKit

theorem firstRow_v (t : List Row) (x : List UInt8) : (firstRow t x).v = (diGet t x).1 := by
  unfold firstRow
  rcases diGet_zero t x with h | h
  · rw [if_pos h]
  · rw [h]; rfl

/-- Is there a change? What the code asks. -/
theorem gSame_rows (a b : List Row) (x : List UInt8) (h : (diGet a x).2 = (diGet b x).2) : gSame (diGet a x) (diGet b x) = rSame (firstRow a x) (firstRow b x) := by
  rw [Bool.eq_iff_iff, gSame_iff, rSame_iff]
  unfold firstRow
  constructor
  · intro e; rw [e]
  · intro e
    cases hb : (diGet b x).2 with
    | true =>
      rw [hb] at h
      rw [if_pos h, if_pos hb] at e
      simp only [Row.mk.injEq, true_and] at e
      exact Prod.ext e (h.trans hb.symm)
    | false =>
      rw [hb] at h
      have h1 := (diGet_zero a x).resolve_left (by rw [h]; decide)
      have h2 := (diGet_zero b x).resolve_left (by rw [hb]; decide)
      rw [h1, h2]

theorem chg_none {a b : List Row} {x : List UInt8} (h : gSame (diGet a x) (diGet b x) = true) : chg a b x = none := by unfold chg; rw [if_pos h]
theorem chg_some {a b : List Row} {x : List UInt8} (h : gSame (diGet a x) (diGet b x) = false) : chg a b x = some ⟨x, (diGet b x).2, (diGet b x).1⟩ := by unfold chg; rw [if_neg (by rw [h]; decide)]

theorem gSame_not {a b : List Row} {x : List UInt8} (h : ¬ (diGet a x).2 = (diGet b x).2) : gSame (diGet a x) (diGet b x) = false := by
  rw [Bool.eq_false_iff]
  intro e
  rw [gSame_iff] at e
  exact h (by rw [e])

/-- The changes of the first k contacts. -/
def chgsAt (a b : List Row) (k : Nat) : List Chg := ((mrg (cts a ++ cts b)).take k).filterMap (chg a b)

theorem chgsAt_end (a b : List Row) : chgsAt a b (mrg (cts a ++ cts b)).length = diChanges a b := by unfold chgsAt diChanges; rw [List.take_length]

theorem chgsAt_next {a b : List Row} {k : Nat} (hk : k < (mrg (cts a ++ cts b)).length) : chgsAt a b (k + 1) = chgsAt a b k ++ (chg a b ((mrg (cts a ++ cts b)).getD k [])).toList := by
  unfold chgsAt
  rw [List.take_succ_eq_append_getElem hk, List.filterMap_append]
  have : (mrg (cts a ++ cts b))[k] = (mrg (cts a ++ cts b)).getD k [] := by simp [List.getD, List.getElem?_eq_getElem hk]
  rw [this]
  congr 1

theorem chgsAt_len (a b : List Row) (k : Nat) : (chgsAt a b k).length ≤ k := by
  unfold chgsAt
  refine Nat.le_trans (List.length_filterMap_le _ _) ?_
  rw [List.length_take]
  omega

theorem cts_short {t : List Row} (h : Short t) : ∀ x ∈ cts t, x.length ≤ 4294967296 := by
  intro x hx
  obtain ⟨r, hr, rfl⟩ := List.mem_map.1 hx
  exact (h r hr).1

set_option maxHeartbeats 6400000 in
set_option maxRecDepth 1000000 in
theorem changes_any {w : World} {va vb : Value} {a b : List Row} (ha : Tab w va a) (hb : Tab w vb b) (sa : Short a) (sb : Short b) (la : a.length ≤ 100) (lb : b.length ≤ 100) :
    Calls Try.prog 31 #[va, vb] w fun e w' => ∃ v, e = .returned v ∧ Chgs w' v (diChanges a b) ∧ Below w.heap.size w w' := by
  have HA := Lib.hid ha
  have HB := Lib.hid hb
  have SA := Lib.hid sa
  have SB := Lib.hid sb
  obtain ⟨aa, ca, rfl, _⟩ := ha.open'
  obtain ⟨ab, cb, rfl, _⟩ := hb.open'
  have HX : Hid (∀ x ∈ mrg (cts a ++ cts b), x.length ≤ 4294967296) := by
    show ∀ x ∈ _, _
    intro x hx
    rw [mrg_mem] at hx
    rcases List.mem_append.1 hx with h | h
    · exact cts_short sa x h
    · exact cts_short sb x h
  have hml := mrg_len (cts a ++ cts b)
  rw [List.length_append, cts_len, cts_len] at hml
  have HEnd := Lib.hid (chgsAt_end a b)
  have HNext : Hid (∀ k, k < (mrg (cts a ++ cts b)).length → chgsAt a b (k + 1) = chgsAt a b k ++ (chg a b ((mrg (cts a ++ cts b)).getD k [])).toList) := fun k hk => chgsAt_next hk
  clear ha hb sa sb
  go_enter Try.func31, Try.ntmps31
  go_wp2_with fail
  refine (firsts_any HA.out SA.out (by omega)).mono ?_
  rintro e w1 ⟨rfl, hf1, hb1⟩
  have B1 := Lib.hid hb1
  have F1 := Lib.hid hf1
  clear hb1 hf1
  go_wp2_with fail
  refine (firsts_any (HB.out.later B1.out) SB.out (by omega)).mono ?_
  rintro e w2 ⟨rfl, hf2, hb2⟩
  have B2 := Lib.hid (below2' B1.out hb2)
  have F1' := Lib.hid (F1.out.later hb2)
  have G1 := Lib.hid hf2
  clear hb2 hf2 F1
  go_wp2_with fail
  refine (contacts_any (HA.out.later B2.out) (by omega)).mono ?_
  rintro e w3 ⟨u3, rfl, ht3, hb3⟩
  have B3 := Lib.hid (below2' B2.out hb3)
  have F2 := Lib.hid (F1'.out.later hb3)
  have G2 := Lib.hid (G1.out.later hb3)
  have T3 := Lib.hid ht3
  clear hb3 ht3 F1' G1 B2
  go_wp2_with fail
  refine (contacts_any (HB.out.later B3.out) (by omega)).mono ?_
  rintro e w4 ⟨u4, rfl, ht4, hb4⟩
  have B4 := Lib.hid (below2' B3.out hb4)
  have F3 := Lib.hid (F2.out.later hb4)
  have G3 := Lib.hid (G2.out.later hb4)
  have T3' := Lib.hid (T3.out.later hb4)
  have T4 := Lib.hid ht4
  clear hb4 ht4 F2 G2 B3 T3
  go_wp2_with fail
  refine (merge_any T3'.out T4.out (by rw [cts_len]; omega) (by rw [cts_len]; omega)).mono ?_
  rintro e w5 ⟨u5, rfl, ht5, hb5⟩
  have B5 := Lib.hid (below2' B4.out hb5)
  have F4 := Lib.hid (F3.out.later hb5)
  have G4 := Lib.hid (G3.out.later hb5)
  obtain ⟨M, hM⟩ : ∃ M, mrg (cts a ++ cts b) = M := ⟨_, rfl⟩
  rw [hM] at ht5 hml HX HEnd HNext
  have T5 := Lib.hid ht5
  obtain ⟨am, cm, rfl, _, _, _, _⟩ := ht5
  have hz := F4.out.lt
  have hz2 := G4.out.lt
  clear hb5 F3 G3 B4 T3' T4 hM
  go_wp2_with fail
  go_loopw [7, 24] (fun v i wr => ∃ k : Nat, k ≤ M.length ∧ i = .int .i64 k ∧ Hid (OwnC wr w5.heap.size v (chgsAt a b k)) ∧ Hid (Below w5.heap.size w5 wr)) (fun _ i _ => M.length - (intOf i).toNat)
  case atStart => exact ⟨0, by omega, rfl, ownC_nil _ _, Below.refl _ _⟩
  case round =>
    obtain ⟨k, hk, rfl, HO, HN⟩ := hrel
    by_cases hlt : k < M.length
    · obtain ⟨b1, o1, e1, hc1⟩ := T5.out.cell HN.out k hlt
      subst e1
      have hnx := HNext.out k hlt
      obtain ⟨x, hx⟩ : ∃ x, M.getD k [] = x := ⟨_, rfl⟩
      have hxl : x.length ≤ 4294967296 := HX.out x (List.mem_of_getElem? ((getD_some hlt).trans (by rw [hx])))
      rw [hx] at hc1 hnx
      have hle := chgsAt_len a b k
      have FA := Lib.hid (F4.out.later HN.out)
      have FB := Lib.hid (G4.out.later HN.out)
      have l1 := FA.out.look x hxl
      have hs := gSame_rows a b x
      have hfv := firstRow_v b x
      clear hx
      obtain ⟨⟨c0, ⟨x0, y0, z0, s0⟩⟩, hr0⟩ : ∃ r, firstRow a x = r := ⟨_, rfl⟩
      obtain ⟨⟨c1, ⟨x1, y1, z1, s1⟩⟩, hr1⟩ : ∃ r, firstRow b x = r := ⟨_, rfl⟩
      have FB2 := Lib.hid (FB.out.later ((Below.refl _ _).alloc (Nat.le_refl _) (.cells #[.string ⟨c0.toArray⟩, .int .i64 x0, .int .i64 y0, .int .i64 z0, .string ⟨s0.toArray⟩] 48)))
      have l2 := FB2.out.look x hxl
      rw [hr0] at l1 hs
      rw [hr1] at l2 hs hfv
      unfold rowAgg at l1 l2
      simp only at l1 l2 hfv
      have N1 := Lib.hid (bl_alloc HN.out (.cells #[.string ⟨c0.toArray⟩, .int .i64 x0, .int .i64 y0, .int .i64 z0, .string ⟨s0.toArray⟩] 48))
      have N2 := Lib.hid (bl_alloc N1.out (.cells #[.string ⟨c1.toArray⟩, .int .i64 x1, .int .i64 y1, .int .i64 z1, .string ⟨s1.toArray⟩] 48))
      have O2 := Lib.hid ((HO.out.alloc (.cells #[.string ⟨c0.toArray⟩, .int .i64 x0, .int .i64 y0, .int .i64 z0, .string ⟨s0.toArray⟩] 48)).alloc (.cells #[.string ⟨c1.toArray⟩, .int .i64 x1, .int .i64 y1, .int .i64 z1, .string ⟨s1.toArray⟩] 48))
      have hgd : Try.prog.eqGuardType Try.prog.depth 48 = false := by kernel_rfl
      have heq := row_eql5 c0 c1 x0 y0 z0 x1 y1 z1 s0 s1
      cases hda : (diGet a x).2 with
      | true =>
        rw [hda] at l1 hs
        cases hdb : (diGet b x).2 with
        | true =>
          rw [hdb] at l2 hs
          have hs' := hs rfl
          cases hq : rSame ⟨c0, x0, y0, z0, s0⟩ ⟨c1, x1, y1, z1, s1⟩ with
          | true =>
            rw [hq] at heq hs'
            have hgs := hs'
            clear hs' hda hdb hq
            rw [chg_none hgs] at hnx
            simp only [Option.toList_none, List.append_nil] at hnx
            have O3 := Lib.hid O2.out
            rw [← hnx] at O3
            clear hs hfv hr0 hr1 hnx hgs HO O2
            go_wp2_with fail
            go_roundw
            case rel => exact ⟨k + 1, by omega, by go_num, O3, N2⟩
            case measure => simp [intOf]; omega
          | false =>
            rw [hq] at heq hs'
            have hcg := chg_some hs'
            rw [hdb, ← hfv] at hcg
            clear hs' hda hdb hq
            rw [hcg] at hnx
            simp only [Option.toList_some] at hnx
            have HX2 := Lib.hid hnx
            have O3 := Lib.hid (O2.out.alloc (.cells #[.string ⟨x.toArray⟩, .bool true, .int .i64 x1, .int .i64 y1, .int .i64 z1, .string ⟨s1.toArray⟩] 37))
            have N3 := Lib.hid (bl_alloc N2.out (.cells #[.string ⟨x.toArray⟩, .bool true, .int .i64 x1, .int .i64 y1, .int .i64 z1, .string ⟨s1.toArray⟩] 37))
            have hz4 := N3.out.size
            clear hs hfv hr0 hr1 hnx hcg HO O2
            go_wp2_with (at_builtin; go_must (refine wpList_append_chgs rfl _ _ rfl w5.heap.size _ (chgsAt a b k) rfl (by exact O3.out) _ 1 1 [⟨x, true, x1, y1, z1, s1⟩] rfl rfl (fun e => nomatch e) ?c1 (by simp only [List.length_cons, List.length_nil]; omega) hz4 ?_))
            case c1 => exact new_chg (by simp)
            intro v' w' hown' hb'
            rw [← HX2.out] at hown'
            have O4 := Lib.hid hown'
            have N4 := Lib.hid (N3.out.trans hb')
            clear hown' hb' O3
            go_wp2_with fail
            go_roundw
            case rel => exact ⟨k + 1, by omega, by go_num, O4, N4⟩
            case measure => simp [intOf]; omega
        | false =>
          rw [hdb] at l2 hs
          have hcg := chg_some (gSame_not (a := a) (b := b) (x := x) (by rw [hda, hdb]; decide))
          rw [hdb, ← hfv] at hcg
          clear hda hdb heq
          rw [hcg] at hnx
          simp only [Option.toList_some] at hnx
          have HX2 := Lib.hid hnx
          have O3 := Lib.hid (O2.out.alloc (.cells #[.string ⟨x.toArray⟩, .bool false, .int .i64 x1, .int .i64 y1, .int .i64 z1, .string ⟨s1.toArray⟩] 37))
          have N3 := Lib.hid (bl_alloc N2.out (.cells #[.string ⟨x.toArray⟩, .bool false, .int .i64 x1, .int .i64 y1, .int .i64 z1, .string ⟨s1.toArray⟩] 37))
          have hz4 := N3.out.size
          clear hs hfv hr0 hr1 hnx hcg HO O2
          go_wp2_with (at_builtin; go_must (refine wpList_append_chgs rfl _ _ rfl w5.heap.size _ (chgsAt a b k) rfl (by exact O3.out) _ 1 1 [⟨x, false, x1, y1, z1, s1⟩] rfl rfl (fun e => nomatch e) ?c1 (by simp only [List.length_cons, List.length_nil]; omega) hz4 ?_))
          case c1 => exact new_chg (by simp)
          intro v' w' hown' hb'
          rw [← HX2.out] at hown'
          have O4 := Lib.hid hown'
          have N4 := Lib.hid (N3.out.trans hb')
          clear hown' hb' O3
          go_wp2_with fail
          go_roundw
          case rel => exact ⟨k + 1, by omega, by go_num, O4, N4⟩
          case measure => simp [intOf]; omega
      | false =>
        rw [hda] at l1 hs
        cases hdb : (diGet b x).2 with
        | true =>
          rw [hdb] at l2 hs
          have hcg := chg_some (gSame_not (a := a) (b := b) (x := x) (by rw [hda, hdb]; decide))
          rw [hdb, ← hfv] at hcg
          clear hda hdb heq
          rw [hcg] at hnx
          simp only [Option.toList_some] at hnx
          have HX2 := Lib.hid hnx
          have O3 := Lib.hid (O2.out.alloc (.cells #[.string ⟨x.toArray⟩, .bool true, .int .i64 x1, .int .i64 y1, .int .i64 z1, .string ⟨s1.toArray⟩] 37))
          have N3 := Lib.hid (bl_alloc N2.out (.cells #[.string ⟨x.toArray⟩, .bool true, .int .i64 x1, .int .i64 y1, .int .i64 z1, .string ⟨s1.toArray⟩] 37))
          have hz4 := N3.out.size
          clear hs hfv hr0 hr1 hnx hcg HO O2
          go_wp2_with (at_builtin; go_must (refine wpList_append_chgs rfl _ _ rfl w5.heap.size _ (chgsAt a b k) rfl (by exact O3.out) _ 1 1 [⟨x, true, x1, y1, z1, s1⟩] rfl rfl (fun e => nomatch e) ?c1 (by simp only [List.length_cons, List.length_nil]; omega) hz4 ?_))
          case c1 => exact new_chg (by simp)
          intro v' w' hown' hb'
          rw [← HX2.out] at hown'
          have O4 := Lib.hid hown'
          have N4 := Lib.hid (N3.out.trans hb')
          clear hown' hb' O3
          go_wp2_with fail
          go_roundw
          case rel => exact ⟨k + 1, by omega, by go_num, O4, N4⟩
          case measure => simp [intOf]; omega
        | false =>
          rw [hdb] at l2 hs
          have hs' := hs rfl
          cases hq : rSame ⟨c0, x0, y0, z0, s0⟩ ⟨c1, x1, y1, z1, s1⟩ with
          | true =>
            rw [hq] at heq hs'
            have hgs := hs'
            clear hs' hda hdb hq
            rw [chg_none hgs] at hnx
            simp only [Option.toList_none, List.append_nil] at hnx
            have O3 := Lib.hid O2.out
            rw [← hnx] at O3
            clear hs hfv hr0 hr1 hnx hgs HO O2
            go_wp2_with fail
            go_roundw
            case rel => exact ⟨k + 1, by omega, by go_num, O3, N2⟩
            case measure => simp [intOf]; omega
          | false =>
            rw [hq] at heq hs'
            have hcg := chg_some hs'
            rw [hdb, ← hfv] at hcg
            clear hs' hda hdb hq
            rw [hcg] at hnx
            simp only [Option.toList_some] at hnx
            have HX2 := Lib.hid hnx
            have O3 := Lib.hid (O2.out.alloc (.cells #[.string ⟨x.toArray⟩, .bool false, .int .i64 x1, .int .i64 y1, .int .i64 z1, .string ⟨s1.toArray⟩] 37))
            have N3 := Lib.hid (bl_alloc N2.out (.cells #[.string ⟨x.toArray⟩, .bool false, .int .i64 x1, .int .i64 y1, .int .i64 z1, .string ⟨s1.toArray⟩] 37))
            have hz4 := N3.out.size
            clear hs hfv hr0 hr1 hnx hcg HO O2
            go_wp2_with (at_builtin; go_must (refine wpList_append_chgs rfl _ _ rfl w5.heap.size _ (chgsAt a b k) rfl (by exact O3.out) _ 1 1 [⟨x, false, x1, y1, z1, s1⟩] rfl rfl (fun e => nomatch e) ?c1 (by simp only [List.length_cons, List.length_nil]; omega) hz4 ?_))
            case c1 => exact new_chg (by simp)
            intro v' w' hown' hb'
            rw [← HX2.out] at hown'
            have O4 := Lib.hid hown'
            have N4 := Lib.hid (N3.out.trans hb')
            clear hown' hb' O3
            go_wp2_with fail
            go_roundw
            case rel => exact ⟨k + 1, by omega, by go_num, O4, N4⟩
            case measure => simp [intOf]; omega
    · obtain rfl : k = M.length := by omega
      have ho := HO.out.chgs
      rw [HEnd.out] at ho
      have HT := Lib.hid ho
      clear ho
      go_wp2_with fail
      go_ret
      exact ⟨_, rfl, HT.out, below2' B5.out HN.out⟩

end Go.Proofs.Ytocjeehoghfnmaa
