/-
  TEXTS OF THE PROOF, one behind the other: DigRchange.
-/
import Derived.Test.YtphfinlfabklmaaGreatA30
import Derived.Deep.RegionLaw

/-
  THE CONTRACT OF THE DOCUMENT'S Changes.
-/
namespace Go.Proofs.YtphfinlfabklmaaGreat
open Go.RowKit

/-- 'out = append(out, c)' as one step of a region that draws its order. -/
theorem step_append_chgs {ops : Array Oper} {o : Oper} {a : Act} {w : World} {K : Act → World → Prop} {Q : Exit → Act → World → Prop} {E : Prop}
    (hg : o.guard = none) (s x : Operand) (ho : o.op = .call { callee := .builtin .append, args := #[s, x], argTypes := #[40, 40] })
    (base : Nat) (v : Value) (t : List Chg) (hs : a.eval s = v) (hown : OwnC w base v t) (r : Chg) (B : Nat) (hx : a.eval x = .slice (some ⟨B, 0, none⟩) 1 1)
    (hcell : ∀ j u, (cellsOfC [r])[j]? = some u → w.cell? ((⟨B, 0, none⟩ : Addr).add j) = some u)
    (hlen : t.length < 4294967) (hbase : base ≤ w.heap.size)
    (hK : ∀ v' w', OwnC w' base v' (t ++ [r]) → Below base w w' → K (a.put o.dst v') w') :
    if Region.wanted o (yielded ops a.tmps) = true then Oper.wp Tryz.prog o a w K Q else E := by
  have hw : Region.wanted o (yielded ops a.tmps) = true := by simp [Region.wanted, hg]
  rw [if_pos hw]
  obtain ⟨i, hi, hz, hsize, hby⟩ := info_parts Tryz.infoChange
  refine wp_append_own w s x 40 ho base 57 i _ 6 64 Tryz.underlying40 hi hz hsize hby rfl (by decide) v t.length (cellsOfC t) hs hown ⟨B, 0, none⟩ 1 1 (cellsOfC [r]) hx (cellsOfC_len [r]) hcell (cellsOfC_single [r])
    (by unfold maxLen; omega) (by omega) hbase ?_
  intro v' w' hown' hgrow _
  refine hK v' w' ?_ ((Below.refl base w).grown hgrow hbase (fun k hk => (World.ownsRow.lt hown k hk).1))
  unfold OwnC
  rw [cellsOfC_append, List.length_append]
  exact hown'

set_option maxHeartbeats 6400000 in
set_option maxRecDepth 1000000 in
theorem rchanges_any {w : World} {va vb : Value} {a b : List Row} (ha : Tab w va a) (hb : Tab w vb b) (sa : Short a) (sb : Short b) (la : a.length ≤ 100) (lb : b.length ≤ 100) :
    Calls Tryz.prog 74 #[va, vb] w fun e w' => ∃ v, e = .returned v ∧ Chgs w' v (diChanges a b) ∧ Below w.heap.size w w' := by
  have HA := Lib.hid ha
  have HB := Lib.hid hb
  obtain ⟨aa, ca, rfl, _⟩ := ha.open'
  obtain ⟨ab, cb, rfl, _⟩ := hb.open'
  have HX : Hid (∀ x ∈ mrg (cts a ++ cts b), x.length ≤ 4294967296) := by
    show ∀ x ∈ _, _
    intro x hx
    rw [mrg_mem] at hx
    rcases List.mem_append.1 hx with h | h
    · exact cts_short sa x h
    · exact cts_short sb x h
  have hml := mrg_len (cts a ++ cts b)
  rw [List.length_append, cts_len, cts_len] at hml
  have HEnd := Lib.hid (chgsAt_end a b)
  have HNext : Hid (∀ k, k < (mrg (cts a ++ cts b)).length → chgsAt a b (k + 1) = chgsAt a b k ++ (chg a b ((mrg (cts a ++ cts b)).getD k [])).toList) := fun k hk => chgsAt_next hk
  clear ha hb sa sb
  go_enter Tryz.func74, Tryz.ntmps74
  go_wp2_with fail
  refine (rcontacts_any HA.out (by omega)).mono ?_
  rintro e w3 ⟨u3, rfl, ht3, hb3⟩
  have B3 := Lib.hid hb3
  have T3 := Lib.hid ht3
  clear hb3 ht3
  go_wp2_with fail
  refine (rcontacts_any (HB.out.later B3.out) (by omega)).mono ?_
  rintro e w4 ⟨u4, rfl, ht4, hb4⟩
  have B4 := Lib.hid (below2' B3.out hb4)
  have T3' := Lib.hid (T3.out.later hb4)
  have T4 := Lib.hid ht4
  clear hb4 ht4 B3 T3
  go_wp2_with fail
  refine (irmerge_any T3'.out T4.out (by rw [cts_len]; omega) (by rw [cts_len]; omega)).mono ?_
  rintro e w5 ⟨u5, rfl, ht5, hb5⟩
  have B5 := Lib.hid (below2' B4.out hb5)
  obtain ⟨M, hM⟩ : ∃ M, mrg (cts a ++ cts b) = M := ⟨_, rfl⟩
  rw [hM] at ht5 hml HX HEnd HNext
  have T5 := Lib.hid ht5
  obtain ⟨am, cm, rfl, _, _, _, _⟩ := ht5
  clear hb5 B4 T3' T4 hM
  go_wp2_with fail
  go_loopw [6, 7] (fun v i wr => ∃ (k : Nat) (vv : Value), k ≤ M.length ∧ i = .int .i64 k ∧ vv = v ∧ Hid (OwnC wr w5.heap.size v (chgsAt a b k)) ∧ Hid (Below w5.heap.size w5 wr)) (fun _ i _ => M.length - (intOf i).toNat)
  case atStart => exact ⟨0, _, by omega, rfl, rfl, ownC_nil _ _, Below.refl _ _⟩
  case round =>
    obtain ⟨k, vv, hk, rfl, rfl, HO, HN⟩ := hrel
    by_cases hlt : k < M.length
    · obtain ⟨b1, o1, e1, hc1⟩ := T5.out.cell HN.out k hlt
      subst e1
      have hnx := HNext.out k hlt
      obtain ⟨x, hx⟩ : ∃ x, M.getD k [] = x := ⟨_, rfl⟩
      have hxl : x.length ≤ 4294967296 := HX.out x (List.mem_of_getElem? ((getD_some hlt).trans (by rw [hx])))
      rw [hx] at hc1 hnx
      have hle := chgsAt_len a b k
      have C1 := Lib.hid hc1
      clear hx
      obtain ⟨x0, y0, z0, s0, ba, hga⟩ : ∃ x0 y0 z0 s0 ba, diGet a x = (⟨x0, y0, z0, s0⟩, ba) := ⟨_, _, _, _, _, rfl⟩
      obtain ⟨x1, y1, z1, s1, bb, hgb⟩ : ∃ x1 y1 z1 s1 bb, diGet b x = (⟨x1, y1, z1, s1⟩, bb) := ⟨_, _, _, _, _, rfl⟩
      have GA := Lib.hid (rdiget_eq (HA.out.later (below2' B5.out HN.out)) x (Lib.hid hga))
      have HGb := Lib.hid hgb
      go_wp2_with fail
      refine GA.out.mono ?_
      rintro e w6 ⟨rfl, hb6⟩
      have N6 := Lib.hid (bl_alloc (below2' HN.out hb6) (.cells #[.int .i64 x0, .int .i64 y0, .int .i64 z0, .string ⟨s0.toArray⟩] 30))
      have O6 := Lib.hid ((HO.out.later hb6).alloc (.cells #[.int .i64 x0, .int .i64 y0, .int .i64 z0, .string ⟨s0.toArray⟩] 30))
      have hc6 := cell_later C1.out hb6
      have hlt6 := World.block_lt_of_cell? w6 _ hc6
      simp only at hlt6
      have C6 := Lib.hid hc6
      have GB := Lib.hid (rdiget_eq (HB.out.later (below2' B5.out N6.out)) x HGb)
      clear hb6 hc1 C1 HO GA
      go_wp2_with fail
      refine GB.out.mono ?_
      rintro e w7 ⟨rfl, hb7⟩
      obtain ⟨⟨q0, q1, q2, q3⟩, _, hB7, hz7⟩ := block4 hb7
      have N7 := Lib.hid (below2' N6.out hb7)
      have N2 := Lib.hid (bl_alloc N7.out (.cells #[.int .i64 x1, .int .i64 y1, .int .i64 z1, .string ⟨s1.toArray⟩] 30))
      have O2 := Lib.hid ((O6.out.later hb7).alloc (.cells #[.int .i64 x1, .int .i64 y1, .int .i64 z1, .string ⟨s1.toArray⟩] 30))
      have hc7 := cell_later C6.out hB7
      have hlt7 := World.block_lt_of_cell? w7 _ hc7
      simp only at hlt7
      clear hb7 hB7 hc6 hlt6 C6 GB O6 N6 N7
      have hgd : Tryz.prog.eqGuardType Tryz.prog.depth 30 = false := by kernel_rfl
      have hne := val_neq5 x0 y0 z0 x1 y1 z1 s0 s1
      cases hda : ba with
      | true =>
        subst hda
        cases hdb : bb with
        | true =>
          subst hdb
          cases hq : vSame ⟨x0, y0, z0, s0⟩ ⟨x1, y1, z1, s1⟩ with
          | false =>
            rw [hq] at hne
            have hcg := chg_some (a := a) (b := b) (x := x) (by rw [hga, hgb]; unfold gSame; rw [hq]; rfl)
            rw [hgb] at hcg
            clear hga hgb hq
            rw [hcg] at hnx
            simp only [Option.toList_some] at hnx
            have HX2 := Lib.hid hnx
            have O3 := Lib.hid ((World.ownsRow.drew O2.out : OwnC _ _ _ _).alloc (.cells #[.string ⟨x.toArray⟩, .bool true, .int .i64 x1, .int .i64 y1, .int .i64 z1, .string ⟨s1.toArray⟩] 57))
            have N3 := Lib.hid (bl_alloc N2.out.drew (.cells #[.string ⟨x.toArray⟩, .bool true, .int .i64 x1, .int .i64 y1, .int .i64 z1, .string ⟨s1.toArray⟩] 57))
            have hz4 := N3.out.size
            have C3 : Hid (∀ j u, (cellsOfC [⟨x, true, x1, y1, z1, s1⟩])[j]? = some u → ((w7.alloc (.cells #[.int .i64 x1, .int .i64 y1, .int .i64 z1, .string ⟨s1.toArray⟩] 30)).drew.alloc (.cells #[.string ⟨x.toArray⟩, .bool true, .int .i64 x1, .int .i64 y1, .int .i64 z1, .string ⟨s1.toArray⟩] 57)).cell? ((⟨w7.heap.size + 1, 0, none⟩ : Addr).add j) = some u) := new_chg (by simp) _ rfl
            clear hnx hcg O2
            go_wp2_with fail
            clear hne
            go_region_law (refine step_append_chgs rfl (.tmp 49) (.tmp 57) rfl w5.heap.size vv (chgsAt a b k) (by simp [Act.eval]) (by exact O3.out) ⟨x, true, x1, y1, z1, s1⟩ (w7.heap.size + 1) (by simp [Act.eval]) C3.out (by omega) hz4 ?_; intro v' w' hown' hb')
            all_goals
              rw [← HX2.out] at hown'
              have O4 := Lib.hid hown'
              have N4 := Lib.hid (N3.out.trans hb')
              clear hown' hb' O3 C3
              go_wp2_with fail
              go_roundw
              case rel => exact ⟨k + 1, _, by omega, by go_num, rfl, O4, N4⟩
              case measure => simp [intOf]; omega
          | true =>
            rw [hq] at hne
            have hgs : gSame (diGet a x) (diGet b x) = true := by rw [hga, hgb]; unfold gSame; rw [hq]; rfl
            clear hga hgb hq
            rw [chg_none hgs] at hnx
            simp only [Option.toList_none, List.append_nil] at hnx
            have O3 := Lib.hid O2.out
            rw [← hnx] at O3
            clear hnx hgs O2
            go_wp2_with fail
            go_roundw
            case rel => exact ⟨k + 1, _, by omega, by go_num, rfl, O3, N2⟩
            case measure => simp [intOf]; omega
        | false =>
          subst hdb
          cases hq : vSame ⟨x0, y0, z0, s0⟩ ⟨x1, y1, z1, s1⟩ with
          | false =>
            rw [hq] at hne
            have hcg := chg_some (a := a) (b := b) (x := x) (by rw [hga, hgb]; unfold gSame; rw [hq]; rfl)
            rw [hgb] at hcg
            clear hga hgb hq
            rw [hcg] at hnx
            simp only [Option.toList_some] at hnx
            have HX2 := Lib.hid hnx
            have O3 := Lib.hid ((World.ownsRow.drew O2.out : OwnC _ _ _ _).alloc (.cells #[.string ⟨x.toArray⟩, .bool false, .int .i64 x1, .int .i64 y1, .int .i64 z1, .string ⟨s1.toArray⟩] 57))
            have N3 := Lib.hid (bl_alloc N2.out.drew (.cells #[.string ⟨x.toArray⟩, .bool false, .int .i64 x1, .int .i64 y1, .int .i64 z1, .string ⟨s1.toArray⟩] 57))
            have hz4 := N3.out.size
            have C3 : Hid (∀ j u, (cellsOfC [⟨x, false, x1, y1, z1, s1⟩])[j]? = some u → ((w7.alloc (.cells #[.int .i64 x1, .int .i64 y1, .int .i64 z1, .string ⟨s1.toArray⟩] 30)).drew.alloc (.cells #[.string ⟨x.toArray⟩, .bool false, .int .i64 x1, .int .i64 y1, .int .i64 z1, .string ⟨s1.toArray⟩] 57)).cell? ((⟨w7.heap.size + 1, 0, none⟩ : Addr).add j) = some u) := new_chg (by simp) _ rfl
            clear hnx hcg O2
            go_wp2_with fail
            clear hne
            go_region_law (refine step_append_chgs rfl (.tmp 49) (.tmp 57) rfl w5.heap.size vv (chgsAt a b k) (by simp [Act.eval]) (by exact O3.out) ⟨x, false, x1, y1, z1, s1⟩ (w7.heap.size + 1) (by simp [Act.eval]) C3.out (by omega) hz4 ?_; intro v' w' hown' hb')
            all_goals
              rw [← HX2.out] at hown'
              have O4 := Lib.hid hown'
              have N4 := Lib.hid (N3.out.trans hb')
              clear hown' hb' O3 C3
              go_wp2_with fail
              go_roundw
              case rel => exact ⟨k + 1, _, by omega, by go_num, rfl, O4, N4⟩
              case measure => simp [intOf]; omega
          | true =>
            rw [hq] at hne
            have hcg := chg_some (a := a) (b := b) (x := x) (by rw [hga, hgb]; unfold gSame; rw [hq]; rfl)
            rw [hgb] at hcg
            clear hga hgb hq
            rw [hcg] at hnx
            simp only [Option.toList_some] at hnx
            have HX2 := Lib.hid hnx
            have O3 := Lib.hid ((World.ownsRow.drew O2.out : OwnC _ _ _ _).alloc (.cells #[.string ⟨x.toArray⟩, .bool false, .int .i64 x1, .int .i64 y1, .int .i64 z1, .string ⟨s1.toArray⟩] 57))
            have N3 := Lib.hid (bl_alloc N2.out.drew (.cells #[.string ⟨x.toArray⟩, .bool false, .int .i64 x1, .int .i64 y1, .int .i64 z1, .string ⟨s1.toArray⟩] 57))
            have hz4 := N3.out.size
            have C3 : Hid (∀ j u, (cellsOfC [⟨x, false, x1, y1, z1, s1⟩])[j]? = some u → ((w7.alloc (.cells #[.int .i64 x1, .int .i64 y1, .int .i64 z1, .string ⟨s1.toArray⟩] 30)).drew.alloc (.cells #[.string ⟨x.toArray⟩, .bool false, .int .i64 x1, .int .i64 y1, .int .i64 z1, .string ⟨s1.toArray⟩] 57)).cell? ((⟨w7.heap.size + 1, 0, none⟩ : Addr).add j) = some u) := new_chg (by simp) _ rfl
            clear hnx hcg O2
            go_wp2_with fail
            clear hne
            go_region_law (refine step_append_chgs rfl (.tmp 49) (.tmp 57) rfl w5.heap.size vv (chgsAt a b k) (by simp [Act.eval]) (by exact O3.out) ⟨x, false, x1, y1, z1, s1⟩ (w7.heap.size + 1) (by simp [Act.eval]) C3.out (by omega) hz4 ?_; intro v' w' hown' hb')
            all_goals
              rw [← HX2.out] at hown'
              have O4 := Lib.hid hown'
              have N4 := Lib.hid (N3.out.trans hb')
              clear hown' hb' O3 C3
              go_wp2_with fail
              go_roundw
              case rel => exact ⟨k + 1, _, by omega, by go_num, rfl, O4, N4⟩
              case measure => simp [intOf]; omega
      | false =>
        subst hda
        cases hdb : bb with
        | true =>
          subst hdb
          cases hq : vSame ⟨x0, y0, z0, s0⟩ ⟨x1, y1, z1, s1⟩ with
          | false =>
            rw [hq] at hne
            have hcg := chg_some (a := a) (b := b) (x := x) (by rw [hga, hgb]; unfold gSame; rw [hq]; rfl)
            rw [hgb] at hcg
            clear hga hgb hq
            rw [hcg] at hnx
            simp only [Option.toList_some] at hnx
            have HX2 := Lib.hid hnx
            have O3 := Lib.hid ((World.ownsRow.drew O2.out : OwnC _ _ _ _).alloc (.cells #[.string ⟨x.toArray⟩, .bool true, .int .i64 x1, .int .i64 y1, .int .i64 z1, .string ⟨s1.toArray⟩] 57))
            have N3 := Lib.hid (bl_alloc N2.out.drew (.cells #[.string ⟨x.toArray⟩, .bool true, .int .i64 x1, .int .i64 y1, .int .i64 z1, .string ⟨s1.toArray⟩] 57))
            have hz4 := N3.out.size
            have C3 : Hid (∀ j u, (cellsOfC [⟨x, true, x1, y1, z1, s1⟩])[j]? = some u → ((w7.alloc (.cells #[.int .i64 x1, .int .i64 y1, .int .i64 z1, .string ⟨s1.toArray⟩] 30)).drew.alloc (.cells #[.string ⟨x.toArray⟩, .bool true, .int .i64 x1, .int .i64 y1, .int .i64 z1, .string ⟨s1.toArray⟩] 57)).cell? ((⟨w7.heap.size + 1, 0, none⟩ : Addr).add j) = some u) := new_chg (by simp) _ rfl
            clear hnx hcg O2
            go_wp2_with fail
            clear hne
            go_region_law (refine step_append_chgs rfl (.tmp 49) (.tmp 57) rfl w5.heap.size vv (chgsAt a b k) (by simp [Act.eval]) (by exact O3.out) ⟨x, true, x1, y1, z1, s1⟩ (w7.heap.size + 1) (by simp [Act.eval]) C3.out (by omega) hz4 ?_; intro v' w' hown' hb')
            all_goals
              rw [← HX2.out] at hown'
              have O4 := Lib.hid hown'
              have N4 := Lib.hid (N3.out.trans hb')
              clear hown' hb' O3 C3
              go_wp2_with fail
              go_roundw
              case rel => exact ⟨k + 1, _, by omega, by go_num, rfl, O4, N4⟩
              case measure => simp [intOf]; omega
          | true =>
            rw [hq] at hne
            have hcg := chg_some (a := a) (b := b) (x := x) (by rw [hga, hgb]; unfold gSame; rw [hq]; rfl)
            rw [hgb] at hcg
            clear hga hgb hq
            rw [hcg] at hnx
            simp only [Option.toList_some] at hnx
            have HX2 := Lib.hid hnx
            have O3 := Lib.hid ((World.ownsRow.drew O2.out : OwnC _ _ _ _).alloc (.cells #[.string ⟨x.toArray⟩, .bool true, .int .i64 x1, .int .i64 y1, .int .i64 z1, .string ⟨s1.toArray⟩] 57))
            have N3 := Lib.hid (bl_alloc N2.out.drew (.cells #[.string ⟨x.toArray⟩, .bool true, .int .i64 x1, .int .i64 y1, .int .i64 z1, .string ⟨s1.toArray⟩] 57))
            have hz4 := N3.out.size
            have C3 : Hid (∀ j u, (cellsOfC [⟨x, true, x1, y1, z1, s1⟩])[j]? = some u → ((w7.alloc (.cells #[.int .i64 x1, .int .i64 y1, .int .i64 z1, .string ⟨s1.toArray⟩] 30)).drew.alloc (.cells #[.string ⟨x.toArray⟩, .bool true, .int .i64 x1, .int .i64 y1, .int .i64 z1, .string ⟨s1.toArray⟩] 57)).cell? ((⟨w7.heap.size + 1, 0, none⟩ : Addr).add j) = some u) := new_chg (by simp) _ rfl
            clear hnx hcg O2
            go_wp2_with fail
            clear hne
            go_region_law (refine step_append_chgs rfl (.tmp 49) (.tmp 57) rfl w5.heap.size vv (chgsAt a b k) (by simp [Act.eval]) (by exact O3.out) ⟨x, true, x1, y1, z1, s1⟩ (w7.heap.size + 1) (by simp [Act.eval]) C3.out (by omega) hz4 ?_; intro v' w' hown' hb')
            all_goals
              rw [← HX2.out] at hown'
              have O4 := Lib.hid hown'
              have N4 := Lib.hid (N3.out.trans hb')
              clear hown' hb' O3 C3
              go_wp2_with fail
              go_roundw
              case rel => exact ⟨k + 1, _, by omega, by go_num, rfl, O4, N4⟩
              case measure => simp [intOf]; omega
        | false =>
          subst hdb
          cases hq : vSame ⟨x0, y0, z0, s0⟩ ⟨x1, y1, z1, s1⟩ with
          | false =>
            rw [hq] at hne
            have hcg := chg_some (a := a) (b := b) (x := x) (by rw [hga, hgb]; unfold gSame; rw [hq]; rfl)
            rw [hgb] at hcg
            clear hga hgb hq
            rw [hcg] at hnx
            simp only [Option.toList_some] at hnx
            have HX2 := Lib.hid hnx
            have O3 := Lib.hid ((World.ownsRow.drew O2.out : OwnC _ _ _ _).alloc (.cells #[.string ⟨x.toArray⟩, .bool false, .int .i64 x1, .int .i64 y1, .int .i64 z1, .string ⟨s1.toArray⟩] 57))
            have N3 := Lib.hid (bl_alloc N2.out.drew (.cells #[.string ⟨x.toArray⟩, .bool false, .int .i64 x1, .int .i64 y1, .int .i64 z1, .string ⟨s1.toArray⟩] 57))
            have hz4 := N3.out.size
            have C3 : Hid (∀ j u, (cellsOfC [⟨x, false, x1, y1, z1, s1⟩])[j]? = some u → ((w7.alloc (.cells #[.int .i64 x1, .int .i64 y1, .int .i64 z1, .string ⟨s1.toArray⟩] 30)).drew.alloc (.cells #[.string ⟨x.toArray⟩, .bool false, .int .i64 x1, .int .i64 y1, .int .i64 z1, .string ⟨s1.toArray⟩] 57)).cell? ((⟨w7.heap.size + 1, 0, none⟩ : Addr).add j) = some u) := new_chg (by simp) _ rfl
            clear hnx hcg O2
            go_wp2_with fail
            clear hne
            go_region_law (refine step_append_chgs rfl (.tmp 49) (.tmp 57) rfl w5.heap.size vv (chgsAt a b k) (by simp [Act.eval]) (by exact O3.out) ⟨x, false, x1, y1, z1, s1⟩ (w7.heap.size + 1) (by simp [Act.eval]) C3.out (by omega) hz4 ?_; intro v' w' hown' hb')
            all_goals
              rw [← HX2.out] at hown'
              have O4 := Lib.hid hown'
              have N4 := Lib.hid (N3.out.trans hb')
              clear hown' hb' O3 C3
              go_wp2_with fail
              go_roundw
              case rel => exact ⟨k + 1, _, by omega, by go_num, rfl, O4, N4⟩
              case measure => simp [intOf]; omega
          | true =>
            rw [hq] at hne
            have hgs : gSame (diGet a x) (diGet b x) = true := by rw [hga, hgb]; unfold gSame; rw [hq]; rfl
            clear hga hgb hq
            rw [chg_none hgs] at hnx
            simp only [Option.toList_none, List.append_nil] at hnx
            have O3 := Lib.hid O2.out
            rw [← hnx] at O3
            clear hnx hgs O2
            go_wp2_with fail
            go_roundw
            case rel => exact ⟨k + 1, _, by omega, by go_num, rfl, O3, N2⟩
            case measure => simp [intOf]; omega
    · obtain rfl : k = M.length := by omega
      have ho := HO.out.chgs
      rw [HEnd.out] at ho
      have HT := Lib.hid ho
      clear ho
      go_wp2_with fail
      go_ret
      exact ⟨_, rfl, HT.out, below2' B5.out HN.out⟩

end Go.Proofs.YtphfinlfabklmaaGreat
