/-
  THE PROOF OF StateParts: for every input the law returns true, and each argument reads behind the call as it read before. No condition.
-/
import Derived.Test.YtndicdomdndjaaaP12
import Derived.BigRegion
import Derived.Deep.DeepMust
import Derived.Deep.Cut
import Derived.Test.YtndicdomdndjaaaP07
import Derived.Test.YtndicdomdndjaaaRows
import Derived.ProofKit
import Derived.OpenShut
import Derived.ShutString
import Derived.ChangeOld
import Derived.SliceStrings
import Derived.Lib.SmallJoins

section

/-
  THE WALK OF StateParts.
-/
namespace Go.Proofs.Ytndicdomdndjaaa
open Go.RowKit

set_option maxHeartbeats 12800000 in
set_option maxRecDepth 1000000 in
theorem stparts {w : World} {v v2 : Value} {l m : List Ev} (hv : Evs w v l) (hm : Evs w v2 m) :
    Calls Try.prog 3 #[v, v2] w fun e w' => e = .returned (.bool true) ∧ Below w.heap.size w w' := by
  obtain ⟨va, vc, rfl, -⟩ := RdS.open' hv
  obtain ⟨ma, mc, rfl, -⟩ := RdS.open' hm
  obtain ⟨f1, hf1⟩ : ∃ r, evsShort 30 l = r := ⟨_, rfl⟩
  obtain ⟨f2, hf2⟩ : ∃ r, evsShort 30 m = r := ⟨_, rfl⟩
  have F1 := Lib.hid hf1
  have F2 := Lib.hid hf2
  have V := Lib.hid hv
  have M := Lib.hid hm
  have HB := Lib.hid (Below.refl w.heap.size w)
  clear hf1 hf2 hv hm
  go_enter Try.func3, Try.ntmps3
  go_wp2_with fail
  refine (events_any V.out 30 (by decide) F1).mono ?_
  rintro e w1 ⟨rfl, b1⟩
  replace V := Lib.hid (RdS.later V.out b1)
  replace M := Lib.hid (RdS.later M.out b1)
  replace HB := Lib.hid (below2Z HB.out b1)
  clear b1
  cases f1 with
  | false =>
    go_wp2_with fail
    refine (live14 _).mono ?_
    rintro e w502 ⟨rfl, b502⟩
    replace HB := Lib.hid (below2Z HB.out b502)
    clear b502
    go_wp2_with fail
    go_ret
    exact ⟨rfl, HB.out⟩
  | true =>
    go_wp2_with fail
    refine (events_any M.out 30 (by decide) F2).mono ?_
    rintro e w2 ⟨rfl, b2⟩
    replace V := Lib.hid (RdS.later V.out b2)
    replace M := Lib.hid (RdS.later M.out b2)
    replace HB := Lib.hid (below2Z HB.out b2)
    clear b2
    cases f2 with
    | false =>
      go_wp2_with fail
      refine (live14 _).mono ?_
      rintro e w503 ⟨rfl, b503⟩
      replace HB := Lib.hid (below2Z HB.out b503)
      clear b503
      go_wp2_with fail
      go_ret
      exact ⟨rfl, HB.out⟩
    | true =>
      have hll := (evsShort_get F1.out).1
      have hml := (evsShort_get F2.out).1
      have HSL := Lib.hid (evsShort_ev F1.out)
      have HSM := Lib.hid (evsShort_ev F2.out)
      clear F1 F2
      obtain ⟨s1, hs1⟩ : ∃ s, (stAll (⟨[], []⟩ : Sta) l).1 = s := ⟨_, rfl⟩
      obtain ⟨s2, hs2⟩ : ∃ s, (stAll s1 m).1 = s := ⟨_, rfl⟩
      obtain ⟨n1, hn1⟩ : ∃ s, numsOf (⟨[], []⟩ : Sta) l = s := ⟨_, rfl⟩
      obtain ⟨n2, hn2⟩ : ∃ s, numsOf s1 m = s := ⟨_, rfl⟩
      obtain ⟨al, hal⟩ : ∃ s, l ++ m = s := ⟨_, rfl⟩
      obtain ⟨n3, hn3⟩ : ∃ s, numsOf (⟨[], []⟩ : Sta) al = s := ⟨_, rfl⟩
      obtain ⟨g, hg⟩ : ∃ s, stGood (⟨[], []⟩ : Sta) al = s := ⟨_, rfl⟩
      obtain ⟨n4, hn4⟩ : ∃ s, numsOf (⟨[], []⟩ : Sta) g = s := ⟨_, rfl⟩
      have hok1 := stAll_okW (⟨[], []⟩ : Sta) l stOK_nilW
      rw [hs1] at hok1
      have OK1 := Lib.hid hok1.1
      have hle1 : s1.e.length ≤ 60 := by have := hok1.2; simp only [List.length_nil] at this; omega
      have L1 : n1.length = l.length := by rw [← hn1, numsOf_len]
      have L2 : n2.length = m.length := by rw [← hn2, numsOf_len]
      have L3 : n3.length = al.length := by rw [← hn3, numsOf_len]
      have L4 : n4.length = g.length := by rw [← hn4, numsOf_len]
      have hal60 : al.length ≤ 60 := by rw [← hal, List.length_append]; omega
      have hlm : al.length = l.length + m.length := by rw [← hal, List.length_append]
      have hgl : g.length ≤ 60 := by have := stGood_len (⟨[], []⟩ : Sta) al; rw [hg] at this; omega
      have hs3 : (stAll (⟨[], []⟩ : Sta) al).1 = s2 := by rw [← hal, stAll_appW, hs1, hs2]
      have hs4 : (stAll (⟨[], []⟩ : Sta) g).1 = s2 := by rw [← hg, (stGood_all (⟨[], []⟩ : Sta) al).1, hs3]
      have HSA : Hid (∀ e ∈ al, evShort e) := Lib.hid (fun e he => by rw [← hal] at he; exact (List.mem_append.1 he).elim (HSL.out e) (HSM.out e))
      have HSG : Hid (∀ e ∈ g, evShort e) := Lib.hid (fun e he => HSA.out e (stGood_mem (⟨[], []⟩ : Sta) al e (by rw [hg]; exact he)))
      have HBOTH : Hid (∀ j, (j < l.length → n3.getD j 0 = n1.getD j 0) ∧ (¬ j < l.length → n3.getD j 0 = n2.getD (j - l.length) 0)) := Lib.hid (fun j => by have := nums_bothW (l := l) (m := m) (j := j); rw [hal, hn3, hn1, hs1, hn2] at this; exact this)
      have HG0 : Hid (∀ j, j < g.length → n4.getD j 0 = 0) := Lib.hid (fun j hj => by rw [← hn4, ← hg]; exact numsOf_good (⟨[], []⟩ : Sta) al (by rw [hg]; exact hj))
      have HSTEP : Hid (∀ j, j < al.length → stGood (⟨[], []⟩ : Sta) (al.take (j + 1)) = stGood (⟨[], []⟩ : Sta) (al.take j) ++ (if n3.getD j 0 = 0 then [al.getD j Ev.zero] else [])) := Lib.hid (fun j hj => by rw [stGood_take hj, ← hn3, numsOf_get hj]; simp only [Int.natCast_eq_zero])
      have HS1 := Lib.hid hs1
      have HS2 := Lib.hid hs2
      have HS3 := Lib.hid hs3
      have HS4 := Lib.hid hs4
      have HN1 := Lib.hid hn1
      have HN2 := Lib.hid hn2
      have HN3 := Lib.hid hn3
      have HN4 := Lib.hid hn4
      have HAL := Lib.hid hal
      have HG := Lib.hid hg
      have HL1 := Lib.hid L1
      have HL2 := Lib.hid L2
      have HL3 := Lib.hid L3
      have HL4 := Lib.hid L4
      have HLM := Lib.hid hlm
      clear hs1 hs2 hs3 hs4 hn1 hn2 hn3 hn4 hal hg L1 L2 L3 L4 hok1 hlm
      go_wp2_with fail
      refine (stall_any (stat_nilW _) stOK_nilW (by decide) V.out (by omega) HSL.out).mono ?_
      rintro e w3 ⟨xx1, yy1, uu1, rfl, h1, k1, b3⟩
      replace V := Lib.hid (RdS.later V.out b3)
      replace M := Lib.hid (RdS.later M.out b3)
      replace HB := Lib.hid (below2Z HB.out b3)
      rw [HS1.out] at h1
      rw [HN1.out] at k1
      obtain ⟨xa1, xc1, ya1, yc1, rfl, rfl⟩ := sta_shapeW h1
      obtain ⟨ua1, uc1, rfl⟩ := nums_shapeW k1 HL1.out
      have ST1 := Lib.hid h1
      have N1 := Lib.hid k1
      clear h1 k1
      clear b3
      have b4 := bl_newZ w3 (.cells #[.slice xa1 s1.e.length xc1, .slice ya1 s1.s.length yc1] 28)
      have B1 := newQ w3 (.cells #[.slice xa1 s1.e.length xc1, .slice ya1 s1.s.length yc1] 28)
      have hB1 : w.heap.size ≤ w3.heap.size := HB.out.size
      replace V := Lib.hid (RdS.later V.out b4)
      replace M := Lib.hid (RdS.later M.out b4)
      replace ST1 := Lib.hid (StAt.later ST1.out b4)
      replace N1 := Lib.hid (RdS.later N1.out b4)
      replace HB := Lib.hid (below2Z HB.out b4)
      clear b4
      replace B1 := Lib.hid B1
      go_upto_region 4 with fail
      generalize w3.alloc (.cells #[.slice xa1 s1.e.length xc1, .slice ya1 s1.s.length yc1] 28) = w5 at B1 V M ST1 N1 HB ⊢
      obtain ⟨⟨B1c0, B1c1⟩, ⟨B1f0, B1f1⟩⟩ := blk2 B1.out
      go_wp2_with fail
      clear B1c0 B1c1 B1f0 B1f1
      refine (stall_any ST1.out OK1.out (by omega) M.out (by omega) HSM.out).mono ?_
      rintro e w6 ⟨xx2, yy2, uu2, rfl, h2, k2, b6⟩
      replace B1 := Lib.hid (upQ B1.out b6)
      replace V := Lib.hid (RdS.later V.out b6)
      replace M := Lib.hid (RdS.later M.out b6)
      replace ST1 := Lib.hid (StAt.later ST1.out b6)
      replace N1 := Lib.hid (RdS.later N1.out b6)
      replace HB := Lib.hid (below2Z HB.out b6)
      rw [HS2.out] at h2
      rw [HN2.out] at k2
      obtain ⟨xa2, xc2, ya2, yc2, rfl, rfl⟩ := sta_shapeW h2
      obtain ⟨ua2, uc2, rfl⟩ := nums_shapeW k2 HL2.out
      have ST2 := Lib.hid h2
      have N2 := Lib.hid k2
      clear h2 k2
      clear b6
      have b7 := bl_newZ w6 (.cells #[.slice xa2 s2.e.length xc2, .slice ya2 s2.s.length yc2] 28)
      have B2 := newQ w6 (.cells #[.slice xa2 s2.e.length xc2, .slice ya2 s2.s.length yc2] 28)
      have hB2 : w.heap.size ≤ w6.heap.size := HB.out.size
      replace B1 := Lib.hid (upQ B1.out b7)
      replace V := Lib.hid (RdS.later V.out b7)
      replace M := Lib.hid (RdS.later M.out b7)
      replace ST1 := Lib.hid (StAt.later ST1.out b7)
      replace N1 := Lib.hid (RdS.later N1.out b7)
      replace ST2 := Lib.hid (StAt.later ST2.out b7)
      replace N2 := Lib.hid (RdS.later N2.out b7)
      replace HB := Lib.hid (below2Z HB.out b7)
      clear b7
      replace B2 := Lib.hid B2
      go_upto_region 5 with fail
      generalize w6.alloc (.cells #[.slice xa2 s2.e.length xc2, .slice ya2 s2.s.length yc2] 28) = w8 at B1 B2 V M ST1 N1 ST2 N2 HB ⊢
      clear B1
      have VN := Lib.hid (evs_noneW V.out)
      have VS := Lib.hid (evs_srcW (RdS.later V.out (bl_newZ w8 (.cells #[] 37))))
      have MN := Lib.hid (evs_noneW M.out)
      go_wp2_with (at_builtin; go_must (refine wpList_append_S evOK rfl _ _ rfl w8.heap.size _ [] rfl (by exact ownS_made w8) va l.length vc l rfl rfl VN.out VS.out (by simp only [List.length_nil]; omega) (by simp) ?_))
      intro v3 w3 ho3 hb3
      have c3 : Below w8.heap.size w8 w3 := ((Below.refl w8.heap.size w8).alloc (Nat.le_refl _) _).trans hb3
      have O3 := Lib.hid ho3
      have C3 := Lib.hid c3
      have hz3 := c3.size
      have MS := Lib.hid (evs_srcW (RdS.later M.out c3))
      clear ho3 hb3 c3
      go_wp2_with (at_builtin; go_must (refine wpList_append_S evOK rfl _ _ rfl w8.heap.size _ l rfl (by exact O3.out) ma m.length mc m rfl rfl MN.out MS.out (by omega) hz3 ?_))
      intro v4 w4 ho4 hb4
      rw [HAL.out] at ho4
      have b400 := C3.out.trans hb4
      have ha4 := OwnS.rd evOK ho4
      obtain ⟨aa, ac, rfl, -⟩ := RdS.open' ha4
      have AL := Lib.hid ha4
      replace B2 := Lib.hid (upQ B2.out b400)
      replace V := Lib.hid (RdS.later V.out b400)
      replace M := Lib.hid (RdS.later M.out b400)
      replace ST1 := Lib.hid (StAt.later ST1.out b400)
      replace N1 := Lib.hid (RdS.later N1.out b400)
      replace ST2 := Lib.hid (StAt.later ST2.out b400)
      replace N2 := Lib.hid (RdS.later N2.out b400)
      replace HB := Lib.hid (below2Z HB.out b400)
      clear ho4 hb4 ha4 b400 O3 C3 hz3 MS VN VS MN HAL
      go_wp2_with fail
      refine (stall_any (stat_nilW _) stOK_nilW (by decide) AL.out (by omega) HSA.out).mono ?_
      rintro e w41 ⟨xx3, yy3, uu3, rfl, h3, k3, b41⟩
      replace B2 := Lib.hid (upQ B2.out b41)
      replace V := Lib.hid (RdS.later V.out b41)
      replace M := Lib.hid (RdS.later M.out b41)
      replace ST1 := Lib.hid (StAt.later ST1.out b41)
      replace N1 := Lib.hid (RdS.later N1.out b41)
      replace ST2 := Lib.hid (StAt.later ST2.out b41)
      replace N2 := Lib.hid (RdS.later N2.out b41)
      replace AL := Lib.hid (RdS.later AL.out b41)
      replace HB := Lib.hid (below2Z HB.out b41)
      rw [HS3.out] at h3
      rw [HN3.out] at k3
      obtain ⟨xa3, xc3, ya3, yc3, rfl, rfl⟩ := sta_shapeW h3
      obtain ⟨ua3, uc3, rfl⟩ := nums_shapeW k3 HL3.out
      have ST3 := Lib.hid h3
      have N3 := Lib.hid k3
      clear h3 k3
      clear b41
      have b42 := bl_newZ w41 (.cells #[.slice xa3 s2.e.length xc3, .slice ya3 s2.s.length yc3] 28)
      have B3 := newQ w41 (.cells #[.slice xa3 s2.e.length xc3, .slice ya3 s2.s.length yc3] 28)
      have hB3 : w.heap.size ≤ w41.heap.size := HB.out.size
      replace B2 := Lib.hid (upQ B2.out b42)
      replace V := Lib.hid (RdS.later V.out b42)
      replace M := Lib.hid (RdS.later M.out b42)
      replace ST1 := Lib.hid (StAt.later ST1.out b42)
      replace N1 := Lib.hid (RdS.later N1.out b42)
      replace ST2 := Lib.hid (StAt.later ST2.out b42)
      replace N2 := Lib.hid (RdS.later N2.out b42)
      replace AL := Lib.hid (RdS.later AL.out b42)
      replace ST3 := Lib.hid (StAt.later ST3.out b42)
      replace N3 := Lib.hid (RdS.later N3.out b42)
      replace HB := Lib.hid (below2Z HB.out b42)
      clear b42
      replace B3 := Lib.hid B3
      go_upto_region 7 with fail
      generalize w41.alloc (.cells #[.slice xa3 s2.e.length xc3, .slice ya3 s2.s.length yc3] 28) = w43 at B2 B3 V M ST1 N1 ST2 N2 AL ST3 N3 HB ⊢
      obtain ⟨⟨B2c0, B2c1⟩, ⟨B2f0, B2f1⟩⟩ := blk2 B2.out
      obtain ⟨⟨B3c0, B3c1⟩, ⟨B3f0, B3f1⟩⟩ := blk2 B3.out
      go_wp2_with fail
      clear B2c0 B2c1 B2f0 B2f1 B3c0 B3c1 B3f0 B3f1
      refine (stsame_any ST2.out ST3.out (Lib.hid (staSame_self _))).mono ?_
      rintro e w44 ⟨rfl, b44⟩
      replace B2 := Lib.hid (upQ B2.out b44)
      replace B3 := Lib.hid (upQ B3.out b44)
      replace V := Lib.hid (RdS.later V.out b44)
      replace M := Lib.hid (RdS.later M.out b44)
      replace ST1 := Lib.hid (StAt.later ST1.out b44)
      replace N1 := Lib.hid (RdS.later N1.out b44)
      replace ST2 := Lib.hid (StAt.later ST2.out b44)
      replace N2 := Lib.hid (RdS.later N2.out b44)
      replace AL := Lib.hid (RdS.later AL.out b44)
      replace ST3 := Lib.hid (StAt.later ST3.out b44)
      replace N3 := Lib.hid (RdS.later N3.out b44)
      replace HB := Lib.hid (below2Z HB.out b44)
      clear b44
      clear B2
      go_wp2_with fail
      clear HS1 HS2 HS3 HN1 HN2 HN3 HSL HSM OK1 hle1 V M ST1 ST2
      go_loopw [12, 13] (fun gv i wr => ∃ j : Nat, j ≤ al.length ∧ i = .int .i64 j ∧ Hid (OwnS evVals 8 37 wr w44.heap.size gv (stGood (⟨[], []⟩ : Sta) (al.take j))) ∧ Hid (Below w44.heap.size w44 wr)) (fun _ i _ => al.length - (intOf i).toNat)
      case atStart => exact ⟨0, by omega, rfl, Lib.hid (ownS_nil _ _), Lib.hid (Below.refl _ _)⟩
      case round =>
        obtain ⟨j, hj, rfl, HO, HN⟩ := hrel
        by_cases hlt : j < al.length
        case pos =>
          obtain ⟨zb, zo, rfl, z1⟩ := Nums.at N3.out HN.out j (by rw [HL3.out]; exact hlt)
          have HBJ := HBOTH.out j
          have HSJ := HSTEP.out j hlt
          obtain ⟨q, hq⟩ : ∃ q, n3.getD j 0 = q := ⟨_, rfl⟩
          rw [hq] at z1 HBJ HSJ
          have HBJ2 := Lib.hid HBJ
          have HSJ2 := Lib.hid HSJ
          clear HBJ HSJ hq
          obtain ⟨eb, eo, rfl, hc⟩ := RdS.row AL.out HN.out j hlt
          obtain ⟨⟨kk, u, o, id, ⟨a, b, c, st⟩⟩, he⟩ : ∃ r, al.getD j Ev.zero = r := ⟨_, rfl⟩
          rw [he] at hc
          have HE := Lib.hid he
          obtain ⟨m0, m1, m2, m3, m4, m5, m6, m7⟩ := eightAt hc
          clear hc he
          have hglen : (stGood (⟨[], []⟩ : Sta) (al.take j)).length ≤ 60 := Nat.le_trans (stGood_len _ _) (by rw [List.length_take]; omega)
          have t5 : (q != q) = false := by simp
          by_cases hjl : j < l.length
          case pos =>
            obtain ⟨nb, no, rfl, e1⟩ := Nums.at N1.out HN.out j (by rw [HL1.out]; exact hjl)
            rw [← HBJ2.out.1 hjl] at e1
            clear HBJ2
            by_cases hq0 : q = 0
            case neg =>
              have t6 : (q == 0) = false := by simpa using hq0
              have hgo := HSJ2.out
              rw [if_neg hq0, List.append_nil] at hgo
              have HGO := Lib.hid hgo
              clear hgo m0 m1 m2 m3 m4 m5 m6 m7
              go_wp2_with fail
              go_roundw
              case rel => exact ⟨j + 1, by omega, by go_num, Lib.hid (by rw [HGO.out]; exact HO.out), HN⟩
              case measure => simp [intOf]; omega
            case pos =>
              have t6 : (q == 0) = true := by simpa using hq0
              have hgo := HSJ2.out
              rw [if_pos hq0, HE.out] at hgo
              have HGO := Lib.hid hgo
              clear hgo
              have SRC := Lib.hid (srcS_new (vals := evVals) (w := wr) (r := (⟨kk, u, o, id, ⟨a, b, c, st⟩⟩ : Ev)) (cs := #[.int .i64 kk, .string ⟨u.toArray⟩, .string ⟨o.toArray⟩, .int .i64 id, .int .i64 a, .int .i64 b, .int .i64 c, .string ⟨st.toArray⟩]) rfl (e := 37) (B := wr.heap.size) rfl)
              have HO2 : Hid (OwnS evVals 8 37 (wr.alloc (.cells #[.int .i64 kk, .string ⟨u.toArray⟩, .string ⟨o.toArray⟩, .int .i64 id, .int .i64 a, .int .i64 b, .int .i64 c, .string ⟨st.toArray⟩] 37)) w44.heap.size _ _) := Lib.hid (OwnS.alloc HO.out _)
              have hz5 : w44.heap.size ≤ (wr.alloc (.cells #[.int .i64 kk, .string ⟨u.toArray⟩, .string ⟨o.toArray⟩, .int .i64 id, .int .i64 a, .int .i64 b, .int .i64 c, .string ⟨st.toArray⟩] 37)).heap.size := by rw [World.size_alloc]; exact Nat.le_succ_of_le HN.out.size
              go_wp2_with (at_builtin; go_must (refine wpList_append_S evOK rfl _ _ rfl w44.heap.size _ (stGood (⟨[], []⟩ : Sta) (al.take j)) rfl (by exact HO2.out) (some ⟨wr.heap.size, 0, none⟩) 1 1 [⟨kk, u, o, id, ⟨a, b, c, st⟩⟩] rfl rfl (fun e => nomatch e) SRC.out (by simp only [List.length_cons, List.length_nil]; omega) hz5 ?_))
              intro v5 w5 ho5 hb5
              have HN2 := Lib.hid ((HN.out.alloc HN.out.size _).trans hb5)
              rw [← HGO.out] at ho5
              have HO5 := Lib.hid ho5
              clear ho5 hb5 m0 m1 m2 m3 m4 m5 m6 m7 SRC HO2 hz5
              go_wp2_with fail
              go_roundw
              case rel => exact ⟨j + 1, by omega, by go_num, HO5, HN2⟩
              case measure => simp [intOf]; omega
          case neg =>
            obtain ⟨k, hk⟩ : ∃ k, j - l.length = k := ⟨_, rfl⟩
            have hk1 : (j : Int) - (l.length : Int) = (k : Int) := by omega
            have hk2 : k < m.length := by have := HLM.out; omega
            obtain ⟨nb, no, rfl, e1⟩ := Nums.at N2.out HN.out k (by rw [HL2.out]; exact hk2)
            have hbj := HBJ2.out.2 hjl
            rw [hk] at hbj
            rw [← hbj] at e1
            have hw7 : IntKind.i64.wrap ((j : Int) - (l.length : Int)) = (k : Int) := by rw [hk1]; exact IntWalk.i64_in _ (by omega)
            clear HBJ2 hk hbj
            by_cases hq0 : q = 0
            case neg =>
              have t6 : (q == 0) = false := by simpa using hq0
              have hgo := HSJ2.out
              rw [if_neg hq0, List.append_nil] at hgo
              have HGO := Lib.hid hgo
              clear hgo m0 m1 m2 m3 m4 m5 m6 m7
              go_wp2_with fail
              go_roundw
              case rel => exact ⟨j + 1, by omega, by go_num, Lib.hid (by rw [HGO.out]; exact HO.out), HN⟩
              case measure => simp [intOf]; omega
            case pos =>
              have t6 : (q == 0) = true := by simpa using hq0
              have hgo := HSJ2.out
              rw [if_pos hq0, HE.out] at hgo
              have HGO := Lib.hid hgo
              clear hgo
              have SRC := Lib.hid (srcS_new (vals := evVals) (w := wr) (r := (⟨kk, u, o, id, ⟨a, b, c, st⟩⟩ : Ev)) (cs := #[.int .i64 kk, .string ⟨u.toArray⟩, .string ⟨o.toArray⟩, .int .i64 id, .int .i64 a, .int .i64 b, .int .i64 c, .string ⟨st.toArray⟩]) rfl (e := 37) (B := wr.heap.size) rfl)
              have HO2 : Hid (OwnS evVals 8 37 (wr.alloc (.cells #[.int .i64 kk, .string ⟨u.toArray⟩, .string ⟨o.toArray⟩, .int .i64 id, .int .i64 a, .int .i64 b, .int .i64 c, .string ⟨st.toArray⟩] 37)) w44.heap.size _ _) := Lib.hid (OwnS.alloc HO.out _)
              have hz5 : w44.heap.size ≤ (wr.alloc (.cells #[.int .i64 kk, .string ⟨u.toArray⟩, .string ⟨o.toArray⟩, .int .i64 id, .int .i64 a, .int .i64 b, .int .i64 c, .string ⟨st.toArray⟩] 37)).heap.size := by rw [World.size_alloc]; exact Nat.le_succ_of_le HN.out.size
              go_wp2_with (at_builtin; go_must (refine wpList_append_S evOK rfl _ _ rfl w44.heap.size _ (stGood (⟨[], []⟩ : Sta) (al.take j)) rfl (by exact HO2.out) (some ⟨wr.heap.size, 0, none⟩) 1 1 [⟨kk, u, o, id, ⟨a, b, c, st⟩⟩] rfl rfl (fun e => nomatch e) SRC.out (by simp only [List.length_cons, List.length_nil]; omega) hz5 ?_))
              intro v5 w5 ho5 hb5
              have HN2 := Lib.hid ((HN.out.alloc HN.out.size _).trans hb5)
              rw [← HGO.out] at ho5
              have HO5 := Lib.hid ho5
              clear ho5 hb5 m0 m1 m2 m3 m4 m5 m6 m7 SRC HO2 hz5
              go_wp2_with fail
              go_roundw
              case rel => exact ⟨j + 1, by omega, by go_num, HO5, HN2⟩
              case measure => simp [intOf]; omega
        have hjn : j = al.length := by omega
        have ho := HO.out
        rw [hjn, List.take_length, HG.out] at ho
        have hgr := OwnS.rd evOK ho
        obtain ⟨ga, gc, rfl, -⟩ := RdS.open' hgr
        have GL := Lib.hid hgr
        clear ho hgr HO
        replace B3 := Lib.hid (upQ B3.out HN.out)
        replace ST3 := Lib.hid (StAt.later ST3.out HN.out)
        replace HB := Lib.hid (below2Z HB.out HN.out)
        clear N1 N2 N3 AL
        go_wp2_with fail
        refine (stall_any (stat_nilW _) stOK_nilW (by decide) GL.out (by omega) HSG.out).mono ?_
        rintro e w971 ⟨xx4, yy4, uu4, rfl, h4, k4, b971⟩
        replace B3 := Lib.hid (upQ B3.out b971)
        replace ST3 := Lib.hid (StAt.later ST3.out b971)
        replace GL := Lib.hid (RdS.later GL.out b971)
        replace HB := Lib.hid (below2Z HB.out b971)
        rw [HS4.out] at h4
        rw [HN4.out] at k4
        obtain ⟨xa4, xc4, ya4, yc4, rfl, rfl⟩ := sta_shapeW h4
        obtain ⟨ua4, uc4, rfl⟩ := nums_shapeW k4 HL4.out
        have ST4 := Lib.hid h4
        have N4 := Lib.hid k4
        clear h4 k4
        clear b971
        have b972 := bl_newZ w971 (.cells #[.slice xa4 s2.e.length xc4, .slice ya4 s2.s.length yc4] 28)
        have B4 := newQ w971 (.cells #[.slice xa4 s2.e.length xc4, .slice ya4 s2.s.length yc4] 28)
        have hB4 : w.heap.size ≤ w971.heap.size := HB.out.size
        replace B3 := Lib.hid (upQ B3.out b972)
        replace ST3 := Lib.hid (StAt.later ST3.out b972)
        replace GL := Lib.hid (RdS.later GL.out b972)
        replace ST4 := Lib.hid (StAt.later ST4.out b972)
        replace N4 := Lib.hid (RdS.later N4.out b972)
        replace HB := Lib.hid (below2Z HB.out b972)
        clear b972
        replace B4 := Lib.hid B4
        go_upto_region 22 with fail
        generalize w971.alloc (.cells #[.slice xa4 s2.e.length xc4, .slice ya4 s2.s.length yc4] 28) = w973 at B3 B4 ST3 GL ST4 N4 HB ⊢
        go_wp2_with fail
        go_loopw [17] (fun i wx => ∃ p : Nat, p ≤ g.length ∧ i = .int .i64 p ∧ Hid (Below w973.heap.size w973 wx)) (fun i _ => g.length - (intOf i).toNat)
        case atStart => exact ⟨0, by omega, rfl, Lib.hid (Below.refl _ _)⟩
        case round =>
          obtain ⟨p, hp, rfl, HX⟩ := hrel
          by_cases hpt : p < g.length
          case pos =>
            obtain ⟨nb, no, rfl, e1⟩ := Nums.at N4.out HX.out p (by rw [HL4.out]; exact hpt)
            rw [HG0.out p hpt] at e1
            go_wp2_with fail
            go_roundw
            case rel => exact ⟨p + 1, by omega, by go_num, HX⟩
            case measure => simp [intOf]; omega
          replace B3 := Lib.hid (upQ B3.out HX.out)
          replace B4 := Lib.hid (upQ B4.out HX.out)
          replace ST3 := Lib.hid (StAt.later ST3.out HX.out)
          replace ST4 := Lib.hid (StAt.later ST4.out HX.out)
          replace HB := Lib.hid (below2Z HB.out HX.out)
          obtain ⟨⟨B3c0, B3c1⟩, ⟨B3f0, B3f1⟩⟩ := blk2 B3.out
          obtain ⟨⟨B4c0, B4c1⟩, ⟨B4f0, B4f1⟩⟩ := blk2 B4.out
          go_wp2_with fail
          clear B3c0 B3c1 B3f0 B3f1 B4c0 B4c1 B4f0 B4f1
          refine (stsame_any ST3.out ST4.out (Lib.hid (staSame_self _))).mono ?_
          rintro e w1971 ⟨rfl, b1971⟩
          replace B3 := Lib.hid (upQ B3.out b1971)
          replace B4 := Lib.hid (upQ B4.out b1971)
          replace ST3 := Lib.hid (StAt.later ST3.out b1971)
          replace ST4 := Lib.hid (StAt.later ST4.out b1971)
          replace HB := Lib.hid (below2Z HB.out b1971)
          clear b1971
          go_wp2_with fail
          refine (live14 _).mono ?_
          rintro e w1972 ⟨rfl, b1972⟩
          replace HB := Lib.hid (below2Z HB.out b1972)
          clear b1972
          go_wp2_with fail
          go_ret
          exact ⟨rfl, HB.out⟩

theorem walkStateParts {w : World} {v v2 : Value} {l m : List Ev} (hv : Evs w v l) (_ : ∀ e ∈ l, evFit e) (hm : Evs w v2 m) (_ : ∀ e ∈ m, evFit e) :
    Calls Try.prog 3 #[v, v2] w fun e w' => e = .returned (.bool true) ∧ Below w.heap.size w w' := stparts hv hm

end Go.Proofs.Ytndicdomdndjaaa

end

section

/-
  THE FRAME OF THE PROOF OF StateParts: for every input the law returns true, and each argument reads behind the call as it read before. No condition.
-/
namespace Go.Proofs.Ytndicdomdndjaaa.stateParts
open Go.ChangeShapes Go.WideShapes Go.ChangeAt Go.RowKit
open Go.ChangeMaps (open_string shut_string)
set_option linter.unusedVariables false

theorem own : ownKnob Try.prog.godebug = none := by kernel_rfl
theorem laidOut : laidOutB Try.prog = true := by kernel_rfl

set_option maxRecDepth 100000 in
theorem lifted (os : Os) (started : os.Started) (H : Type) (enc : TypeId × Value → H) :
    ReturnsInHanded {} Try.checked os 3 .any (Rows.statePartsSpec.pre6 enc Try.prog Try.f3 Rows.statePartsRow.domain false) (Rows.statePartsSpec.post enc Try.prog Try.f3 false true false false) := by
  refine returnsInHanded_of_change (C := Try.checked) own started (by kernel_rfl) Try.func3
    (ChangeSpec.witness6 (enc := enc) (C := Try.checked) false ⟨#[], #[.slice none 0 0, .slice none 0 0], []⟩ 8 (by kernel_rfl) (by kernel_rfl) (by kernel_rfl) (by kernel_rfl)) ?_
  intro W base args ds gs before hval0 hW hcnd _
  have hval : ∀ (j : Nat) t v, Try.f3.params[j]? = some t → args[j]? = some v → Value.okWide Try.prog W .any base t v := hval0
  have hW' := hW
  obtain ⟨p, q, hA0, hV, rfl, hfz, hnd⟩ := hW
  have hA : DataW.TrodAll enc Try.prog W 0 (fun _ => true) true Try.f3.params.toList args.toList ds p := hA0
  rw [Try.params3] at hA hval
  obtain ⟨v0, vs0, d0, ds0, p0, q0, hargs, rfl, rfl, h0, r0⟩ := trodAll_cons hA
  obtain ⟨v1, vs1, d1, ds1, p1, q1, rfl, rfl, rfl, h1, r1⟩ := trodAll_cons r0
  obtain ⟨rfl, rfl, rfl⟩ := trodAll_nil r1
  obtain rfl : args = #[v0, v1] := by cases args; simp_all
  obtain ⟨rfl, rfl⟩ := trodVars_none hV
  have k0 := h0
  have lt0 : ∀ x ∈ p0, x.block < W.heap.size := by obtain ⟨m, hm⟩ := k0; exact DataW.trod_lt m _ _ _ hm
  obtain ⟨l0, w0, f0⟩ := open_evs (hval 0 22 v0 rfl rfl) h0
  have k1 := h1
  have lt1 : ∀ x ∈ p1, x.block < W.heap.size := by obtain ⟨m, hm⟩ := k1; exact DataW.trod_lt m _ _ _ hm
  obtain ⟨l1, w1, f1⟩ := open_evs (hval 1 22 v1 rfl rfl) h1
  clear hA0 hval0
  refine (walkStateParts (w := W) w0 f0 w1 f1).mono fun e W' ⟨he, bel⟩ => ?_
  subst he
  exact ⟨_, rfl, _, _, _, [], _, [], hW', trodAll_mk1 (shut_bool Try.underlying4 _), (trodAll_cons_mk (Below.trod laidOut (by kernel_rfl) (of_decide_eq_true (by kernel_rfl)) k0 bel lt0) (trodAll_cons_mk (Below.trod laidOut (by kernel_rfl) (of_decide_eq_true (by kernel_rfl)) k1 bel lt1) trodAll_mk0)), rfl, bel.frame _, fun h => by cases h⟩

theorem over : Rows.statePartsRow.holds Try.pinned (OpenSpec.ofChange Rows.statePartsSpec) :=
  OpenClaim.holds_of_wide 3 Try.f3 rfl rfl rfl rfl rfl rfl rfl ⟨rfl, rfl, rfl, rfl, rfl⟩ rfl rfl rfl rfl rfl (by kernel_rfl) Try.func3 (by kernel_rfl)
    (of_decide_eq_true (by kernel_rfl)) (by unfold Func.isWrapper; first | (rw [if_pos (by decide +kernel)]; kernel_rfl) | (rw [if_neg (by decide +kernel)]; exact ⟨rfl, rfl⟩))
    (fun os started H enc _ => lifted os started H enc)

/-- THE STATEMENT. -/
theorem proved : Rows.StatePartsSaid := over
#print axioms proved
end Go.Proofs.Ytndicdomdndjaaa.stateParts

end
