/-
  TEXTS OF THE PROOF, one behind the other: RosWat, RosSymS.
-/
import Derived.Test.YtlckphdmflofgaaB12

section
/-
  LAYER 8, THE CODE: Watchers, where sorting turns nothing.
-/
namespace Go.Proofs.Ytlckphdmflofgaa
open Go.RowKit

/-- find, of an entry that is there. -/
theorem rfind_mem {w : World} {v : Value} {l : List Ent} (hv : Ents w v l) (hr : Rise l) {xo xc : List UInt8} {x1 x2 x3 x4 x5 : Bool} (hm : ⟨xo, xc, ⟨x1, x2, x3, x4, x5⟩⟩ ∈ l) :
    Calls Try.prog 36 #[v, .agg #[.string ⟨xo.toArray⟩, .string ⟨xc.toArray⟩, .bool x1, .bool x2, .bool x3, .bool x4, .bool x5]] w fun e w' => e = .returned (.tuple #[.agg #[.string ⟨xo.toArray⟩, .string ⟨xc.toArray⟩, .bool x1, .bool x2, .bool x3, .bool x4, .bool x5], .bool true]) ∧ Below w.heap.size w w' := by
  have hany : (l.any fun e => entIs e ⟨xo, xc, ⟨x1, x2, x3, x4, x5⟩⟩) = true := by
    rw [List.any_eq_true]
    exact ⟨_, hm, entIs_iff.2 ⟨rfl, rfl⟩⟩
  have ht := (entPlace_there hr ⟨xo, xc, ⟨x1, x2, x3, x4, x5⟩⟩).trans hany
  rw [Bool.and_eq_true, decide_eq_true_eq] at ht
  obtain ⟨hlt, hs⟩ := ht
  have he : l.getD (entPlace l ⟨xo, xc, ⟨x1, x2, x3, x4, x5⟩⟩) Ent.zero = ⟨xo, xc, ⟨x1, x2, x3, x4, x5⟩⟩ := by
    have h1 : l.getD (entPlace l ⟨xo, xc, ⟨x1, x2, x3, x4, x5⟩⟩) Ent.zero ∈ l := by rw [getD_at hlt]; exact List.getElem_mem hlt
    exact rise_mem entOrd hr h1 hm hs
  rw [he] at hs
  exact find_yes hv hr xo xc x1 x2 x3 x4 x5 hlt he hs

theorem ownT_later {w w' : World} {base e : Nat} {v : Value} {t : List (List UInt8)} (h : OwnT w base e v t) (hb : Below w.heap.size w w') : OwnT w' base e v t := by
  refine ⟨h.1, ?_⟩
  rcases h.2 with h' | ⟨g, cap, cur, h1, h2, h3, h4⟩
  · exact .inl h'
  · exact .inr ⟨g, cap, cur, h1, h2, by rw [hb.block g (Array.getElem?_eq_some_iff.1 h3).1]; exact h3, h4⟩

theorem compact_self {ls : List (List UInt8)} (hr : ls.Pairwise fun a b => idLess a b = true) : Lib.compactUpTo ls.toArray ls.toArray.size = ls := by
  rw [Lib.compactUpTo_all _ _ (fun j hj => by
    have hj' : j < ls.length := by simpa using hj
    unfold Lib.keeps
    rw [decide_eq_true_eq]
    by_cases h0 : j = 0
    · exact .inl h0
    · refine .inr ?_
      rw [getElem!_pos _ j (by simpa using hj'), getElem!_pos _ (j - 1) (by simp; omega)]
      simp only [List.getElem_toArray]
      have := List.pairwise_iff_getElem.1 hr (j - 1) j (by omega) hj' (by omega)
      intro e
      rw [e, idLess_irrefl] at this
      cases this)]
  refine List.ext_getElem (by simp) fun i h1 h2 => ?_
  simp only [List.getElem_map, List.getElem_range]
  rw [getElem!_pos _ i (by simpa using h2)]
  simp

/-- A list of texts that rise is left alone by Compact. -/
theorem rcompact_any {w : World} {base : Nat} {v : Value} {ls : List (List UInt8)} (ho : OwnT w base 9 v ls) (hl : ls.length ≤ 4294967) (hr : ls.Pairwise fun a b => idLess a b = true) :
    Calls Try.prog 48 #[v] w fun e w' => ∃ u, e = .returned u ∧ Texts w' u ls ∧ Below base w w' := by
  have hT := ho.texts
  rcases ho with ⟨hll, ⟨rfl, h0⟩ | ⟨g, cap, cur, rfl, hbg, hg, hnc, hcm, hcs, htk⟩⟩
  · obtain rfl : ls = [] := List.length_eq_zero_iff.1 h0
    refine (Try.slices_Compact_string_empty none 0 w).mono ?_
    rintro e w' ⟨rfl, rfl⟩
    exact ⟨_, rfl, hT, Below.refl _ _⟩
  · have hgl : g < w.heap.size := (Array.getElem?_eq_some_iff.1 hg).1
    have hH : Sort.Holds encS w g 0 ls.toArray := by
      intro j hj
      have hj' : j < ls.length := by simpa using hj
      rw [Nat.zero_add]
      refine ⟨?_, frozen_of_row w g j _ _ hg⟩
      refine (cell_of_row w g j _ _ (0, 0) hg).trans ?_
      have e : cur[j]? = (cur.toList.take (ls.length * 1))[j]? := by
        rw [List.getElem?_take_of_lt (by omega)]
        simp
      rw [e, htk, List.getElem?_map, List.getElem?_eq_getElem hj', getElem!_pos _ j (by simpa using hj')]
      simp
    have HK := Try.slices_Compact encS encS_cell eql_S neq_S [] (fun _ => by kernel_rfl) g 0 cap ls.toArray w hH (by simp; omega) (by simpa using hnc)
    have hM := compact_self hr
    have hsz : ls.toArray.size = ls.length := by simp
    rw [hM, hsz] at HK
    refine HK.mono ?_
    rintro e w' ⟨rfl, q, hw⟩
    have ht := compact_texts (q := q) (ls := ls) (cap := cap) hH hgl (by simpa using hnc) hcm (by simp)
    rw [hsz] at ht
    rw [← hw] at ht
    exact ⟨_, rfl, ht, by rw [hw]; first | exact Lib.below_putRow (Below.refl _ _) hbg | exact Sort.below_putRow (Below.refl _ _) hbg⟩

set_option maxHeartbeats 3200000 in
set_option maxRecDepth 100000 in
theorem rwatchers_any {w : World} {v : Value} {l : List Ent} (hv : Ents w v l) (hr : Rise l) (hl : l.length ≤ 4294967) (n : List UInt8)
    (hsort : ∀ {w : World} {v : Value} {t : List Ent}, Ents w v t → Rise t → t.length ≤ l.length → Calls Try.prog 46 #[v, .func (.func 47) #[] #[]] w fun e w' => e = .returned (.tuple #[]) ∧ Below w.heap.size w w') :
    Calls Try.prog 28 #[v, .string ⟨n.toArray⟩] w fun e w' => ∃ u, e = .returned u ∧ Texts w' u (roWat l n) ∧ Below w.heap.size w w' := by
  obtain ⟨i0, hi, hz0, hz1, hz2⟩ := info_parts Try.infoTxt
  have HAB := Lib.hid (rabout_any hv hl n)
  obtain ⟨a, cap, rfl, _⟩ := hv.open'
  have HRN := Lib.hid (roNear_rise hr n)
  have HNL := Lib.hid (show (roNear l n).length ≤ l.length from List.length_filter_le _ _)
  have HSO : Hid (∀ (w : World) (v : Value) (t : List Ent), Ents w v t → Rise t → t.length ≤ l.length → Calls Try.prog 46 #[v, .func (.func 47) #[] #[]] w fun e w' => e = .returned (.tuple #[]) ∧ Below w.heap.size w w') := Lib.hid (fun w v t h1 h2 h3 => hsort h1 h2 h3)
  have HWR := Lib.hid (roWat_rise hr n)
  have HWA := Lib.hid (roWats_all l n)
  have HLL := Lib.hid hl
  clear hv hr hsort hl
  go_enter Try.func28, Try.ntmps28
  go_wp2_with fail
  refine HAB.out.mono ?_
  rintro e w1 ⟨u, rfl, ho, b1⟩
  have V1 := Lib.hid (ho.rd entOK).ents
  have HB := Lib.hid b1
  obtain ⟨t, htt⟩ : ∃ t, roNear l n = t := ⟨_, rfl⟩
  rw [htt] at V1 HRN HNL HWA
  obtain ⟨na, ncap, e, hnm⟩ := V1.out.open'
  subst e
  have HN2 := Lib.hid htt
  clear ho b1 HAB htt
  go_wp2_with fail
  refine (HSO.out _ _ _ V1.out HRN.out HNL.out).mono ?_
  rintro e w2 ⟨rfl, b2⟩
  have V2 := Lib.hid (V1.out.later b2)
  replace HB := Lib.hid (below2S HB.out b2)
  clear b2 V1 HSO
  go_wp2_with fail
  go_loopw [6, 20] (fun s i wr => ∃ k : Nat, k ≤ t.length ∧ i = .int .i64 k ∧ Hid (OwnT wr w2.heap.size 9 s (roWats t n k)) ∧ Hid (Below w2.heap.size w2 wr)) (fun _ i _ => t.length - (intOf i).toNat)
  case atStart => exact ⟨0, by omega, rfl, World.ownsRow_nil _ _ _ _, Below.refl _ _⟩
  case round =>
    obtain ⟨k, hk, rfl, HO, HN⟩ := hrel
    by_cases hlt : k < t.length
    · obtain ⟨b, off, rfl, h0, h1, h2, h3, h4, h5, h6⟩ := V2.out.row HN.out k hlt
      obtain ⟨⟨xo, xc, ⟨x1, x2, x3, x4, x5⟩⟩, hr⟩ : ∃ r, t.getD k Ent.zero = r := ⟨_, rfl⟩
      have hX := roWats_next (c := n) hlt hr
      have hmem : ⟨xo, xc, ⟨x1, x2, x3, x4, x5⟩⟩ ∈ t := by rw [← hr, getD_at hlt]; exact List.getElem_mem hlt
      rw [hr] at h0 h1 h2 h3 h4 h5 h6
      simp only at h0 h1 h2 h3 h4 h5 h6 hX
      clear hr
      have bn := bl_newZ wr (.cells #[.string ⟨xo.toArray⟩, .string ⟨xc.toArray⟩, .bool x1, .bool x2, .bool x3, .bool x4, .bool x5] 70)
      have HO1 := Lib.hid (ownT_later HO.out bn)
      have HN1 := Lib.hid (below2S HN.out bn)
      have V1 := Lib.hid (V2.out.later HN1.out)
      have C8 := Lib.hid (cells7_made wr ⟨xo, xc, ⟨x1, x2, x3, x4, x5⟩⟩ 70)
      clear bn
      by_cases hc : xc = n
      · obtain ⟨⟨i1, i2, i3, i4, i5⟩, hi'⟩ : ∃ r, roIt t n xo = r := ⟨_, rfl⟩
        obtain ⟨q, hq⟩ : ∃ q, (t.any fun x => entIs x ⟨n, xo, It.zero⟩) = q := ⟨_, rfl⟩
        obtain ⟨r, hsr⟩ : ∃ r, suSees ⟨x1, x2, x3, x4, x5⟩ ⟨i1, i2, i3, i4, i5⟩ = r := ⟨_, rfl⟩
        have hb : roWB t n ⟨xo, xc, ⟨x1, x2, x3, x4, x5⟩⟩ = r := by
          unfold roWB
          simp only [hc, decide_true, Bool.true_and]
          rw [hi', hsr]
        rw [hb] at hX
        have HX := Lib.hid hX
        have FI := Lib.hid hi'
        have FQ := Lib.hid hq
        have HS := Lib.hid (ssees_eq x1 x2 x3 x4 x5 i1 i2 i3 i4 i5 hsr)
        have HM := Lib.hid hmem
        have E1 := Lib.hid (entry_any n xo)
        subst hc
        clear hb hX hi' hq hsr hmem
        go_wp2_with fail
        refine (rfind_mem V1.out HRN.out HM.out).mono ?_
        rintro e w3 ⟨rfl, b3⟩
        have b4 := below2S b3 (bl_newZ w3 (.cells #[.string ⟨xo.toArray⟩, .string ⟨xc.toArray⟩, .bool x1, .bool x2, .bool x3, .bool x4, .bool x5] 70))
        have C9 := Lib.hid (cells7_made w3 ⟨xo, xc, ⟨x1, x2, x3, x4, x5⟩⟩ 70)
        replace C8 := Lib.hid (C8.out.later b4)
        replace V1 := Lib.hid (V1.out.later b4)
        replace HO1 := Lib.hid (ownT_later HO1.out b4)
        replace HN1 := Lib.hid (below2S HN1.out b4)
        obtain ⟨c0, c1, c2, c3, c4, c5, c6⟩ := C8.out
        simp only [Nat.zero_add] at c0 c1 c2 c3 c4 c5 c6
        clear b3 b4 h0 h1 h2 h3 h4 h5 h6
        go_wp2_with fail
        generalize hW : w3.alloc (.cells #[.string ⟨xo.toArray⟩, .string ⟨xc.toArray⟩, .bool x1, .bool x2, .bool x3, .bool x4, .bool x5] 70) = w4 at C8 C9 V1 HO1 HN1 c0 c1 c2 c3 c4 c5 c6 ⊢
        clear hW c0 c1 c2 c3 c4 c5 c6
        refine (E1.out _).mono ?_
        rintro e w5 ⟨rfl, b5⟩
        replace C8 := Lib.hid (C8.out.later b5)
        replace C9 := Lib.hid (C9.out.later b5)
        replace V1 := Lib.hid (V1.out.later b5)
        replace HO1 := Lib.hid (ownT_later HO1.out b5)
        replace HN1 := Lib.hid (below2S HN1.out b5)
        clear b5
        go_wp2_with fail
        refine (rfind_eq V1.out HRN.out xc xo FI FQ).mono ?_
        rintro e w6 ⟨rfl, b6⟩
        have b7 := below2S b6 (bl_newZ w6 (.cells #[.string ⟨xc.toArray⟩, .string ⟨xo.toArray⟩, .bool i1, .bool i2, .bool i3, .bool i4, .bool i5] 70))
        have C11 := Lib.hid (cells7_made w6 ⟨xc, xo, ⟨i1, i2, i3, i4, i5⟩⟩ 70)
        replace C8 := Lib.hid (C8.out.later b7)
        replace C9 := Lib.hid (C9.out.later b7)
        replace HO1 := Lib.hid (ownT_later HO1.out b7)
        replace HN1 := Lib.hid (below2S HN1.out b7)
        obtain ⟨c0, c1, c2, c3, c4, c5, c6⟩ := C9.out
        obtain ⟨d0, d1, d2, d3, d4, d5, d6⟩ := C11.out
        simp only [Nat.zero_add] at c0 c1 c2 c3 c4 c5 c6 d0 d1 d2 d3 d4 d5 d6
        clear b6 b7 V1
        go_wp2_with fail
        generalize hW : w6.alloc (.cells #[.string ⟨xc.toArray⟩, .string ⟨xo.toArray⟩, .bool i1, .bool i2, .bool i3, .bool i4, .bool i5] 70) = w7 at C8 C9 C11 HO1 HN1 c0 c1 c2 c3 c4 c5 c6 d0 d1 d2 d3 d4 d5 d6 ⊢
        clear hW c0 c1 c2 c3 c4 c5 c6 d0 d1 d2 d3 d4 d5 d6
        refine (HS.out _).mono ?_
        rintro e w8 ⟨rfl, b8⟩
        replace C8 := Lib.hid (C8.out.later b8)
        replace HO1 := Lib.hid (ownT_later HO1.out b8)
        replace HN1 := Lib.hid (below2S HN1.out b8)
        obtain ⟨c0, c1, c2, c3, c4, c5, c6⟩ := C8.out
        simp only [Nat.zero_add] at c0 c1 c2 c3 c4 c5 c6
        clear b8 C9 C11
        cases r with
        | true =>
          have hX := HX.out
          simp only [if_true] at hX
          have HX2 := Lib.hid hX
          have O2 := Lib.hid (HO1.out.alloc (.cells #[.string ⟨xo.toArray⟩] 9))
          have N2 := Lib.hid (bl_allocS HN1.out (.cells #[.string ⟨xo.toArray⟩] 9))
          have hz3 := N2.out.size
          have hcl : (roWats t xc k).length ≤ 4294967 := by have := roWats_le t xc k; have := HNL.out; have := HLL.out; omega
          clear hX HO1 HX
          go_wp2_with (at_builtin; go_must (refine wpList_append_texts rfl _ _ 38 rfl w2.heap.size 9 i0 _ 16 Try.underlying38 hi hz0 hz1 hz2 rfl _ (roWats t xc k) rfl (by exact O2.out) _ 1 1 [xo] rfl rfl (fun e => nomatch e) ?c1 (by simp only [List.length_cons, List.length_nil]; omega) (by decide) hz3 ?_))
          case c1 => exact new_cellN (by simp)
          intro v' w' hown' hb'
          rw [← HX2.out] at hown'
          have O3 := Lib.hid hown'
          have N3 := Lib.hid (N2.out.trans hb')
          clear hown' hb' O2 c0 c1 c2 c3 c4 c5 c6
          go_wp2_with fail
          go_roundw
          case rel => exact ⟨k + 1, by omega, by go_num, O3, N3⟩
          case measure => simp [intOf]; omega
        | false =>
          have hX := HX.out
          simp only [Bool.false_eq_true, if_false] at hX
          have O3 := HO1
          rw [← hX] at O3
          clear hX HO1 HX c0 c1 c2 c3 c4 c5 c6
          go_wp2_with fail
          go_roundw
          case rel => exact ⟨k + 1, by omega, by go_num, O3, HN1⟩
          case measure => simp [intOf]; omega
      · have hb : roWB t n ⟨xo, xc, ⟨x1, x2, x3, x4, x5⟩⟩ = false := by unfold roWB; simp [hc]
        rw [if_neg (by rw [hb]; decide)] at hX
        have t2 : (xc != n) = true := by rw [bne_iff_ne]; exact hc
        have t3 : (xc == n) = false := by rw [beq_eq_false_iff_ne]; exact hc
        have O3 := HO1
        rw [← hX] at O3
        clear hX hb hc HO1 hmem V1 C8
        go_wp2_with fail
        go_roundw
        case rel => exact ⟨k + 1, by omega, by go_num, O3, HN1⟩
        case measure => simp [intOf]; omega
    · obtain rfl : k = t.length := by omega
      have HT := HO
      rw [HWA.out] at HT
      have hwl : (roWat l n).length ≤ 4294967 := by
        rw [← HWA.out]
        have := roWats_le t n t.length
        have := HNL.out
        have := HLL.out
        omega
      have HC := Lib.hid (rcompact_any HT.out hwl HWR.out)
      clear hwl HT HO
      go_wp2_with fail
      refine HC.out.mono ?_
      rintro e w9 ⟨y, rfl, hy, b9⟩
      have Y := Lib.hid hy
      have B9 := Lib.hid (HB.out.trans ((HN.out.trans b9).mono HB.out.size))
      clear hy b9
      go_wp2_with fail
      go_ret
      exact ⟨_, rfl, Y.out, B9.out⟩

end Go.Proofs.Ytlckphdmflofgaa
end

section
/-
  slices.SortStableFunc OF ENTRIES THAT RISE ALREADY, however many; Watchers of rosters that rise.
-/
namespace Go.Proofs.Ytlckphdmflofgaa
open Go.RowKit

set_option maxHeartbeats 800000 in
set_option maxRecDepth 100000 in
theorem rstable_rise {w : World} {v : Value} {l : List Ent} (hv : Ents w v l) (hr : Rise l) (hl : l.length ≤ 4294967) :
    Calls Try.prog 66 #[v, .int .i64 l.length, .func (.func 47) #[] #[]] w fun e w' => e = .returned (.tuple #[]) ∧ Below w.heap.size w w' := by
  have HV := Lib.hid hv
  have HI : Hid (∀ (a b : Nat), a ≤ b → b ≤ l.length → ∀ w, Ents w v l → _) := Lib.hid (fun a b hab hb w hv => rinsert_any (w := w) hv hr hab hb hl)
  have HS : Hid (∀ (a m b : Nat), a < m → m < b → b ≤ l.length → ∀ w, Ents w v l → _) := Lib.hid (fun a m b h1 h2 hb w hv => rsym_any hr hl _ (Nat.le_refl (b - a)) h1 h2 hb w hv)
  obtain ⟨ad, cap, rfl, hm⟩ := hv.open'
  clear hv hr
  go_enter Try.func66, Try.ntmps66
  go_wp2_with fail
  go_loopw [7, 8] (fun i j wr => ∃ k k2 : Nat, k ≤ l.length ∧ k + 20 ≤ k2 ∧ k2 ≤ k + 20 ∧ i = .int .i64 k ∧ j = .int .i64 k2 ∧ Hid (Below w.heap.size w wr)) (fun i _ _ => l.length + 1 - (intOf i).toNat)
  case atStart => exact ⟨0, 20, by omega, by omega, by omega, rfl, rfl, Below.refl _ _⟩
  case round =>
    obtain ⟨k, k2', hk, hk1, hk2, rfl, rfl, HB⟩ := hrel
    have W1 := Lib.hid (HV.out.later HB.out)
    by_cases hlt : k2' ≤ l.length
    · have t1 : decide ((k2' : Int) ≤ (l.length : Int)) = true := by rw [decide_eq_true_eq]; omega
      have H1 := Lib.hid (HI.out k k2' (by omega) (by omega) _ W1.out)
      obtain ⟨k3, ek3, hk3, hk4⟩ : ∃ k3 : Nat, (k2' : Int) + 20 = (k3 : Int) ∧ k2' + 20 ≤ k3 ∧ k3 ≤ k2' + 20 := ⟨k2' + 20, by omega, by omega, by omega⟩
      go_wp2_with fail
      refine H1.out.mono ?_
      rintro e w1 ⟨rfl, b1⟩
      have B1 := Lib.hid (below2S HB.out b1)
      clear b1
      go_wp2_with fail
      go_roundw
      case rel => exact ⟨k2', k3, by omega, by omega, by omega, rfl, rfl, B1⟩
      case measure => simp [intOf]; omega
    · have t1 : decide ((k2' : Int) ≤ (l.length : Int)) = false := by rw [decide_eq_false_iff_not]; omega
      have H1 := Lib.hid (HI.out k l.length hk (Nat.le_refl _) _ W1.out)
      go_wp2_with fail
      refine H1.out.mono ?_
      rintro e w1 ⟨rfl, b1⟩
      have B1 := Lib.hid (below2S HB.out b1)
      clear b1 HB W1 H1 t1 hk hk1 hk2 hlt
      go_wp2_with fail
      go_loopw [6] (fun i wr => ∃ s : Nat, 20 ≤ s ∧ s ≤ 2 * l.length + 20 ∧ i = .int .i64 s ∧ Hid (Below w.heap.size w wr)) (fun i _ => l.length - (intOf i).toNat)
      case atStart => exact ⟨20, by omega, by omega, rfl, B1⟩
      case round =>
        obtain ⟨s, hs, hs2, rfl, HB2⟩ := hrel
        by_cases hlt2 : s < l.length
        · have t2 : decide ((s : Int) < (l.length : Int)) = true := by rw [decide_eq_true_eq]; omega
          obtain ⟨s2, es2, hs3, hs4⟩ : ∃ s2 : Nat, 2 * (s : Int) = (s2 : Int) ∧ s2 ≤ 2 * s ∧ 2 * s ≤ s2 := ⟨2 * s, by omega, by omega, by omega⟩
          have es3 : (s : Int) * 2 = (s2 : Int) := by omega
          go_wp2_with fail
          go_loopw [7, 8] (fun i j wr => ∃ c c2 : Nat, c ≤ l.length ∧ c + s2 ≤ c2 ∧ c2 ≤ c + s2 ∧ i = .int .i64 c ∧ j = .int .i64 c2 ∧ Hid (Below w.heap.size w wr)) (fun i _ _ => l.length + 1 - (intOf i).toNat)
          case atStart => exact ⟨0, s2, by omega, by omega, by omega, rfl, rfl, HB2⟩
          case round =>
            obtain ⟨c, c2, hc, hc1, hc2, rfl, rfl, HB3⟩ := hrel
            have W3 := Lib.hid (HV.out.later HB3.out)
            obtain ⟨cm, ecm, hm1, hm2⟩ : ∃ cm : Nat, (c : Int) + (s : Int) = (cm : Int) ∧ cm ≤ c + s ∧ c + s ≤ cm := ⟨c + s, by omega, by omega, by omega⟩
            by_cases hlt3 : c2 ≤ l.length
            · have t3 : decide ((c2 : Int) ≤ (l.length : Int)) = true := by rw [decide_eq_true_eq]; omega
              have H3 := Lib.hid (HS.out c cm c2 (by omega) (by omega) hlt3 _ W3.out)
              obtain ⟨c3, ec3, hc3, hc4⟩ : ∃ c3 : Nat, (c2 : Int) + (s2 : Int) = (c3 : Int) ∧ c3 ≤ c2 + s2 ∧ c2 + s2 ≤ c3 := ⟨c2 + s2, by omega, by omega, by omega⟩
              go_wp2_with fail
              refine H3.out.mono ?_
              rintro e w3 ⟨rfl, b3⟩
              have B3 := Lib.hid (below2S HB3.out b3)
              clear b3
              go_wp2_with fail
              go_roundw
              case rel => exact ⟨c2, c3, by omega, by omega, by omega, rfl, by first | rfl | go_num, B3⟩
              case measure => simp [intOf]; omega
            · have t3 : decide ((c2 : Int) ≤ (l.length : Int)) = false := by rw [decide_eq_false_iff_not]; omega
              by_cases hlt4 : cm < l.length
              · have t4 : decide ((cm : Int) < (l.length : Int)) = true := by rw [decide_eq_true_eq]; omega
                have H4 := Lib.hid (HS.out c cm l.length (by omega) hlt4 (Nat.le_refl _) _ W3.out)
                go_wp2_with fail
                refine H4.out.mono ?_
                rintro e w4 ⟨rfl, b4⟩
                have B4 := Lib.hid (below2S HB3.out b4)
                clear b4
                go_wp2_with fail
                go_roundw
                case rel => exact ⟨s2, by omega, by omega, by first | rfl | go_num, B4⟩
                case measure => simp [intOf]; omega
              · have t4 : decide ((cm : Int) < (l.length : Int)) = false := by rw [decide_eq_false_iff_not]; omega
                go_wp2_with fail
                go_roundw
                case rel => exact ⟨s2, by omega, by omega, by first | rfl | go_num, HB3⟩
                case measure => simp [intOf]; omega
        · have t2 : decide ((s : Int) < (l.length : Int)) = false := by rw [decide_eq_false_iff_not]; omega
          go_wp2_with fail
          go_end0
          exact ⟨rfl, HB2.out⟩

set_option maxHeartbeats 800000 in
set_option maxRecDepth 100000 in
theorem rsort_rise {w : World} {v : Value} {l : List Ent} (hv : Ents w v l) (hr : Rise l) (hl : l.length ≤ 4294967) :
    Calls Try.prog 46 #[v, .func (.func 47) #[] #[]] w fun e w' => e = .returned (.tuple #[]) ∧ Below w.heap.size w w' := by
  have HI := Lib.hid (rstable_rise hv hr hl)
  obtain ⟨ad, cap, rfl, hm⟩ := hv.open'
  clear hv hr
  go_enter Try.func46, Try.ntmps46
  go_wp2_with fail
  refine HI.out.mono ?_
  rintro e w1 ⟨rfl, b1⟩
  have B1 := Lib.hid b1
  clear b1
  go_wp2_with fail
  go_end0
  exact ⟨rfl, B1.out⟩

theorem rwatchers_rise {w : World} {v : Value} {l : List Ent} (hv : Ents w v l) (hr : Rise l) (hl : l.length ≤ 4294967) (n : List UInt8) :
    Calls Try.prog 28 #[v, .string ⟨n.toArray⟩] w fun e w' => ∃ u, e = .returned u ∧ Texts w' u (roWat l n) ∧ Below w.heap.size w w' :=
  rwatchers_any hv hr hl n (fun hv hr ht => rsort_rise hv hr (Nat.le_trans ht hl))

end Go.Proofs.Ytlckphdmflofgaa
end
