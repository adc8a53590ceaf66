/-
  TEXTS OF THE PROOF, one behind the other: RosWat, RosLive, RosRef.
-/
import Derived.Test.YtfkadkopolenbaaGR17
import Derived.Test.YtfkadkopolenbaaGR16
import Derived.Test.YtfkadkopolenbaaGR12
import Derived.Test.YtfkadkopolenbaaGR11

section

/-
  LAYER 8, THE CODE: Watchers, where sorting turns nothing.
-/
namespace Go.Proofs.Ytfkadkopolenbaa
open Go.RowKit

/-- find, of an entry that is there. -/
theorem rfind_mem {w : World} {v : Value} {l : List Ent} (hv : Ents w v l) (hr : Rise l) {xo xc : List UInt8} {x1 x2 x3 x4 x5 : Bool} (hm : ⟨xo, xc, ⟨x1, x2, x3, x4, x5⟩⟩ ∈ l) :
    Calls Try.prog 64 #[v, .agg #[.string ⟨xo.toArray⟩, .string ⟨xc.toArray⟩, .bool x1, .bool x2, .bool x3, .bool x4, .bool x5]] w fun e w' => e = .returned (.tuple #[.agg #[.string ⟨xo.toArray⟩, .string ⟨xc.toArray⟩, .bool x1, .bool x2, .bool x3, .bool x4, .bool x5], .bool true]) ∧ Below w.heap.size w w' := by
  have hany : (l.any fun e => entIs e ⟨xo, xc, ⟨x1, x2, x3, x4, x5⟩⟩) = true := by
    rw [List.any_eq_true]
    exact ⟨_, hm, entIs_iff.2 ⟨rfl, rfl⟩⟩
  have ht := (entPlace_there hr ⟨xo, xc, ⟨x1, x2, x3, x4, x5⟩⟩).trans hany
  rw [Bool.and_eq_true, decide_eq_true_eq] at ht
  obtain ⟨hlt, hs⟩ := ht
  have he : l.getD (entPlace l ⟨xo, xc, ⟨x1, x2, x3, x4, x5⟩⟩) Ent.zero = ⟨xo, xc, ⟨x1, x2, x3, x4, x5⟩⟩ := by
    have h1 : l.getD (entPlace l ⟨xo, xc, ⟨x1, x2, x3, x4, x5⟩⟩) Ent.zero ∈ l := by rw [getD_at hlt]; exact List.getElem_mem hlt
    exact rise_mem entOrd hr h1 hm hs
  rw [he] at hs
  exact find_yes hv hr xo xc x1 x2 x3 x4 x5 hlt he hs

theorem ownT_later {w w' : World} {base e : Nat} {v : Value} {t : List (List UInt8)} (h : OwnT w base e v t) (hb : Below w.heap.size w w') : OwnT w' base e v t := by
  refine ⟨h.1, ?_⟩
  rcases h.2 with h' | ⟨g, cap, cur, h1, h2, h3, h4⟩
  · exact .inl h'
  · exact .inr ⟨g, cap, cur, h1, h2, by rw [hb.block g (Array.getElem?_eq_some_iff.1 h3).1]; exact h3, h4⟩

theorem compact_self {ls : List (List UInt8)} (hr : ls.Pairwise fun a b => idLess a b = true) : Lib.compactUpTo ls.toArray ls.toArray.size = ls := by
  rw [Lib.compactUpTo_all _ _ (fun j hj => by
    have hj' : j < ls.length := by simpa using hj
    unfold Lib.keeps
    rw [decide_eq_true_eq]
    by_cases h0 : j = 0
    · exact .inl h0
    · refine .inr ?_
      rw [getElem!_pos _ j (by simpa using hj'), getElem!_pos _ (j - 1) (by simp; omega)]
      simp only [List.getElem_toArray]
      have := List.pairwise_iff_getElem.1 hr (j - 1) j (by omega) hj' (by omega)
      intro e
      rw [e, idLess_irrefl] at this
      cases this)]
  refine List.ext_getElem (by simp) fun i h1 h2 => ?_
  simp only [List.getElem_map, List.getElem_range]
  rw [getElem!_pos _ i (by simpa using h2)]
  simp

/-- A list of texts that rise is left alone by Compact. -/
theorem rcompact_any {w : World} {base : Nat} {v : Value} {ls : List (List UInt8)} (ho : OwnT w base 9 v ls) (hl : ls.length ≤ 4294967) (hr : ls.Pairwise fun a b => idLess a b = true) :
    Calls Try.prog 65 #[v] w fun e w' => ∃ u, e = .returned u ∧ Texts w' u ls ∧ Below base w w' := by
  have hT := ho.texts
  rcases ho with ⟨hll, ⟨rfl, h0⟩ | ⟨g, cap, cur, rfl, hbg, hg, hnc, hcm, hcs, htk⟩⟩
  · obtain rfl : ls = [] := List.length_eq_zero_iff.1 h0
    refine (Try.slices_Compact_string_empty none 0 w).mono ?_
    rintro e w' ⟨rfl, rfl⟩
    exact ⟨_, rfl, hT, Below.refl _ _⟩
  · have hgl : g < w.heap.size := (Array.getElem?_eq_some_iff.1 hg).1
    have hH : Sort.Holds encS w g 0 ls.toArray := by
      intro j hj
      have hj' : j < ls.length := by simpa using hj
      rw [Nat.zero_add]
      refine ⟨?_, frozen_of_row w g j _ _ hg⟩
      refine (cell_of_row w g j _ _ (0, 0) hg).trans ?_
      have e : cur[j]? = (cur.toList.take (ls.length * 1))[j]? := by
        rw [List.getElem?_take_of_lt (by omega)]
        simp
      rw [e, htk, List.getElem?_map, List.getElem?_eq_getElem hj', getElem!_pos _ j (by simpa using hj')]
      simp
    have HK := Try.slices_Compact encS encS_cell eql_S neq_S [] (fun _ => by kernel_rfl) g 0 cap ls.toArray w hH (by simp; omega) (by simpa using hnc)
    have hM := compact_self hr
    have hsz : ls.toArray.size = ls.length := by simp
    rw [hM, hsz] at HK
    refine HK.mono ?_
    rintro e w' ⟨rfl, q, hw⟩
    have ht := compact_texts (q := q) (ls := ls) (cap := cap) hH hgl (by simpa using hnc) hcm (by simp)
    rw [hsz] at ht
    rw [← hw] at ht
    exact ⟨_, rfl, ht, by rw [hw]; first | exact Lib.below_putRow (Below.refl _ _) hbg | exact Sort.below_putRow (Below.refl _ _) hbg⟩

set_option maxHeartbeats 3200000 in
set_option maxRecDepth 100000 in
theorem rwatchers_any {w : World} {v : Value} {l : List Ent} (hv : Ents w v l) (hr : Rise l) (hl : l.length ≤ 4294967) (n : List UInt8)
    (hsort : ∀ {w : World} {v : Value} {t : List Ent}, Ents w v t → Rise t → t.length ≤ l.length → Calls Try.prog 63 #[v, .func (.func 60) #[] #[]] w fun e w' => e = .returned (.tuple #[]) ∧ Below w.heap.size w w') :
    Calls Try.prog 26 #[v, .string ⟨n.toArray⟩] w fun e w' => ∃ u, e = .returned u ∧ Texts w' u (roWat l n) ∧ Below w.heap.size w w' := by
  obtain ⟨i0, hi, hz0, hz1, hz2⟩ := info_parts Try.infoTxt
  have HAB := Lib.hid (rabout_any hv hl n)
  obtain ⟨a, cap, rfl, _⟩ := hv.open'
  have HRN := Lib.hid (roNear_rise hr n)
  have HNL := Lib.hid (show (roNear l n).length ≤ l.length from List.length_filter_le _ _)
  have HSO : Hid (∀ (w : World) (v : Value) (t : List Ent), Ents w v t → Rise t → t.length ≤ l.length → Calls Try.prog 63 #[v, .func (.func 60) #[] #[]] w fun e w' => e = .returned (.tuple #[]) ∧ Below w.heap.size w w') := Lib.hid (fun w v t h1 h2 h3 => hsort h1 h2 h3)
  have HWR := Lib.hid (roWat_rise hr n)
  have HWA := Lib.hid (roWats_all l n)
  have HLL := Lib.hid hl
  clear hv hr hsort hl
  go_enter Try.func26, Try.ntmps26
  go_wp2_with fail
  refine HAB.out.mono ?_
  rintro e w1 ⟨u, rfl, ho, b1⟩
  have V1 := Lib.hid (ho.rd entOK).ents
  have HB := Lib.hid b1
  obtain ⟨t, htt⟩ : ∃ t, roNear l n = t := ⟨_, rfl⟩
  rw [htt] at V1 HRN HNL HWA
  obtain ⟨na, ncap, e, hnm⟩ := V1.out.open'
  subst e
  have HN2 := Lib.hid htt
  clear ho b1 HAB htt
  go_wp2_with fail
  refine (HSO.out _ _ _ V1.out HRN.out HNL.out).mono ?_
  rintro e w2 ⟨rfl, b2⟩
  have V2 := Lib.hid (V1.out.later b2)
  replace HB := Lib.hid (below2S HB.out b2)
  clear b2 V1 HSO
  go_wp2_with fail
  go_loopw [6, 20] (fun s i wr => ∃ k : Nat, k ≤ t.length ∧ i = .int .i64 k ∧ Hid (OwnT wr w2.heap.size 9 s (roWats t n k)) ∧ Hid (Below w2.heap.size w2 wr)) (fun _ i _ => t.length - (intOf i).toNat)
  case atStart => exact ⟨0, by omega, rfl, World.ownsRow_nil _ _ _ _, Below.refl _ _⟩
  case round =>
    obtain ⟨k, hk, rfl, HO, HN⟩ := hrel
    by_cases hlt : k < t.length
    · obtain ⟨b, off, rfl, h0, h1, h2, h3, h4, h5, h6⟩ := V2.out.row HN.out k hlt
      obtain ⟨⟨xo, xc, ⟨x1, x2, x3, x4, x5⟩⟩, hr⟩ : ∃ r, t.getD k Ent.zero = r := ⟨_, rfl⟩
      have hX := roWats_next (c := n) hlt hr
      have hmem : ⟨xo, xc, ⟨x1, x2, x3, x4, x5⟩⟩ ∈ t := by rw [← hr, getD_at hlt]; exact List.getElem_mem hlt
      rw [hr] at h0 h1 h2 h3 h4 h5 h6
      simp only at h0 h1 h2 h3 h4 h5 h6 hX
      clear hr
      have bn := bl_newZ wr (.cells #[.string ⟨xo.toArray⟩, .string ⟨xc.toArray⟩, .bool x1, .bool x2, .bool x3, .bool x4, .bool x5] 49)
      have HO1 := Lib.hid (ownT_later HO.out bn)
      have HN1 := Lib.hid (below2S HN.out bn)
      have V1 := Lib.hid (V2.out.later HN1.out)
      have C8 := Lib.hid (cells7_made wr ⟨xo, xc, ⟨x1, x2, x3, x4, x5⟩⟩ 49)
      clear bn
      by_cases hc : xc = n
      · obtain ⟨⟨i1, i2, i3, i4, i5⟩, hi'⟩ : ∃ r, roIt t n xo = r := ⟨_, rfl⟩
        obtain ⟨q, hq⟩ : ∃ q, (t.any fun x => entIs x ⟨n, xo, It.zero⟩) = q := ⟨_, rfl⟩
        obtain ⟨r, hsr⟩ : ∃ r, suSees ⟨x1, x2, x3, x4, x5⟩ ⟨i1, i2, i3, i4, i5⟩ = r := ⟨_, rfl⟩
        have hb : roWB t n ⟨xo, xc, ⟨x1, x2, x3, x4, x5⟩⟩ = r := by
          unfold roWB
          simp only [hc, decide_true, Bool.true_and]
          rw [hi', hsr]
        rw [hb] at hX
        have HX := Lib.hid hX
        have FI := Lib.hid hi'
        have FQ := Lib.hid hq
        have HS := Lib.hid (ssees_eq x1 x2 x3 x4 x5 i1 i2 i3 i4 i5 hsr)
        have HM := Lib.hid hmem
        have E1 := Lib.hid (entry_any n xo)
        subst hc
        clear hb hX hi' hq hsr hmem
        go_wp2_with fail
        refine (rfind_mem V1.out HRN.out HM.out).mono ?_
        rintro e w3 ⟨rfl, b3⟩
        have b4 := below2S b3 (bl_newZ w3 (.cells #[.string ⟨xo.toArray⟩, .string ⟨xc.toArray⟩, .bool x1, .bool x2, .bool x3, .bool x4, .bool x5] 49))
        have C9 := Lib.hid (cells7_made w3 ⟨xo, xc, ⟨x1, x2, x3, x4, x5⟩⟩ 49)
        replace C8 := Lib.hid (C8.out.later b4)
        replace V1 := Lib.hid (V1.out.later b4)
        replace HO1 := Lib.hid (ownT_later HO1.out b4)
        replace HN1 := Lib.hid (below2S HN1.out b4)
        obtain ⟨c0, c1, c2, c3, c4, c5, c6⟩ := C8.out
        simp only [Nat.zero_add] at c0 c1 c2 c3 c4 c5 c6
        clear b3 b4 h0 h1 h2 h3 h4 h5 h6
        go_wp2_with fail
        generalize hW : w3.alloc (.cells #[.string ⟨xo.toArray⟩, .string ⟨xc.toArray⟩, .bool x1, .bool x2, .bool x3, .bool x4, .bool x5] 49) = w4 at C8 C9 V1 HO1 HN1 c0 c1 c2 c3 c4 c5 c6 ⊢
        clear hW c0 c1 c2 c3 c4 c5 c6
        refine (E1.out _).mono ?_
        rintro e w5 ⟨rfl, b5⟩
        replace C8 := Lib.hid (C8.out.later b5)
        replace C9 := Lib.hid (C9.out.later b5)
        replace V1 := Lib.hid (V1.out.later b5)
        replace HO1 := Lib.hid (ownT_later HO1.out b5)
        replace HN1 := Lib.hid (below2S HN1.out b5)
        clear b5
        go_wp2_with fail
        refine (rfind_eq V1.out HRN.out xc xo FI FQ).mono ?_
        rintro e w6 ⟨rfl, b6⟩
        have b7 := below2S b6 (bl_newZ w6 (.cells #[.string ⟨xc.toArray⟩, .string ⟨xo.toArray⟩, .bool i1, .bool i2, .bool i3, .bool i4, .bool i5] 49))
        have C11 := Lib.hid (cells7_made w6 ⟨xc, xo, ⟨i1, i2, i3, i4, i5⟩⟩ 49)
        replace C8 := Lib.hid (C8.out.later b7)
        replace C9 := Lib.hid (C9.out.later b7)
        replace HO1 := Lib.hid (ownT_later HO1.out b7)
        replace HN1 := Lib.hid (below2S HN1.out b7)
        obtain ⟨c0, c1, c2, c3, c4, c5, c6⟩ := C9.out
        obtain ⟨d0, d1, d2, d3, d4, d5, d6⟩ := C11.out
        simp only [Nat.zero_add] at c0 c1 c2 c3 c4 c5 c6 d0 d1 d2 d3 d4 d5 d6
        clear b6 b7 V1
        go_wp2_with fail
        generalize hW : w6.alloc (.cells #[.string ⟨xc.toArray⟩, .string ⟨xo.toArray⟩, .bool i1, .bool i2, .bool i3, .bool i4, .bool i5] 49) = w7 at C8 C9 C11 HO1 HN1 c0 c1 c2 c3 c4 c5 c6 d0 d1 d2 d3 d4 d5 d6 ⊢
        clear hW c0 c1 c2 c3 c4 c5 c6 d0 d1 d2 d3 d4 d5 d6
        refine (HS.out _).mono ?_
        rintro e w8 ⟨rfl, b8⟩
        replace C8 := Lib.hid (C8.out.later b8)
        replace HO1 := Lib.hid (ownT_later HO1.out b8)
        replace HN1 := Lib.hid (below2S HN1.out b8)
        obtain ⟨c0, c1, c2, c3, c4, c5, c6⟩ := C8.out
        simp only [Nat.zero_add] at c0 c1 c2 c3 c4 c5 c6
        clear b8 C9 C11
        cases r with
        | true =>
          have hX := HX.out
          simp only [if_true] at hX
          have HX2 := Lib.hid hX
          have O2 := Lib.hid (HO1.out.alloc (.cells #[.string ⟨xo.toArray⟩] 9))
          have N2 := Lib.hid (bl_allocS HN1.out (.cells #[.string ⟨xo.toArray⟩] 9))
          have hz3 := N2.out.size
          have hcl : (roWats t xc k).length ≤ 4294967 := by have := roWats_le t xc k; have := HNL.out; have := HLL.out; omega
          clear hX HO1 HX
          go_wp2_with (at_builtin; go_must (refine wpList_append_texts rfl _ _ 29 rfl w2.heap.size 9 i0 _ 16 Try.underlying29 hi hz0 hz1 hz2 rfl _ (roWats t xc k) rfl (by exact O2.out) _ 1 1 [xo] rfl rfl (fun e => nomatch e) ?c1 (by simp only [List.length_cons, List.length_nil]; omega) (by decide) hz3 ?_))
          case c1 => exact new_cellN (by simp)
          intro v' w' hown' hb'
          rw [← HX2.out] at hown'
          have O3 := Lib.hid hown'
          have N3 := Lib.hid (N2.out.trans hb')
          clear hown' hb' O2 c0 c1 c2 c3 c4 c5 c6
          go_wp2_with fail
          go_roundw
          case rel => exact ⟨k + 1, by omega, by go_num, O3, N3⟩
          case measure => simp [intOf]; omega
        | false =>
          have hX := HX.out
          simp only [Bool.false_eq_true, if_false] at hX
          have O3 := HO1
          rw [← hX] at O3
          clear hX HO1 HX c0 c1 c2 c3 c4 c5 c6
          go_wp2_with fail
          go_roundw
          case rel => exact ⟨k + 1, by omega, by go_num, O3, HN1⟩
          case measure => simp [intOf]; omega
      · have hb : roWB t n ⟨xo, xc, ⟨x1, x2, x3, x4, x5⟩⟩ = false := by unfold roWB; simp [hc]
        rw [if_neg (by rw [hb]; decide)] at hX
        have t2 : (xc != n) = true := by rw [bne_iff_ne]; exact hc
        have t3 : (xc == n) = false := by rw [beq_eq_false_iff_ne]; exact hc
        have O3 := HO1
        rw [← hX] at O3
        clear hX hb hc HO1 hmem V1 C8
        go_wp2_with fail
        go_roundw
        case rel => exact ⟨k + 1, by omega, by go_num, O3, HN1⟩
        case measure => simp [intOf]; omega
    · obtain rfl : k = t.length := by omega
      have HT := HO
      rw [HWA.out] at HT
      have hwl : (roWat l n).length ≤ 4294967 := by
        rw [← HWA.out]
        have := roWats_le t n t.length
        have := HNL.out
        have := HLL.out
        omega
      have HC := Lib.hid (rcompact_any HT.out hwl HWR.out)
      clear hwl HT HO
      go_wp2_with fail
      refine HC.out.mono ?_
      rintro e w9 ⟨y, rfl, hy, b9⟩
      have Y := Lib.hid hy
      have B9 := Lib.hid (HB.out.trans ((HN.out.trans b9).mono HB.out.size))
      clear hy b9
      go_wp2_with fail
      go_ret
      exact ⟨_, rfl, Y.out, B9.out⟩

theorem rwatchers_few {w : World} {v : Value} {l : List Ent} (hv : Ents w v l) (hr : Rise l) (hl : l.length < 20) (n : List UInt8) :
    Calls Try.prog 26 #[v, .string ⟨n.toArray⟩] w fun e w' => ∃ u, e = .returned u ∧ Texts w' u (roWat l n) ∧ Below w.heap.size w w' :=
  rwatchers_any hv hr (by omega) n (fun h1 h2 h3 => rsort_few h1 h2 (by omega))

end Go.Proofs.Ytfkadkopolenbaa

end

section

/-
  THE CONTRACT OF live OF LAYER 8's STATEMENTS: it returns true.
-/
namespace Go.Proofs.Ytfkadkopolenbaa
open Go.RowKit

theorem Ents.cut {w : World} {ad : Option Addr} {n cap k : Nat} {l : List Ent} (h : Ents w (.slice ad n cap) l) (hk : k ≤ l.length) : Ents w (.slice ad k cap) (l.take k) := by
  obtain ⟨a', cap', e, h1, h2, h3, h4⟩ := h
  simp only [Value.slice.injEq] at e
  obtain ⟨rfl, rfl, rfl⟩ := e
  have hl : (l.take k).length = k := by rw [List.length_take]; omega
  refine ⟨ad, cap, by rw [hl], by rw [hl]; omega, h2, h3, ?_⟩
  rcases h4 with rfl | ⟨b, off, e, hb, hc⟩
  · exact .inl (by simp)
  · refine .inr ⟨b, off, e, hb, fun i hi => ?_⟩
    rw [hl] at hi
    have := hc i (by omega)
    have e2 : (l.take k).getD i Ent.zero = l.getD i Ent.zero := by simp [List.getD, hi]
    rwa [e2]

theorem texts_one (w : World) (x : List UInt8) {B : Nat} (hB : B = w.heap.size) : Texts (w.alloc (.cells #[.string ⟨x.toArray⟩] 9)) (.slice (some ⟨B, 0, none⟩) 1 1) [x] := by
  subst hB
  refine ⟨_, _, rfl, Nat.le_refl _, by unfold maxLen; simp, (fun e => by cases e), .inr ⟨_, _, rfl, by simp, fun i hi => ?_⟩⟩
  obtain rfl : i = 0 := by simp at hi; omega
  rw [World.cell?_alloc_at _ _ _ _ rfl]
  rfl

def nAnn : List UInt8 := [97, 110, 110]
def nBob : List UInt8 := [98, 111, 98]
def lvM1 : List Ent := [⟨nAnn, nBob, ⟨false, false, false, true, false⟩⟩, ⟨nBob, nAnn, ⟨false, false, true, false, false⟩⟩]
def lvM2 : List Ent := [⟨nAnn, nBob, ⟨false, true, false, false, false⟩⟩, ⟨nBob, nAnn, ⟨true, false, false, false, false⟩⟩]

theorem lve1 : roDo [] 1 nBob nAnn = (lvM1, 0) := by kernel_rfl
theorem lve2 : roDo lvM1 2 nAnn nBob = (lvM2, 0) := by kernel_rfl
theorem lve3 : roDo lvM2 1 nBob nAnn = (lvM2, 7) := by kernel_rfl
theorem lve4 : roDo lvM2 1 nBob nBob = (lvM2, 1) := by kernel_rfl
theorem lve5 : roDo lvM2 3 nBob nAnn = ([], 0) := by kernel_rfl
theorem lve6 : roGet lvM2 nBob nAnn = ⟨true, false, false, false, false⟩ := by kernel_rfl
theorem lve7 : roMayC lvM2 = true := by kernel_rfl
theorem lve8 : roMayC (lvM2.take 1) = false := by kernel_rfl
theorem lve9 : roSees lvM2 nBob nAnn = true := by kernel_rfl
theorem lve10 : roSees lvM2 nAnn nBob = false := by kernel_rfl
theorem lve11 : roWat lvM2 nAnn = [nBob] := by kernel_rfl
theorem lve12 : roOf lvM2 nAnn = [nBob] := by kernel_rfl

theorem lv_shortE {l : List Ent} (h : ∀ e ∈ l, e.o.length = 3 ∧ e.c.length = 3) : ShortE l := fun e he => by
  have := h e he
  omega

theorem lvs1 : ShortE lvM1 := lv_shortE (by decide)
theorem lvs2 : ShortE lvM2 := lv_shortE (by decide)
theorem lvs3 : ShortE (lvM2.take 1) := lv_shortE (by decide)
theorem lvs0 : ShortE [] := fun e he => by simp at he

set_option maxHeartbeats 3200000 in
set_option maxRecDepth 100000 in
theorem live8 (w : World) : Calls Try.prog 16 #[] w fun e w' => e = .returned (.bool true) ∧ Below w.heap.size w w' := by
  have D1 := Lib.hid (rdo_any (ents_nil w) lvs0 (by simp) nBob nAnn (by decide) (by decide) 1 (by decide) lve1)
  have D2 : Hid (∀ w v, Ents w v lvM1 → _) := Lib.hid (fun w v h => rdo_any h lvs1 (by decide) nAnn nBob (by decide) (by decide) 2 (by decide) lve2)
  have D3 : Hid (∀ w v, Ents w v lvM2 → _) := Lib.hid (fun w v h => rdo_any h lvs2 (by decide) nBob nAnn (by decide) (by decide) 1 (by decide) lve3)
  have D4 : Hid (∀ w v, Ents w v lvM2 → _) := Lib.hid (fun w v h => rdo_any h lvs2 (by decide) nBob nBob (by decide) (by decide) 1 (by decide) lve4)
  have D5 : Hid (∀ w v, Ents w v lvM2 → _) := Lib.hid (fun w v h => rdo_any h lvs2 (by decide) nBob nAnn (by decide) (by decide) 3 (by decide) lve5)
  have DG : Hid (∀ w v, Ents w v lvM2 → _) := Lib.hid (fun w v h => get8_eq h nBob nAnn (Lib.hid lve6))
  have DM : Hid (∀ w v, Ents w v lvM2 → _) := Lib.hid (fun w v h => romay_any h lvs2 (Lib.hid lve7))
  have DN : Hid (∀ w v, Ents w v (lvM2.take 1) → _) := Lib.hid (fun w v h => romay_any h lvs3 (Lib.hid lve8))
  have DS : Hid (∀ w v, Ents w v lvM2 → Calls Try.prog 24 #[v, .string ⟨nBob.toArray⟩, .string ⟨nAnn.toArray⟩] w fun e w' => e = .returned (.bool true) ∧ Below w.heap.size w w') := Lib.hid (fun w v h => by
    have := sees8_any h nBob nAnn
    rwa [lve9] at this)
  have DT : Hid (∀ w v, Ents w v lvM2 → Calls Try.prog 24 #[v, .string ⟨nAnn.toArray⟩, .string ⟨nBob.toArray⟩] w fun e w' => e = .returned (.bool false) ∧ Below w.heap.size w w') := Lib.hid (fun w v h => by
    have := sees8_any h nAnn nBob
    rwa [lve10] at this)
  have DW : Hid (∀ w v, Ents w v lvM2 → Calls Try.prog 26 #[v, .string ⟨nAnn.toArray⟩] w fun e w' => ∃ u, e = .returned u ∧ Texts w' u [nBob] ∧ Below w.heap.size w w') := Lib.hid (fun w v h => by
    have := rwatchers_few h (roMay_rise lve7) (by decide) nAnn
    rwa [lve11] at this)
  have DO : Hid (∀ w v, Ents w v lvM2 → Calls Try.prog 22 #[v, .string ⟨nAnn.toArray⟩] w fun e w' => ∃ u, e = .returned u ∧ Texts w' u [nBob] ∧ Below w.heap.size w w') := Lib.hid (fun w v h => by
    have := of_any h (by decide) nAnn
    rw [lve12] at this
    exact this.mono fun e w' ⟨u, h1, h2, h3⟩ => ⟨u, h1, h2.texts, h3⟩)
  have q1 := item_eql false false false true false false false false true false
  have q2 := item_eql true false false false false true false false false false
  have hn1 : nAnn = [97, 110, 110] := rfl
  have hn2 : nBob = [98, 111, 98] := rfl
  simp only [nAnn, nBob] at D1 D2 D3 D4 D5 DG DM DN DS DT DW DO
  clear hn1 hn2
  go_enter Try.func16, Try.ntmps16
  go_wp2_with fail
  refine D1.out.mono ?_
  rintro e w1 ⟨v1, rfl, V1, b⟩
  have HB := Lib.hid b
  clear b
  obtain ⟨a1, c1, e1, -⟩ := V1.open'
  subst e1
  replace V1 := Lib.hid V1
  go_wp2_with fail
  refine (D2.out _ _ V1.out).mono ?_
  rintro e w2 ⟨v2, rfl, V2, b⟩
  replace HB := Lib.hid (below2S HB.out b)
  replace V1 := Lib.hid (V1.out.later b)
  clear b
  obtain ⟨a2, c2, e2, -⟩ := V2.open'
  subst e2
  replace V2 := Lib.hid V2
  go_wp2_with fail
  refine (D3.out _ _ V2.out).mono ?_
  rintro e w3 ⟨v3, rfl, -, b⟩
  replace HB := Lib.hid (below2S HB.out b)
  replace V1 := Lib.hid (V1.out.later b)
  replace V2 := Lib.hid (V2.out.later b)
  clear b
  go_wp2_with fail
  refine (D4.out _ _ V2.out).mono ?_
  rintro e w4 ⟨v4, rfl, -, b⟩
  replace HB := Lib.hid (below2S HB.out b)
  replace V1 := Lib.hid (V1.out.later b)
  replace V2 := Lib.hid (V2.out.later b)
  clear b
  go_wp2_with fail
  refine (D5.out _ _ V2.out).mono ?_
  rintro e w5 ⟨v5, rfl, V5, b⟩
  replace HB := Lib.hid (below2S HB.out b)
  replace V1 := Lib.hid (V1.out.later b)
  replace V2 := Lib.hid (V2.out.later b)
  clear b
  obtain ⟨a5, c5, e5, -⟩ := V5.open'
  subst e5
  clear V5
  obtain ⟨bk, off, rfl, h0, h1, h2, h3, h4, h5, h6⟩ := V1.out.row (Below.refl _ _) 0 (by decide)
  obtain ⟨bk2, off2, rfl, -⟩ := V2.out.row (Below.refl _ _) 0 (by decide)
  simp only [lvM1, nAnn, nBob, List.getD_cons_zero, Nat.zero_mul, Nat.add_zero] at h0 h1 h2 h3 h4 h5 h6
  have hl1 : lvM1.length = 2 := rfl
  have hl2 : lvM2.length = 2 := rfl
  have hc2 : (2 : Nat) ≤ c2 := by
    obtain ⟨_, _, e, h, _⟩ := V2.out
    simp only [Value.slice.injEq] at e
    obtain ⟨-, -, rfl⟩ := e
    exact h
  have hcm : c2 ≤ 9223372036854775807 := by
    obtain ⟨_, _, e, _, h, _⟩ := V2.out
    simp only [Value.slice.injEq] at e
    obtain ⟨-, -, rfl⟩ := e
    unfold maxLen at h
    omega
  rw [hl1, hl2] at *
  go_wp2_with fail
  refine (DG.out _ _ V2.out).mono ?_
  rintro e w6 ⟨rfl, b⟩
  replace HB := Lib.hid (below2S HB.out b)
  replace V2 := Lib.hid (V2.out.later b)
  clear b h0 h1 h2 h3 h4 h5 h6 V1
  go_wp2_with fail
  refine (DM.out _ _ V2.out).mono ?_
  rintro e w7 ⟨rfl, b⟩
  replace HB := Lib.hid (below2S HB.out b)
  replace V2 := Lib.hid (V2.out.later b)
  clear b
  go_wp2_with fail
  refine (DN.out _ _ (V2.out.cut (k := 1) (by decide))).mono ?_
  rintro e w8 ⟨rfl, b⟩
  replace HB := Lib.hid (below2S HB.out b)
  replace V2 := Lib.hid (V2.out.later b)
  clear b
  go_wp2_with fail
  refine (DS.out _ _ V2.out).mono ?_
  rintro e w9 ⟨rfl, b⟩
  replace HB := Lib.hid (below2S HB.out b)
  replace V2 := Lib.hid (V2.out.later b)
  clear b
  go_wp2_with fail
  refine (DT.out _ _ V2.out).mono ?_
  rintro e w10 ⟨rfl, b⟩
  replace HB := Lib.hid (below2S HB.out b)
  replace V2 := Lib.hid (V2.out.later b)
  clear b
  go_wp2_with fail
  refine (DW.out _ _ V2.out).mono ?_
  rintro e w11 ⟨x11, rfl, T11, b⟩
  have bn := bl_newZ w11 (.cells #[.string ⟨#[98, 111, 98]⟩] 9)
  have T11 := Lib.hid (T11.later bn)
  have U11 := Lib.hid (texts_one w11 [98, 111, 98] rfl)
  replace HB := Lib.hid (below2S (below2S HB.out b) bn)
  replace V2 := Lib.hid ((V2.out.later b).later bn)
  clear b bn
  go_wp2_with fail
  refine (same_yes T11.out U11.out (by decide)).mono ?_
  rintro e w12 ⟨rfl, b⟩
  replace HB := Lib.hid (below2S HB.out b)
  replace V2 := Lib.hid (V2.out.later b)
  clear b T11 U11
  go_wp2_with fail
  refine (DO.out _ _ V2.out).mono ?_
  rintro e w13 ⟨x13, rfl, T13, b⟩
  have bn := bl_newZ w13 (.cells #[.string ⟨#[98, 111, 98]⟩] 9)
  have T13 := Lib.hid (T13.later bn)
  have U13 := Lib.hid (texts_one w13 [98, 111, 98] rfl)
  replace HB := Lib.hid (below2S (below2S HB.out b) bn)
  clear b bn
  go_wp2_with fail
  refine (same_yes T13.out U13.out (by decide)).mono ?_
  rintro e w14 ⟨rfl, b⟩
  replace HB := Lib.hid (below2S HB.out b)
  clear b T13 U13
  go_wp2_with fail
  go_ret
  exact ⟨rfl, HB.out⟩

end Go.Proofs.Ytfkadkopolenbaa

end

section

/-
  LAYER 8, THE DOCUMENT's: Ahead, Few, Same.
-/
namespace Go.Proofs.Ytfkadkopolenbaa
open Go.RowKit

theorem entLt_cases (xo xc yo yc : List UInt8) (i j : It) :
    (idLess xo yo = true ∧ entLt ⟨xo, xc, i⟩ ⟨yo, yc, j⟩ = true) ∨ (idLess xo yo = false ∧ (xo == yo) = false ∧ entLt ⟨xo, xc, i⟩ ⟨yo, yc, j⟩ = false) ∨ (idLess xo yo = false ∧ (xo == yo) = true ∧ entLt ⟨xo, xc, i⟩ ⟨yo, yc, j⟩ = idLess xc yc) := by
  unfold entLt
  cases h : idLess xo yo with
  | true => exact .inl ⟨rfl, by simp⟩
  | false =>
    by_cases he : xo = yo
    · exact .inr (.inr ⟨rfl, by simpa using he, by simp [he]⟩)
    · exact .inr (.inl ⟨rfl, by rw [beq_eq_false_iff_ne]; exact he, by simp [he]⟩)

set_option maxHeartbeats 1600000 in
set_option maxRecDepth 100000 in
theorem rahead8_any (xo xc : List UInt8) (x1 x2 x3 x4 x5 : Bool) (yo yc : List UInt8) (y1 y2 y3 y4 y5 : Bool) {r : Bool} (h : Hid (entLt ⟨xo, xc, ⟨x1, x2, x3, x4, x5⟩⟩ ⟨yo, yc, ⟨y1, y2, y3, y4, y5⟩⟩ = r)) (w : World) :
    Calls Try.prog 54 #[.agg #[.string ⟨xo.toArray⟩, .string ⟨xc.toArray⟩, .bool x1, .bool x2, .bool x3, .bool x4, .bool x5], .agg #[.string ⟨yo.toArray⟩, .string ⟨yc.toArray⟩, .bool y1, .bool y2, .bool y3, .bool y4, .bool y5]] w fun e w' => e = .returned (.bool r) ∧ Below w.heap.size w w' := by
  have B0 := Lib.hid (below2Z (bl_newZ w (.cells #[.string ⟨xo.toArray⟩, .string ⟨xc.toArray⟩, .bool x1, .bool x2, .bool x3, .bool x4, .bool x5] 49)) (bl_newZ _ (.cells #[.string ⟨yo.toArray⟩, .string ⟨yc.toArray⟩, .bool y1, .bool y2, .bool y3, .bool y4, .bool y5] 49)))
  rcases entLt_cases xo xc yo yc ⟨x1, x2, x3, x4, x5⟩ ⟨y1, y2, y3, y4, y5⟩ with ⟨h1, h2⟩ | ⟨h1, t1, h2⟩ | ⟨h1, t1, h2⟩
  · have HL : Hid (∀ w, Calls Try.prog 33 #[.string ⟨xo.toArray⟩, .string ⟨yo.toArray⟩] w fun e w' => e = .returned (.bool true) ∧ w = w') := Lib.hid (rless_eq xo yo (Lib.hid h1))
    rw [h.out] at h2
    subst h2
    clear h h1
    go_enter Try.func54, Try.ntmps54
    go_wp2_with fail
    refine (HL.out _).mono ?_
    rintro e w1 ⟨rfl, rfl⟩
    go_wp2_with fail
    go_ret
    exact ⟨rfl, B0.out⟩
  · have HL : Hid (∀ w, Calls Try.prog 33 #[.string ⟨xo.toArray⟩, .string ⟨yo.toArray⟩] w fun e w' => e = .returned (.bool false) ∧ w = w') := Lib.hid (rless_eq xo yo (Lib.hid h1))
    rw [h.out] at h2
    subst h2
    clear h h1
    go_enter Try.func54, Try.ntmps54
    go_wp2_with fail
    refine (HL.out _).mono ?_
    rintro e w1 ⟨rfl, rfl⟩
    go_wp2_with fail
    go_ret
    exact ⟨rfl, B0.out⟩
  · have HL : Hid (∀ w, Calls Try.prog 33 #[.string ⟨xo.toArray⟩, .string ⟨yo.toArray⟩] w fun e w' => e = .returned (.bool false) ∧ w = w') := Lib.hid (rless_eq xo yo (Lib.hid h1))
    rw [h.out] at h2
    have HM : Hid (∀ w, Calls Try.prog 33 #[.string ⟨xc.toArray⟩, .string ⟨yc.toArray⟩] w fun e w' => e = .returned (.bool r) ∧ w = w') := Lib.hid (rless_eq xc yc (Lib.hid h2.symm))
    have he : xo = yo := by simpa using t1
    subst he
    clear h h1 t1 h2
    go_enter Try.func54, Try.ntmps54
    go_wp2_with fail
    refine (HL.out _).mono ?_
    rintro e w1 ⟨rfl, rfl⟩
    go_wp2_with fail
    refine (HM.out _).mono ?_
    rintro e w1 ⟨rfl, rfl⟩
    go_wp2_with fail
    go_ret
    exact ⟨rfl, B0.out⟩

def fewE (e : Ent) : Bool := decide (e.o.length ≤ 40) && decide (e.c.length ≤ 40)
def fewR (l : List Ent) : Bool := decide (l.length ≤ 80) && l.all fewE

theorem fewR_get {l : List Ent} (h : fewR l = true) : l.length ≤ 80 ∧ ∀ e ∈ l, e.o.length ≤ 40 ∧ e.c.length ≤ 40 := by
  unfold fewR fewE at h
  simp only [Bool.and_eq_true, List.all_eq_true, decide_eq_true_eq] at h
  exact ⟨h.1, h.2⟩

theorem fewR_short {l : List Ent} (h : fewR l = true) : ShortE l := fun e he => by
  have := (fewR_get h).2 e he
  omega

set_option maxHeartbeats 1600000 in
set_option maxRecDepth 100000 in
theorem few8_any {w : World} {v : Value} {l : List Ent} (hv : Ents w v l) {r : Bool} (h : Hid (fewR l = r)) :
    Calls Try.prog 15 #[v] w fun e w' => e = .returned (.bool r) ∧ w = w' := by
  have HV := Lib.hid hv
  obtain ⟨a, cap, rfl, hm⟩ := hv.open'
  clear hv
  by_cases h80 : l.length ≤ 80
  · have t0 : decide (80 < (l.length : Int)) = false := by simp; omega
    go_enter Try.func15, Try.ntmps15
    go_wp2_with fail
    go_loop [3] (fun i => ∃ k : Nat, k ≤ l.length ∧ i = .int .i64 k ∧ Hid ((l.take k).all fewE = true)) (fun i => l.length - (intOf i).toNat)
    case atStart => exact ⟨0, by omega, rfl, by show _ = _; simp⟩
    case round =>
      obtain ⟨k, hk, rfl, HA⟩ := hrel
      by_cases hlt : k < l.length
      · obtain ⟨b, off, rfl, h0, h1, _⟩ := HV.out.row (Below.refl _ _) k hlt
        obtain ⟨⟨xo, xc, ⟨x1, x2, x3, x4, x5⟩⟩, hr⟩ : ∃ r, l.getD k Ent.zero = r := ⟨_, rfl⟩
        have hnext : (l.take (k + 1)).all fewE = ((l.take k).all fewE && fewE ⟨xo, xc, ⟨x1, x2, x3, x4, x5⟩⟩) := by
          rw [List.take_succ_eq_append_getElem hlt, List.all_append, ← getD_at hlt, hr]
          simp
        have hoff : fewE ⟨xo, xc, ⟨x1, x2, x3, x4, x5⟩⟩ = false → fewR l = false := fun he => by
          rw [Bool.eq_false_iff]
          intro h'
          unfold fewR at h'
          rw [Bool.and_eq_true, List.all_eq_true] at h'
          have := h'.2 _ (List.getElem_mem hlt)
          rw [← getD_at hlt, hr, he] at this
          cases this
        rw [hr] at h0 h1
        simp only at h0 h1
        clear hr
        by_cases ho : xo.length ≤ 40
        · have t1 : decide (40 < (xo.length : Int)) = false := by simp; omega
          by_cases hc : xc.length ≤ 40
          · have t2 : decide (40 < (xc.length : Int)) = false := by simp; omega
            have HA2 : Hid ((l.take (k + 1)).all fewE = true) := by
              show _ = _
              rw [hnext, HA.out]
              unfold fewE
              simp [ho, hc]
            clear hnext hoff ho hc
            go_wp2_with fail
            go_round
            case rel => exact ⟨k + 1, by omega, by go_num, HA2⟩
            case measure => simp [intOf]; omega
          · have t2 : decide (40 < (xc.length : Int)) = true := by simp; omega
            have HR := hoff (by unfold fewE; simp [hc])
            rw [h.out] at HR
            subst HR
            clear hnext hoff ho hc
            go_wp2_with fail
            go_ret
            exact ⟨rfl, rfl⟩
        · have t1 : decide (40 < (xo.length : Int)) = true := by simp; omega
          have HR := hoff (by unfold fewE; simp [ho])
          rw [h.out] at HR
          subst HR
          clear hnext hoff ho
          go_wp2_with fail
          go_ret
          exact ⟨rfl, rfl⟩
      · obtain rfl : k = l.length := by omega
        have HR : fewR l = true := by
          have := HA.out
          rw [List.take_length] at this
          unfold fewR
          simp [h80, this]
        rw [h.out] at HR
        subst HR
        go_wp2_with fail
        go_ret
        exact ⟨rfl, rfl⟩
  · have t0 : decide (80 < (l.length : Int)) = true := by simp; omega
    have HR : fewR l = false := by unfold fewR; simp [h80]
    rw [h.out] at HR
    subst HR
    go_enter Try.func15, Try.ntmps15
    go_wp2_with fail
    go_ret
    exact ⟨rfl, rfl⟩

theorem ent_eqIn (d : Nat) (xo xc : List UInt8) (x1 x2 x3 x4 x5 : Bool) (w : World) :
    (Op.equalIn (d + 1 + 1 + 1) 49 (.agg #[.string ⟨xo.toArray⟩, .string ⟨xc.toArray⟩, .bool x1, .bool x2, .bool x3, .bool x4, .bool x5]) (.agg #[.string ⟨xo.toArray⟩, .string ⟨xc.toArray⟩, .bool x1, .bool x2, .bool x3, .bool x4, .bool x5])).run Try.prog w = .ok true w := by
  have hS : Try.prog.underlying 49 = some (.struct (Try.prog.fieldsOf 49)) := by kernel_rfl
  have hp : Try.prog.stoodInHeld 49 = false := by kernel_rfl
  have u9 := Try.underlying9
  have a9 := Try.isAgg9
  have z9 := Try.sizeOf9
  have a3 := Try.isAgg26
  have z3 := Try.sizeOf26
  have hi := fun w => item_eqIn d x1 x2 x3 x4 x5 x1 x2 x3 x4 x5 w
  rw [run_equalIn_agg w (d + 1 + 1) 49 _ _ hS hp]
  simp only [Program.fieldsOf, Try.underlying49]
  go_simp
  rw [itSame_self]

theorem ent_neq (xo xc : List UInt8) (x1 x2 x3 x4 x5 : Bool) (w : World) : (binOp .neq 49 (.agg #[.string ⟨xo.toArray⟩, .string ⟨xc.toArray⟩, .bool x1, .bool x2, .bool x3, .bool x4, .bool x5]) (.agg #[.string ⟨xo.toArray⟩, .string ⟨xc.toArray⟩, .bool x1, .bool x2, .bool x3, .bool x4, .bool x5])).run Try.prog w = .ok (.bool false) w := by
  rw [run_neq_struct, show (10000 : Nat) = 9997 + 1 + 1 + 1 from rfl, ent_eqIn 9997]
  rfl

set_option maxHeartbeats 1600000 in
set_option maxRecDepth 100000 in
theorem rsame8_yes {w : World} {v u : Value} {l : List Ent} (hv : Ents w v l) (hu : Ents w u l) :
    Calls Try.prog 30 #[v, u] w fun e w' => e = .returned (.bool true) ∧ Below w.heap.size w w' := by
  have HV := Lib.hid hv
  have HU := Lib.hid hu
  obtain ⟨a, cap, rfl, hm⟩ := hv.open'
  obtain ⟨a', cap', rfl, _⟩ := hu.open'
  clear hv hu
  have t0 : ((l.length : Int) != (l.length : Int)) = false := by simp
  go_enter Try.func30, Try.ntmps30
  go_wp2_with fail
  go_loopw [5] (fun i wr => ∃ k : Nat, k ≤ l.length ∧ i = .int .i64 k ∧ Hid (Below w.heap.size w wr)) (fun i _ => l.length - (intOf i).toNat)
  case atStart => exact ⟨0, by omega, rfl, Below.refl _ _⟩
  case round =>
    obtain ⟨k, hk, rfl, HB⟩ := hrel
    by_cases hlt : k < l.length
    · obtain ⟨b, off, rfl, h0, h1, h2, h3, h4, h5, h6⟩ := HV.out.row HB.out k hlt
      obtain ⟨b', off', rfl, g0, g1, g2, g3, g4, g5, g6⟩ := HU.out.row HB.out k hlt
      obtain ⟨⟨xo, xc, ⟨x1, x2, x3, x4, x5⟩⟩, hr⟩ : ∃ r, l.getD k Ent.zero = r := ⟨_, rfl⟩
      rw [hr] at h0 h1 h2 h3 h4 h5 h6 g0 g1 g2 g3 g4 g5 g6
      simp only at h0 h1 h2 h3 h4 h5 h6 g0 g1 g2 g3 g4 g5 g6
      have hne := fun w => ent_neq xo xc x1 x2 x3 x4 x5 w
      have t1 : decide ((k : Int) < (l.length : Int)) = true := by simp; omega
      have e0 : (0 : Int) ≤ (k : Int) := by omega
      have e1 : (k : Int) < (l.length : Int) := by omega
      have B5 := Lib.hid HB.out.drew
      clear hr
      go_wp2_with fail
      go_region
      all_goals go_wp2_with fail
      all_goals go_roundw
      case rel => exact ⟨k + 1, by omega, by go_num, B5⟩
      case measure => simp [intOf]; omega
    · obtain rfl : k = l.length := by omega
      go_wp2_with fail
      go_ret
      exact ⟨rfl, HB.out⟩

end Go.Proofs.Ytfkadkopolenbaa

end
