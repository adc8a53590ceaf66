/-
  THE PROOF OF ClientGaps: for every input the law returns true, and each argument reads behind the call as it read before. No condition.
-/
import Derived.Test.YtekkofldhhdpgaaT22
import Derived.Test.YtekkofldhhdpgaaT23
import Derived.Test.YtekkofldhhdpgaaT24
import Derived.Test.YtekkofldhhdpgaaT06
import Derived.Deep.CutRange
import Derived.Deep.CutBlock
import Derived.Test.YtekkofldhhdpgaaT09
import Derived.Test.YtekkofldhhdpgaaRows
import Derived.ProofKit
import Derived.OpenShut
import Derived.ShutString
import Derived.ChangeOld
import Derived.SliceStrings
import Derived.Lib.SmallJoins

section

/-
  THE WALK OF ClientGaps.
-/
namespace Go.Proofs.Ytekkofldhhdpgaa
open Go.RowKit

set_option maxHeartbeats 3200000 in
set_option maxRecDepth 100000 in
theorem cgp_1 {w : World} {v : Value} {l : List FrS} (hv : RdS frVals 10 FrS.zero w v l) (hf : ∀ p ∈ l, FrFit w p) (HF : Hid ((decide (l.length ≤ 30) && frsFew l) = false)) :
    Calls Try.prog 4 #[v] w fun e w' => e = .returned (.bool true) ∧ Below w.heap.size w w' := by
  obtain ⟨sa, cap, rfl, hsl⟩ := hv.open'
  have HV := Lib.hid hv
  have HFT := Lib.hid hf
  clear hv hf
  have HB := Lib.hid (Below.refl w.heap.size w)
  go_enter Try.func4, Try.ntmps4
  go_wp2_with fail
  refine (clfrs_eq HV.out HFT.out HF).mono ?_
  rintro e w1 ⟨rfl, b1⟩
  replace HB := Lib.hid (below2Z HB.out b1)
  clear b1
  go_wp2_with fail
  refine (live19 _).mono ?_
  rintro e w2 ⟨rfl, b2⟩
  replace HB := Lib.hid (below2Z HB.out b2)
  clear b2
  go_wp2_with fail
  go_ret
  exact ⟨rfl, HB.out⟩

set_option maxHeartbeats 12800000 in
set_option maxRecDepth 100000 in
theorem cgp_2 {w : World} {v : Value} {l : List FrS} (hv : RdS frVals 10 FrS.zero w v l) (hf : ∀ p ∈ l, FrFit w p) (HF : Hid ((decide (l.length ≤ 30) && frsFew l) = true)) :
    Calls Try.prog 4 #[v] w fun e w' => e = .returned (.bool true) ∧ Below w.heap.size w w' := by
  have hfew : frsFew l = true ∧ l.length ≤ 30 := by have := HF.out; simp only [Bool.and_eq_true, decide_eq_true_eq] at this; exact ⟨this.2, this.1⟩
  have hl30 := hfew.2
  have HFEW := Lib.hid hfew.1
  clear hfew
  obtain ⟨sa, cap, rfl, hsl⟩ := hv.open'
  have HV := Lib.hid hv
  have HFT := Lib.hid hf
  clear hv hf
  have HB := Lib.hid (Below.refl w.heap.size w)
  go_enter Try.func4, Try.ntmps4
  go_wp2_with fail
  refine (clfrs_eq HV.out HFT.out HF).mono ?_
  rintro e w1 ⟨rfl, b1⟩
  replace HB := Lib.hid (below2Z HB.out b1)
  clear b1
  go_wp2_with fail
  refine (clnew_any _).mono ?_
  rintro e w2 ⟨rfl, b2⟩
  replace HB := Lib.hid (below2Z HB.out b2)
  clear b2
  have b3 := bl_newZ w2 (.cells #[.slice none 0 0, .int .i64 0, .bool false] 27)
  have C := newQ w2 (.cells #[.slice none 0 0, .int .i64 0, .bool false] 27)
  have hC : w.heap.size ≤ w2.heap.size := HB.out.size
  replace HB := Lib.hid (below2Z HB.out b3)
  clear b3
  replace C := Lib.hid C
  go_upto_region 4 with fail
  generalize w2.alloc (.cells #[.slice none 0 0, .int .i64 0, .bool false] 27) = w4 at C HB ⊢
  generalize w2.heap.size = BC at C hC ⊢
  go_wp2_with fail
  go_loopw [4, 5, 6, 7] (fun pout pnext ptab i wr => ∃ (k : Nat) (t x : List Row) (nx : Int) (ou : Bool) (ca xa : Option Addr) (cc xc : Nat), k ≤ l.length ∧ i = .int .i64 k ∧ pout = .bool ou ∧ pnext = .int .i64 nx ∧ ptab = .slice xa x.length xc ∧ Hid (wr.heap[BC]? = some (.cells #[.slice ca t.length cc, .int .i64 nx, .bool ou] 27 (0, 0))) ∧ Hid (Tab wr (.slice ca t.length cc) t) ∧ Hid (Tab wr (.slice xa x.length xc) x) ∧ Hid (GapsAt ⟨t, nx, ou⟩ ou nx x) ∧ Hid (Below w.heap.size w wr)) (fun _ _ _ i _ => l.length - (intOf i).toNat)
  case atStart => exact ⟨0, [], [], 0, false, none, none, 0, 0, by omega, rfl, rfl, rfl, rfl, C, Lib.hid (tab_nilC _), Lib.hid (tab_nilC _), Lib.hid gaps_new, HB⟩
  case round =>
    obtain ⟨k, t, x, nx, ou, ca, xa, cc, xc, hk, rfl, rfl, rfl, rfl, C, TCC, TX, HG, HB⟩ := hrel
    by_cases hlt : k < l.length
    case neg =>
      go_wp2_with fail
      refine (live19 _).mono ?_
      rintro e w801 ⟨rfl, b801⟩
      replace HB := Lib.hid (below2Z HB.out b801)
      clear b801
      go_wp2_with fail
      go_ret
      exact ⟨rfl, HB.out⟩
    case pos =>
      obtain ⟨rb, off, rfl, hc⟩ := HV.out.row HB.out k hlt
      obtain ⟨p, hp⟩ : ∃ p, l.getD k FrS.zero = p := ⟨_, rfl⟩
      obtain ⟨r1, r2, r3, r4, r5, r6, r7⟩ := fr_all HFT.out HFEW.out hlt hp
      rw [hp] at hc
      clear hp
      obtain ⟨⟨fk, fs, fon, fc, ⟨fsh, fpr, fsi, fst⟩, fsum, ft⟩, ta, tn, tc⟩ := p
      simp only [FrS.tv] at r1 r2 r3 r4 r5 r6 r7
      subst r7
      have HVT := Lib.hid (r1.later HB.out)
      have HSH := Lib.hid r2
      have hcm := HG.out.1
      have HSC := Lib.hid (short_in (clMay_parts hcm).2.2)
      have hlC : t.length ≤ 1000 := by have := (diMay_iff.1 (clMay_parts hcm).2.2).1; simp only at this; omega
      have hxm := HG.out.2.2.2.1
      have HSX := Lib.hid (short_in hxm)
      have hlX : x.length ≤ 1000 := by have := (diMay_iff.1 hxm).1; omega
      have hlt0 : decide (k < l.length) = true := decide_eq_true hlt
      have q0 : wr.cell? ⟨rb, off + k * 10, none⟩ = some (.int .i64 fk) := hc 0 _ rfl
      have q1 : wr.cell? ⟨rb, off + k * 10 + 1, none⟩ = some (.int .i64 fs) := hc 1 _ rfl
      have q2 : wr.cell? ⟨rb, off + k * 10 + 2, none⟩ = some (.bool fon) := hc 2 _ rfl
      have q3 : wr.cell? ⟨rb, off + k * 10 + 3, none⟩ = some (.string ⟨fc.toArray⟩) := hc 3 _ rfl
      have q4 : wr.cell? ⟨rb, off + k * 10 + 4, none⟩ = some (.int .i64 fsh) := hc 4 _ rfl
      have q5 : wr.cell? ⟨rb, off + k * 10 + 5, none⟩ = some (.int .i64 fpr) := hc 5 _ rfl
      have q6 : wr.cell? ⟨rb, off + k * 10 + 6, none⟩ = some (.int .i64 fsi) := hc 6 _ rfl
      have q7 : wr.cell? ⟨rb, off + k * 10 + 7, none⟩ = some (.string ⟨fst.toArray⟩) := hc 7 _ rfl
      have q8 : wr.cell? ⟨rb, off + k * 10 + 8, none⟩ = some (.int .u64 fsum) := hc 8 _ rfl
      have q9 : wr.cell? ⟨rb, off + k * 10 + 9, none⟩ = some (.slice ta ft.length tc) := hc 9 _ rfl
      clear hc r1 r2 hcm hxm
      go_upto_region 11 with fail
      clear q0 q1 q2 q3 q4 q5 q6 q7 q8 q9
      have hCl := (Array.getElem?_eq_some_iff.1 C.out).1
      have b101 := bl_newZ wr (.cells #[.int .i64 fk, .int .i64 fs, .bool fon, .string ⟨fc.toArray⟩, .int .i64 fsh, .int .i64 fpr, .int .i64 fsi, .string ⟨fst.toArray⟩, .int .u64 fsum, .slice ta ft.length tc] 34)
      have FB := newQ wr (.cells #[.int .i64 fk, .int .i64 fs, .bool fon, .string ⟨fc.toArray⟩, .int .i64 fsh, .int .i64 fpr, .int .i64 fsi, .string ⟨fst.toArray⟩, .int .u64 fsum, .slice ta ft.length tc] 34)
      have hFB : w.heap.size ≤ wr.heap.size := HB.out.size
      replace C := Lib.hid (upQ C.out b101)
      replace TCC := Lib.hid (Tab.later TCC.out b101)
      replace TX := Lib.hid (Tab.later TX.out b101)
      replace HVT := Lib.hid (Tab.later HVT.out b101)
      replace HB := Lib.hid (below2Z HB.out b101)
      clear b101
      replace FB := Lib.hid FB
      generalize wr.alloc (.cells #[.int .i64 fk, .int .i64 fs, .bool fon, .string ⟨fc.toArray⟩, .int .i64 fsh, .int .i64 fpr, .int .i64 fsi, .string ⟨fst.toArray⟩, .int .u64 fsum, .slice ta ft.length tc] 34) = w102 at C FB TCC TX HVT HB ⊢
      generalize wr.heap.size = BF at FB hFB hCl ⊢
      obtain ⟨m, hm⟩ : ∃ m, frMay ⟨fk, fs, fon, fc, ⟨fsh, fpr, fsi, fst⟩, fsum, ft⟩ = m := ⟨_, rfl⟩
      have HM := Lib.hid hm
      cases m with
      | false =>
        clear hm
        obtain ⟨⟨FBc0, FBc1, FBc2, FBc3, FBc4, FBc5, FBc6, FBc7, FBc8, FBc9⟩, ⟨FBf0, FBf1, FBf2, FBf3, FBf4, FBf5, FBf6, FBf7, FBf8, FBf9⟩⟩ := blk10 FB.out
        go_wp2_with fail
        clear FBc0 FBc1 FBc2 FBc3 FBc4 FBc5 FBc6 FBc7 FBc8 FBc9 FBf0 FBf1 FBf2 FBf3 FBf4 FBf5 FBf6 FBf7 FBf8 FBf9
        refine (rfrmay_any HVT.out HSH.out r4 r5 HM).mono ?_
        rintro e w301 ⟨rfl, b301⟩
        replace C := Lib.hid (upQ C.out b301)
        replace FB := Lib.hid (upQ FB.out b301)
        replace TCC := Lib.hid (Tab.later TCC.out b301)
        replace TX := Lib.hid (Tab.later TX.out b301)
        replace HVT := Lib.hid (Tab.later HVT.out b301)
        replace HB := Lib.hid (below2Z HB.out b301)
        clear b301
        obtain ⟨⟨FBc0, FBc1, FBc2, FBc3, FBc4, FBc5, FBc6, FBc7, FBc8, FBc9⟩, ⟨FBf0, FBf1, FBf2, FBf3, FBf4, FBf5, FBf6, FBf7, FBf8, FBf9⟩⟩ := blk10 FB.out
        go_wp2_with fail
        clear FBc0 FBc1 FBc2 FBc3 FBc4 FBc5 FBc6 FBc7 FBc8 FBc9 FBf0 FBf1 FBf2 FBf3 FBf4 FBf5 FBf6 FBf7 FBf8 FBf9
        refine (live19 _).mono ?_
        rintro e w302 ⟨rfl, b302⟩
        replace HB := Lib.hid (below2Z HB.out b302)
        clear b302
        go_wp2_with fail
        go_ret
        exact ⟨rfl, HB.out⟩
      | true =>
        by_cases hk4 : fk = 4
        case pos =>
          subst hk4
          obtain ⟨⟨FBc0, FBc1, FBc2, FBc3, FBc4, FBc5, FBc6, FBc7, FBc8, FBc9⟩, ⟨FBf0, FBf1, FBf2, FBf3, FBf4, FBf5, FBf6, FBf7, FBf8, FBf9⟩⟩ := blk10 FB.out
          go_wp2_with fail
          clear FBc0 FBc1 FBc2 FBc3 FBc4 FBc5 FBc6 FBc7 FBc8 FBc9 FBf0 FBf1 FBf2 FBf3 FBf4 FBf5 FBf6 FBf7 FBf8 FBf9
          refine (rfrmay_any HVT.out HSH.out r4 r5 HM).mono ?_
          rintro e w301 ⟨rfl, b301⟩
          replace C := Lib.hid (upQ C.out b301)
          replace FB := Lib.hid (upQ FB.out b301)
          replace TCC := Lib.hid (Tab.later TCC.out b301)
          replace TX := Lib.hid (Tab.later TX.out b301)
          replace HVT := Lib.hid (Tab.later HVT.out b301)
          replace HB := Lib.hid (below2Z HB.out b301)
          clear b301
          obtain ⟨⟨FBc0, FBc1, FBc2, FBc3, FBc4, FBc5, FBc6, FBc7, FBc8, FBc9⟩, ⟨FBf0, FBf1, FBf2, FBf3, FBf4, FBf5, FBf6, FBf7, FBf8, FBf9⟩⟩ := blk10 FB.out
          go_wp2_with fail
          clear FBc0 FBc1 FBc2 FBc3 FBc4 FBc5 FBc6 FBc7 FBc8 FBc9 FBf0 FBf1 FBf2 FBf3 FBf4 FBf5 FBf6 FBf7 FBf8 FBf9
          refine (live19 _).mono ?_
          rintro e w302 ⟨rfl, b302⟩
          replace HB := Lib.hid (below2Z HB.out b302)
          clear b302
          go_wp2_with fail
          go_ret
          exact ⟨rfl, HB.out⟩
        case neg =>
          have g4 : (fk == 4) = false := by rw [beq_eq_false_iff_ne]; exact hk4
          by_cases hsl2 : fs < nx
          case pos =>
            have g5 : decide (fs < nx) = true := by rw [decide_eq_true_eq]; exact hsl2
            obtain ⟨⟨FBc0, FBc1, FBc2, FBc3, FBc4, FBc5, FBc6, FBc7, FBc8, FBc9⟩, ⟨FBf0, FBf1, FBf2, FBf3, FBf4, FBf5, FBf6, FBf7, FBf8, FBf9⟩⟩ := blk10 FB.out
            go_wp2_with fail
            clear FBc0 FBc1 FBc2 FBc3 FBc4 FBc5 FBc6 FBc7 FBc8 FBc9 FBf0 FBf1 FBf2 FBf3 FBf4 FBf5 FBf6 FBf7 FBf8 FBf9
            refine (rfrmay_any HVT.out HSH.out r4 r5 HM).mono ?_
            rintro e w301 ⟨rfl, b301⟩
            replace C := Lib.hid (upQ C.out b301)
            replace FB := Lib.hid (upQ FB.out b301)
            replace TCC := Lib.hid (Tab.later TCC.out b301)
            replace TX := Lib.hid (Tab.later TX.out b301)
            replace HVT := Lib.hid (Tab.later HVT.out b301)
            replace HB := Lib.hid (below2Z HB.out b301)
            clear b301
            obtain ⟨⟨FBc0, FBc1, FBc2, FBc3, FBc4, FBc5, FBc6, FBc7, FBc8, FBc9⟩, ⟨FBf0, FBf1, FBf2, FBf3, FBf4, FBf5, FBf6, FBf7, FBf8, FBf9⟩⟩ := blk10 FB.out
            go_wp2_with fail
            clear FBc0 FBc1 FBc2 FBc3 FBc4 FBc5 FBc6 FBc7 FBc8 FBc9 FBf0 FBf1 FBf2 FBf3 FBf4 FBf5 FBf6 FBf7 FBf8 FBf9
            refine (live19 _).mono ?_
            rintro e w302 ⟨rfl, b302⟩
            replace HB := Lib.hid (below2Z HB.out b302)
            clear b302
            go_wp2_with fail
            go_ret
            exact ⟨rfl, HB.out⟩
          case neg =>
            have g5 : decide (fs < nx) = false := by rw [decide_eq_false_iff_not]; omega
            have hso := frMay_iff.1 hm
            have hs0 : 0 ≤ fs := hso.s0
            have hs1 : fs ≤ 1099511627776 := hso.s1
            have hk1 : 1 ≤ fk := hso.k1
            have hk44 : fk ≤ 4 := hso.k4
            have hw : IntKind.i64.wrap (fs + 1) = fs + 1 := IntWalk.i64_in _ (by omega)
            have HMT := Lib.hid hm
            obtain ⟨⟨t2, n2, o2⟩, hfd⟩ : ∃ zz, clFeed ⟨t, nx, ou⟩ ⟨fk, fs, fon, fc, ⟨fsh, fpr, fsi, fst⟩, fsum, ft⟩ = zz := ⟨_, rfl⟩
            have HFD := Lib.hid hfd
            clear hso hm
            obtain ⟨⟨FBc0, FBc1, FBc2, FBc3, FBc4, FBc5, FBc6, FBc7, FBc8, FBc9⟩, ⟨FBf0, FBf1, FBf2, FBf3, FBf4, FBf5, FBf6, FBf7, FBf8, FBf9⟩⟩ := blk10 FB.out
            go_wp2_with fail
            clear FBc0 FBc1 FBc2 FBc3 FBc4 FBc5 FBc6 FBc7 FBc8 FBc9 FBf0 FBf1 FBf2 FBf3 FBf4 FBf5 FBf6 FBf7 FBf8 FBf9
            refine (rfrmay_any HVT.out HSH.out r4 r5 HM).mono ?_
            rintro e w103 ⟨rfl, b103⟩
            replace C := Lib.hid (upQ C.out b103)
            replace FB := Lib.hid (upQ FB.out b103)
            replace TCC := Lib.hid (Tab.later TCC.out b103)
            replace TX := Lib.hid (Tab.later TX.out b103)
            replace HVT := Lib.hid (Tab.later HVT.out b103)
            replace HB := Lib.hid (below2Z HB.out b103)
            clear b103
            obtain ⟨⟨FBc0, FBc1, FBc2, FBc3, FBc4, FBc5, FBc6, FBc7, FBc8, FBc9⟩, ⟨FBf0, FBf1, FBf2, FBf3, FBf4, FBf5, FBf6, FBf7, FBf8, FBf9⟩⟩ := blk10 FB.out
            obtain ⟨⟨Cc0, Cc1, Cc2⟩, ⟨Cf0, Cf1, Cf2⟩⟩ := blk3 C.out
            go_upto_region 13 with fail
            go_wp2_with fail
            clear FBc0 FBc1 FBc2 FBc3 FBc4 FBc5 FBc6 FBc7 FBc8 FBc9 FBf0 FBf1 FBf2 FBf3 FBf4 FBf5 FBf6 FBf7 FBf8 FBf9 Cc0 Cc1 Cc2 Cf0 Cf1 Cf2
            refine (clfeed_any TCC.out HVT.out nx ou HSC.out HSH.out r4 r5 r6 hlC r3 HFD).mono ?_
            rintro e w104 ⟨uA, rfl, hA, b104⟩
            replace C := Lib.hid (upQ C.out b104)
            replace FB := Lib.hid (upQ FB.out b104)
            replace TCC := Lib.hid (Tab.later TCC.out b104)
            replace TX := Lib.hid (Tab.later TX.out b104)
            replace HVT := Lib.hid (Tab.later HVT.out b104)
            replace HB := Lib.hid (below2Z HB.out b104)
            replace hA := CT.tab hA TCC.out HVT.out
            obtain ⟨ua, uc, rfl, -⟩ := hA.open'
            have TA := Lib.hid hA
            clear hA
            clear b104
            obtain ⟨⟨Cc0, Cc1, Cc2⟩, ⟨Cf0, Cf1, Cf2⟩⟩ := blk3 C.out
            go_upto_block 2 with fail
            clear Cc0 Cc1 Cc2 Cf0 Cf1 Cf2
            clear TCC HSC hlC
            have Cz := Lib.hid (stN3_heap C.out (.slice ua t2.length uc) (.int .i64 n2) (.bool o2))
            have FBz := Lib.hid ((stN3_far w104 BC (.slice ua t2.length uc) (.int .i64 n2) (.bool o2) (show ¬ BF = BC by omega)).trans FB.out)
            have HBz := Lib.hid (stN3_below HB.out (show w.heap.size ≤ BC from hC) (.slice ua t2.length uc) (.int .i64 n2) (.bool o2))
            have TXz := Lib.hid (tab_keepC TX.out C.out (fun k hk => stN3_far w104 BC (.slice ua t2.length uc) (.int .i64 n2) (.bool o2) hk) (by rw [stN3_size]; exact Nat.le_refl _))
            have HVTz := Lib.hid (tab_keepC HVT.out C.out (fun k hk => stN3_far w104 BC (.slice ua t2.length uc) (.int .i64 n2) (.bool o2) hk) (by rw [stN3_size]; exact Nat.le_refl _))
            have TAz := Lib.hid (tab_keepC TA.out C.out (fun k hk => stN3_far w104 BC (.slice ua t2.length uc) (.int .i64 n2) (.bool o2) hk) (by rw [stN3_size]; exact Nat.le_refl _))
            unfold stN3 at Cz FBz HBz TXz HVTz TAz
            clear C FB HB TX HVT TA
            generalize ((w104.setCell ⟨BC, 0, none⟩ (.slice ua t2.length uc)).setCell ⟨BC, 1, none⟩ (.int .i64 n2)).setCell ⟨BC, 2, none⟩ (.bool o2) = w105 at Cz FBz HBz TXz HVTz TAz ⊢
            have C := Cz
            clear Cz
            have FB := FBz
            clear FBz
            have HB := HBz
            clear HBz
            have TX := TXz
            clear TXz
            have HVT := HVTz
            clear HVTz
            have TA := TAz
            clear TAz
            go_cut [4, 6, 9] from 45 to 82 (fun p q r wx => ∃ (ou2 : Bool) (y : List Row) (ya : Option Addr) (yc : Nat), p = .bool ou2 ∧ q = .slice ya y.length yc ∧ Hid (GapsAt ⟨t2, n2, o2⟩ ou2 (fs + 1) y) ∧ Hid (Tab wx (.slice ya y.length yc) y) ∧ Hid (Below w105.heap.size w105 wx))
            case first =>
              have HBQ := Lib.hid (Below.refl w105.heap.size w105)
              by_cases h3 : fk = 3
              case pos =>
                subst h3
                obtain ⟨⟨FBc0, FBc1, FBc2, FBc3, FBc4, FBc5, FBc6, FBc7, FBc8, FBc9⟩, ⟨FBf0, FBf1, FBf2, FBf3, FBf4, FBf5, FBf6, FBf7, FBf8, FBf9⟩⟩ := blk10 FB.out
                go_wp2_with fail
                clear FBc0 FBc1 FBc2 FBc3 FBc4 FBc5 FBc6 FBc7 FBc8 FBc9 FBf0 FBf1 FBf2 FBf3 FBf4 FBf5 FBf6 FBf7 FBf8 FBf9
                go_meet
                exact ⟨false, ft, ta, tc, rfl, rfl, Lib.hid (hfd ▸ gaps_snap HG.out HMT.out rfl (show nx ≤ fs by omega)), HVT, HBQ⟩
              case neg =>
                have g3 : (fk == 3) = false := by rw [beq_eq_false_iff_ne]; exact h3
                by_cases hgt : nx < fs
                case pos =>
                  have g6 : decide (nx < fs) = true := by rw [decide_eq_true_eq]; exact hgt
                  obtain ⟨⟨FBc0, FBc1, FBc2, FBc3, FBc4, FBc5, FBc6, FBc7, FBc8, FBc9⟩, ⟨FBf0, FBf1, FBf2, FBf3, FBf4, FBf5, FBf6, FBf7, FBf8, FBf9⟩⟩ := blk10 FB.out
                  go_wp2_with fail
                  clear FBc0 FBc1 FBc2 FBc3 FBc4 FBc5 FBc6 FBc7 FBc8 FBc9 FBf0 FBf1 FBf2 FBf3 FBf4 FBf5 FBf6 FBf7 FBf8 FBf9
                  go_meet
                  exact ⟨true, x, xa, xc, rfl, rfl, Lib.hid (hfd ▸ gaps_gap HG.out HMT.out h3 hk4 hgt), TX, HBQ⟩
                case neg =>
                  have g6 : decide (nx < fs) = false := by rw [decide_eq_false_iff_not]; omega
                  have HSE := Lib.hid (show fs = nx by omega)
                  clear hgt hsl2
                  by_cases h2 : fk = 2
                  case pos =>
                    subst h2
                    cases ou with
                    | true =>
                      obtain ⟨⟨FBc0, FBc1, FBc2, FBc3, FBc4, FBc5, FBc6, FBc7, FBc8, FBc9⟩, ⟨FBf0, FBf1, FBf2, FBf3, FBf4, FBf5, FBf6, FBf7, FBf8, FBf9⟩⟩ := blk10 FB.out
                      go_upto_region 20 with fail
                      go_region
                      go_wp2_with fail
                      clear FBc0 FBc1 FBc2 FBc3 FBc4 FBc5 FBc6 FBc7 FBc8 FBc9 FBf0 FBf1 FBf2 FBf3 FBf4 FBf5 FBf6 FBf7 FBf8 FBf9
                      go_meet
                      exact ⟨true, x, xa, xc, rfl, rfl, Lib.hid (hfd ▸ gaps_out HG.out HMT.out h3 hk4 (Int.le_of_eq HSE.out.symm)), Lib.hid (TX.out.later (Below.refl _ _).drew), Lib.hid (Below.refl _ _).drew⟩
                    | false =>
                      obtain ⟨z, hz⟩ : ∃ z, diSum x = z := ⟨_, rfl⟩
                      obtain ⟨r, hr⟩ : ∃ r, ((z : Int) != (fsum : Int)) = r := ⟨_, rfl⟩
                      have HZ := Lib.hid hz
                      obtain ⟨⟨FBc0, FBc1, FBc2, FBc3, FBc4, FBc5, FBc6, FBc7, FBc8, FBc9⟩, ⟨FBf0, FBf1, FBf2, FBf3, FBf4, FBf5, FBf6, FBf7, FBf8, FBf9⟩⟩ := blk10 FB.out
                      go_upto_region 20 with fail
                      clear FBc0 FBc1 FBc2 FBc3 FBc4 FBc5 FBc6 FBc7 FBc8 FBc9 FBf0 FBf1 FBf2 FBf3 FBf4 FBf5 FBf6 FBf7 FBf8 FBf9
                      obtain ⟨BS, hBS⟩ : ∃ BS : List (Nat × List Value), BS = [(BF, [.int .i64 2, .int .i64 fs, .bool fon, .string ⟨fc.toArray⟩, .int .i64 fsh, .int .i64 fpr, .int .i64 fsi, .string ⟨fst.toArray⟩, .int .u64 fsum, .slice ta ft.length tc])] := ⟨_, rfl⟩
                      have D0 := Lib.hid (show heldB w105 BS from by rw [hBS]; exact heldB_cons (cellsAt_block FB.out) (heldB_nil _))
                      have hq0 : ∀ X, heldB X BS → X.cell? ⟨BF, 0, none⟩ = some (.int .i64 2) := fun X hx => heldB_get (vs := [.int .i64 2, .int .i64 fs, .bool fon, .string ⟨fc.toArray⟩, .int .i64 fsh, .int .i64 fpr, .int .i64 fsi, .string ⟨fst.toArray⟩, .int .u64 fsum, .slice ta ft.length tc]) hx (by rw [hBS]; simp) rfl
                      have hq1 : ∀ X, heldB X BS → X.cell? ⟨BF, 1, none⟩ = some (.int .i64 fs) := fun X hx => heldB_get (vs := [.int .i64 2, .int .i64 fs, .bool fon, .string ⟨fc.toArray⟩, .int .i64 fsh, .int .i64 fpr, .int .i64 fsi, .string ⟨fst.toArray⟩, .int .u64 fsum, .slice ta ft.length tc]) hx (by rw [hBS]; simp) rfl
                      have hq2 : ∀ X, heldB X BS → X.cell? ⟨BF, 2, none⟩ = some (.bool fon) := fun X hx => heldB_get (vs := [.int .i64 2, .int .i64 fs, .bool fon, .string ⟨fc.toArray⟩, .int .i64 fsh, .int .i64 fpr, .int .i64 fsi, .string ⟨fst.toArray⟩, .int .u64 fsum, .slice ta ft.length tc]) hx (by rw [hBS]; simp) rfl
                      have hq3 : ∀ X, heldB X BS → X.cell? ⟨BF, 3, none⟩ = some (.string ⟨fc.toArray⟩) := fun X hx => heldB_get (vs := [.int .i64 2, .int .i64 fs, .bool fon, .string ⟨fc.toArray⟩, .int .i64 fsh, .int .i64 fpr, .int .i64 fsi, .string ⟨fst.toArray⟩, .int .u64 fsum, .slice ta ft.length tc]) hx (by rw [hBS]; simp) rfl
                      have hq4 : ∀ X, heldB X BS → X.cell? ⟨BF, 4, none⟩ = some (.int .i64 fsh) := fun X hx => heldB_get (vs := [.int .i64 2, .int .i64 fs, .bool fon, .string ⟨fc.toArray⟩, .int .i64 fsh, .int .i64 fpr, .int .i64 fsi, .string ⟨fst.toArray⟩, .int .u64 fsum, .slice ta ft.length tc]) hx (by rw [hBS]; simp) rfl
                      have hq5 : ∀ X, heldB X BS → X.cell? ⟨BF, 5, none⟩ = some (.int .i64 fpr) := fun X hx => heldB_get (vs := [.int .i64 2, .int .i64 fs, .bool fon, .string ⟨fc.toArray⟩, .int .i64 fsh, .int .i64 fpr, .int .i64 fsi, .string ⟨fst.toArray⟩, .int .u64 fsum, .slice ta ft.length tc]) hx (by rw [hBS]; simp) rfl
                      have hq6 : ∀ X, heldB X BS → X.cell? ⟨BF, 6, none⟩ = some (.int .i64 fsi) := fun X hx => heldB_get (vs := [.int .i64 2, .int .i64 fs, .bool fon, .string ⟨fc.toArray⟩, .int .i64 fsh, .int .i64 fpr, .int .i64 fsi, .string ⟨fst.toArray⟩, .int .u64 fsum, .slice ta ft.length tc]) hx (by rw [hBS]; simp) rfl
                      have hq7 : ∀ X, heldB X BS → X.cell? ⟨BF, 7, none⟩ = some (.string ⟨fst.toArray⟩) := fun X hx => heldB_get (vs := [.int .i64 2, .int .i64 fs, .bool fon, .string ⟨fc.toArray⟩, .int .i64 fsh, .int .i64 fpr, .int .i64 fsi, .string ⟨fst.toArray⟩, .int .u64 fsum, .slice ta ft.length tc]) hx (by rw [hBS]; simp) rfl
                      have hq8 : ∀ X, heldB X BS → X.cell? ⟨BF, 8, none⟩ = some (.int .u64 fsum) := fun X hx => heldB_get (vs := [.int .i64 2, .int .i64 fs, .bool fon, .string ⟨fc.toArray⟩, .int .i64 fsh, .int .i64 fpr, .int .i64 fsi, .string ⟨fst.toArray⟩, .int .u64 fsum, .slice ta ft.length tc]) hx (by rw [hBS]; simp) rfl
                      have hq9 : ∀ X, heldB X BS → X.cell? ⟨BF, 9, none⟩ = some (.slice ta ft.length tc) := fun X hx => heldB_get (vs := [.int .i64 2, .int .i64 fs, .bool fon, .string ⟨fc.toArray⟩, .int .i64 fsh, .int .i64 fpr, .int .i64 fsi, .string ⟨fst.toArray⟩, .int .u64 fsum, .slice ta ft.length tc]) hx (by rw [hBS]; simp) rfl
                      clear hBS
                      have K0 : Hid (Below w105.heap.size w105 w105.drew) := Lib.hid (Below.refl _ _).drew
                      refine wp_region_held_drew (S := (fun X => heldB X BS)) (by kernel_rfl) ?_ (fun hHeld => ?_)
                      · exact heldB_up K0.out D0.out
                      generalize w105.drew = z0 at K0 hHeld ⊢
                      refine wpAnyH_take (i := 0) (oi := { dst := some 60, op := Op.move (Operand.tmp 4), type := 4, pos := "law.go:98", after := #[], guard := none }) (v := ?_) rfl (by as_aux_lemma => kernel_rfl) (by as_aux_lemma => kernel_rfl) (by as_aux_lemma => kernel_rfl) (fun _ _ _ h => h) (Or.inl ⟨by rfl, ?_⟩) (by assumption) ?_
                      rotate_left
                      · intro w' hSw
                        try dsimp only at hSw
                        go_simp
                        try with_reducible rfl
                      try simp only [Act.put, List.setIfInBounds_toArray, List.set_cons_zero, List.set_cons_succ]
                      refine wpAnyH_take (i := 1) (oi := { dst := some 61, op := Op.move (Operand.tmp 60), type := 4, pos := "law.go:98", after := #[{ on := 0, ground := Ground.data }], guard := none }) (v := ?_) rfl (by as_aux_lemma => kernel_rfl) (by as_aux_lemma => kernel_rfl) (by as_aux_lemma => kernel_rfl) (fun _ _ _ h => h) (Or.inl ⟨by rfl, ?_⟩) (by assumption) ?_
                      rotate_left
                      · intro w' hSw
                        try dsimp only at hSw
                        go_simp
                        try with_reducible rfl
                      try simp only [Act.put, List.setIfInBounds_toArray, List.set_cons_zero, List.set_cons_succ]
                      refine wpAnyH_take (i := 2) (oi := { dst := some 62, op := Op.move (Operand.tmp 6), type := 25, pos := "law.go:98", after := #[{ on := 1, ground := Ground.guard }], guard := some (1, false) }) (v := ?_) rfl (by as_aux_lemma => kernel_rfl) (by as_aux_lemma => kernel_rfl) (by as_aux_lemma => kernel_rfl) (fun _ _ _ h => h) (Or.inl ⟨by rfl, ?_⟩) (by assumption) ?_
                      rotate_left
                      · intro w' hSw
                        try dsimp only at hSw
                        go_simp
                        try with_reducible rfl
                      try simp only [Act.put, List.setIfInBounds_toArray, List.set_cons_zero, List.set_cons_succ]
                      refine wpAnyH_take (i := 4) (oi := { dst := some 64, op := Op.fieldAddr 34 (Operand.tmp 8) 5, type := 0, pos := "law.go:98", after := #[{ on := 1, ground := Ground.guard }], guard := some (1, false) }) (v := ?_) rfl (by as_aux_lemma => kernel_rfl) (by as_aux_lemma => kernel_rfl) (by as_aux_lemma => kernel_rfl) (fun _ _ _ h => h) (Or.inl ⟨by rfl, ?_⟩) (by assumption) ?_
                      rotate_left
                      · intro w' hSw
                        try dsimp only at hSw
                        go_simp
                        try with_reducible rfl
                      try simp only [Act.put, List.setIfInBounds_toArray, List.set_cons_zero, List.set_cons_succ]
                      refine wpAnyH_take (i := 5) (oi := { dst := some 65, op := Op.load 32 (Operand.tmp 64), type := 32, pos := "law.go:98", after := #[{ on := 4, ground := Ground.data }, { on := 1, ground := Ground.guard }], guard := some (1, false) }) (v := ?_) rfl (by as_aux_lemma => kernel_rfl) (by as_aux_lemma => kernel_rfl) (by as_aux_lemma => kernel_rfl) (fun _ _ _ h => h) (Or.inl ⟨by rfl, ?_⟩) (by assumption) ?_
                      rotate_left
                      · intro w' hSw
                        try dsimp only at hSw
                        go_simp
                        try with_reducible rfl
                      try simp only [Act.put, List.setIfInBounds_toArray, List.set_cons_zero, List.set_cons_succ]
                      refine wpAnyH_ready (rs := [3]) (by as_aux_lemma => kernel_rfl) (by simp) ?_
                      refine AllReadyH.cons (o := { dst := some 63, op := Op.call { callee := Callee.value (Operand.func 14), args := #[Operand.tmp 62], argTypes := #[25] }, type := 32, pos := "law.go:98", after := #[{ on := 2, ground := Ground.data }, { on := 1, ground := Ground.chain }, { on := 1, ground := Ground.guard }], guard := some (1, false) }) rfl (fun Kx hK => ?_) AllReadyH.nil
                      go_simp
                      refine (sum_eqC (TX.out.later (K0.out)) HSX.out HZ).mono ?_
                      rintro e z1001 ⟨rfl, bz1001⟩
                      have K1001 := Lib.hid (below2Z K0.out bz1001)
                      have D1001 := Lib.hid (heldB_up K1001.out D0.out)
                      clear bz1001
                      go_wp2_with fail
                      refine hK.out _ _ ?_ (fun hHeld2 => ?_)
                      · exact D1001.out
                      clear hK Kx hHeld
                      have hHeld := hHeld2
                      clear hHeld2
                      try simp only [Act.put, List.setIfInBounds_toArray, List.set_cons_zero, List.set_cons_succ]
                      refine wpAnyH_take (i := 6) (oi := { dst := some 66, op := Op.binOp BinOp.neq 32 (Operand.tmp 63) (Operand.tmp 65) 32, type := 4, pos := "law.go:98", after := #[{ on := 3, ground := Ground.data }, { on := 5, ground := Ground.data }, { on := 1, ground := Ground.guard }], guard := some (1, false) }) (v := ?_) rfl (by as_aux_lemma => kernel_rfl) (by as_aux_lemma => kernel_rfl) (by as_aux_lemma => kernel_rfl) (fun _ _ _ h => h) (Or.inl ⟨by rfl, ?_⟩) (by assumption) ?_
                      rotate_left
                      · intro w' hSw
                        try dsimp only at hSw
                        go_simp
                        try with_reducible rfl
                      try simp only [Act.put, List.setIfInBounds_toArray, List.set_cons_zero, List.set_cons_succ]
                      refine wpAnyH_take (i := 7) (oi := { dst := some 67, op := Op.pick (Operand.tmp 61) (Operand.const (Value.bool true)) (Operand.tmp 66), type := 4, pos := "law.go:98", after := #[{ on := 1, ground := Ground.data }, { on := 6, ground := Ground.data }], guard := none }) (v := ?_) rfl (by as_aux_lemma => kernel_rfl) (by as_aux_lemma => kernel_rfl) (by as_aux_lemma => kernel_rfl) (fun _ _ _ h => h) (Or.inl ⟨by rfl, ?_⟩) (by assumption) ?_
                      rotate_left
                      · intro w' hSw
                        try dsimp only at hSw
                        go_simp
                        try with_reducible rfl
                      try simp only [Act.put, List.setIfInBounds_toArray, List.set_cons_zero, List.set_cons_succ]
                      refine wpAnyH_take (i := 8) (oi := { dst := some 4, op := Op.assign (Operand.tmp 67), type := 4, pos := "law.go:98", after := #[{ on := 7, ground := Ground.data }, { on := 3, ground := Ground.chain }, { on := 0, ground := Ground.phase }, { on := 1, ground := Ground.phase }, { on := 2, ground := Ground.phase }, { on := 3, ground := Ground.phase }, { on := 4, ground := Ground.phase }, { on := 5, ground := Ground.phase }, { on := 6, ground := Ground.phase }, { on := 7, ground := Ground.phase }], guard := none }) (v := ?_) rfl (by as_aux_lemma => kernel_rfl) (by as_aux_lemma => kernel_rfl) (by as_aux_lemma => kernel_rfl) (fun _ _ _ h => h) (Or.inl ⟨by rfl, ?_⟩) (by assumption) ?_
                      rotate_left
                      · intro w' hSw
                        try dsimp only at hSw
                        go_simp
                        try with_reducible rfl
                      try simp only [Act.put, List.setIfInBounds_toArray, List.set_cons_zero, List.set_cons_succ]
                      refine wpAnyH_done (by kernel_rfl) ?_ _
                      go_wp2_with fail
                      go_meet
                      refine ⟨r, x, xa, xc, rfl, rfl, Lib.hid ?_, Lib.hid (TX.out.later (K1001.out)), Lib.hid (K1001.out)⟩
                      have hg := HG.out
                      rw [← HSE.out] at hg
                      have e : (!decide (diSum x = fsum)) = r := by rw [← hr, ← hz, Bool.eq_iff_iff]; simp [Int.ofNat_inj]
                      rw [← e, ← hfd, ← HSE.out]
                      exact gaps_sum hg HMT.out rfl
                  case neg =>
                    have g2 : (fk == 2) = false := by rw [beq_eq_false_iff_ne]; exact h2
                    obtain rfl : fk = 1 := by omega
                    cases ou with
                    | true =>
                      obtain ⟨⟨FBc0, FBc1, FBc2, FBc3, FBc4, FBc5, FBc6, FBc7, FBc8, FBc9⟩, ⟨FBf0, FBf1, FBf2, FBf3, FBf4, FBf5, FBf6, FBf7, FBf8, FBf9⟩⟩ := blk10 FB.out
                      go_wp2_with fail
                      clear FBc0 FBc1 FBc2 FBc3 FBc4 FBc5 FBc6 FBc7 FBc8 FBc9 FBf0 FBf1 FBf2 FBf3 FBf4 FBf5 FBf6 FBf7 FBf8 FBf9
                      go_meet
                      exact ⟨true, x, xa, xc, rfl, rfl, Lib.hid (hfd ▸ gaps_out HG.out HMT.out h3 hk4 (Int.le_of_eq HSE.out.symm)), TX, HBQ⟩
                    | false =>
                      obtain ⟨y, hy⟩ : ∃ y, diSet x ⟨fc, fon, ⟨fsh, fpr, fsi, fst⟩⟩ = y := ⟨_, rfl⟩
                      have hys : Short y := by rw [← hy]; exact set_short HSX.out r4 r5
                      have hgr := gaps_row (f := ⟨1, fs, fon, fc, ⟨fsh, fpr, fsi, fst⟩, fsum, ft⟩) (HSE.out ▸ HG.out) HMT.out rfl
                      simp only at hgr
                      have hfd2 := hfd
                      rw [← HSE.out] at hfd2
                      rw [hy, hfd2] at hgr
                      obtain ⟨r, hr⟩ : ∃ r, diMay y = r := ⟨_, rfl⟩
                      have HR := Lib.hid hr
                      obtain ⟨⟨FBc0, FBc1, FBc2, FBc3, FBc4, FBc5, FBc6, FBc7, FBc8, FBc9⟩, ⟨FBf0, FBf1, FBf2, FBf3, FBf4, FBf5, FBf6, FBf7, FBf8, FBf9⟩⟩ := blk10 FB.out
                      go_wp2_with fail
                      clear FBc0 FBc1 FBc2 FBc3 FBc4 FBc5 FBc6 FBc7 FBc8 FBc9 FBf0 FBf1 FBf2 FBf3 FBf4 FBf5 FBf6 FBf7 FBf8 FBf9
                      refine (set_eqC TX.out hlX fc fst fon fsh fpr fsi).mono ?_
                      rintro e w501 ⟨uU, rfl, hU, b501⟩
                      replace C := Lib.hid (upQ C.out b501)
                      replace FB := Lib.hid (upQ FB.out b501)
                      replace TX := Lib.hid (Tab.later TX.out b501)
                      replace HVT := Lib.hid (Tab.later HVT.out b501)
                      replace TA := Lib.hid (Tab.later TA.out b501)
                      replace HB := Lib.hid (below2Z HB.out b501)
                      rw [hy] at hU
                      obtain ⟨ya, yc, rfl, -⟩ := Tab.open' (OwnR.tab hU)
                      have TU := Lib.hid (OwnR.tab hU)
                      clear hU
                      replace HBQ := Lib.hid (below2Z HBQ.out b501)
                      clear b501
                      go_wp2_with fail
                      refine (rdimay_eq TU.out hys HR).mono ?_
                      rintro e w502 ⟨rfl, b502⟩
                      replace C := Lib.hid (upQ C.out b502)
                      replace FB := Lib.hid (upQ FB.out b502)
                      replace TX := Lib.hid (Tab.later TX.out b502)
                      replace HVT := Lib.hid (Tab.later HVT.out b502)
                      replace TA := Lib.hid (Tab.later TA.out b502)
                      replace TU := Lib.hid (Tab.later TU.out b502)
                      replace HB := Lib.hid (below2Z HB.out b502)
                      replace HBQ := Lib.hid (below2Z HBQ.out b502)
                      clear b502
                      cases r with
                      | false =>
                        go_wp2_with fail
                        go_meet
                        exact ⟨true, x, xa, xc, rfl, rfl, Lib.hid (hgr.2 hr), TX, HBQ⟩
                      | true =>
                        go_wp2_with fail
                        go_meet
                        exact ⟨false, y, ya, yc, rfl, rfl, Lib.hid (hgr.1 hr), TU, HBQ⟩
            case rest =>
              obtain ⟨ou2, y, ya, yc, rfl, rfl, HG2, TY, KB⟩ := hcut
              obtain ⟨w106, hw106⟩ : ∃ X, X = wc := ⟨_, rfl⟩
              subst hw106
              replace C := Lib.hid (upQ C.out KB.out)
              replace FB := Lib.hid (upQ FB.out KB.out)
              replace TX := Lib.hid (Tab.later TX.out KB.out)
              replace HVT := Lib.hid (Tab.later HVT.out KB.out)
              replace TA := Lib.hid (Tab.later TA.out KB.out)
              replace HB := Lib.hid (below2Z HB.out KB.out)
              clear KB
              obtain ⟨hcm2, hou, hnx, hym, hte⟩ := HG2.out
              simp only at hou hnx hte
              subst hou hnx
              have hs2 := short_in (clMay_parts hcm2).2.2
              obtain ⟨la, ra, hak⟩ : ∃ l r, clAsk ⟨t2, fs + 1, o2⟩ = (l, r) := ⟨_, _, rfl⟩
              have hra : ra = o2 := by
                unfold clAsk at hak
                cases o2 with
                | true => rw [if_pos (by simp [hcm2])] at hak; simp only [Prod.mk.injEq] at hak; exact hak.2.symm
                | false => rw [if_neg (by simp)] at hak; simp only [Prod.mk.injEq] at hak; exact hak.2.symm
              subst hra
              have HAK := Lib.hid hak
              have HTE0 := Lib.hid hte
              clear hak hym hcm2 hte hfd HFD HG TX HVT HMT HM
              obtain ⟨⟨FBc0, FBc1, FBc2, FBc3, FBc4, FBc5, FBc6, FBc7, FBc8, FBc9⟩, ⟨FBf0, FBf1, FBf2, FBf3, FBf4, FBf5, FBf6, FBf7, FBf8, FBf9⟩⟩ := blk10 FB.out
              obtain ⟨⟨Cc0, Cc1, Cc2⟩, ⟨Cf0, Cf1, Cf2⟩⟩ := blk3 C.out
              go_wp2_with fail
              clear FBc0 FBc1 FBc2 FBc3 FBc4 FBc5 FBc6 FBc7 FBc8 FBc9 FBf0 FBf1 FBf2 FBf3 FBf4 FBf5 FBf6 FBf7 FBf8 FBf9 Cc0 Cc1 Cc2 Cf0 Cf1 Cf2
              refine (clask_any TA.out (fs + 1) ra hs2 HAK).mono ?_
              rintro e w107 ⟨rfl, b107⟩
              replace C := Lib.hid (upQ C.out b107)
              replace FB := Lib.hid (upQ FB.out b107)
              replace TA := Lib.hid (Tab.later TA.out b107)
              replace TY := Lib.hid (Tab.later TY.out b107)
              replace HB := Lib.hid (below2Z HB.out b107)
              clear b107
              cases ra with
              | true =>
                obtain ⟨⟨Cc0, Cc1, Cc2⟩, ⟨Cf0, Cf1, Cf2⟩⟩ := blk3 C.out
                go_wp2_with fail
                clear Cc0 Cc1 Cc2 Cf0 Cf1 Cf2
                go_roundw
                case rel => exact ⟨k + 1, t2, y, fs + 1, true, ua, ya, uc, yc, by omega, by go_num, rfl, rfl, rfl, C, TA, TY, HG2, HB⟩
                case measure => simp [intOf]; omega
              | false =>
                have HTE := Lib.hid (tSame_iff.2 (HTE0.out rfl))
                obtain ⟨⟨Cc0, Cc1, Cc2⟩, ⟨Cf0, Cf1, Cf2⟩⟩ := blk3 C.out
                go_wp2_with fail
                clear Cc0 Cc1 Cc2 Cf0 Cf1 Cf2
                refine (tsame_eq TA.out TY.out HTE).mono ?_
                rintro e w751 ⟨rfl, b751⟩
                replace C := Lib.hid (upQ C.out b751)
                replace FB := Lib.hid (upQ FB.out b751)
                replace TA := Lib.hid (Tab.later TA.out b751)
                replace TY := Lib.hid (Tab.later TY.out b751)
                replace HB := Lib.hid (below2Z HB.out b751)
                clear b751
                go_wp2_with fail
                go_roundw
                case rel => exact ⟨k + 1, t2, y, fs + 1, false, ua, ya, uc, yc, by omega, by go_num, rfl, rfl, rfl, C, TA, TY, HG2, HB⟩
                case measure => simp [intOf]; omega

theorem walkClientGaps {w : World} {v : Value} {l : List FrS} (hv : RdS frVals 10 FrS.zero w v l) (hf : ∀ p ∈ l, FrFit w p) :
    Calls Try.prog 4 #[v] w fun e w' => e = .returned (.bool true) ∧ Below w.heap.size w w' := by
  cases h : (decide (l.length ≤ 30) && frsFew l) with
  | false => exact cgp_1 hv hf (Lib.hid h)
  | true => exact cgp_2 hv hf (Lib.hid h)

end Go.Proofs.Ytekkofldhhdpgaa

end

section

/-
  THE FRAME OF THE PROOF OF ClientGaps: for every input the law returns true, and each argument reads behind the call as it read before. No condition.
-/
namespace Go.Proofs.Ytekkofldhhdpgaa.clientGaps
open Go.ChangeShapes Go.WideShapes Go.ChangeAt Go.RowKit
open Go.ChangeMaps (open_string shut_string)
set_option linter.unusedVariables false

theorem own : ownKnob Try.prog.godebug = none := by kernel_rfl
theorem laidOut : laidOutB Try.prog = true := by kernel_rfl

set_option maxRecDepth 100000 in
theorem lifted (os : Os) (started : os.Started) (H : Type) (enc : TypeId × Value → H) :
    ReturnsInHanded {} Try.checked os 4 .any (Rows.clientGapsSpec.pre6 enc Try.prog Try.f4 Rows.clientGapsRow.domain false) (Rows.clientGapsSpec.post enc Try.prog Try.f4 false true false false) := by
  refine returnsInHanded_of_change (C := Try.checked) own started (by kernel_rfl) Try.func4
    (ChangeSpec.witness6 (enc := enc) (C := Try.checked) false ⟨#[], #[.slice none 0 0], []⟩ 8 (by kernel_rfl) (by kernel_rfl) (by kernel_rfl) (by kernel_rfl)) ?_
  intro W base args ds gs before hval0 hW hcnd _
  have hval : ∀ (j : Nat) t v, Try.f4.params[j]? = some t → args[j]? = some v → Value.okWide Try.prog W .any base t v := hval0
  have hW' := hW
  obtain ⟨p, q, hA0, hV, rfl, hfz, hnd⟩ := hW
  have hA : DataW.TrodAll enc Try.prog W 0 (fun _ => true) true Try.f4.params.toList args.toList ds p := hA0
  rw [Try.params4] at hA hval
  obtain ⟨v0, vs0, d0, ds0, p0, q0, hargs, rfl, rfl, h0, r0⟩ := trodAll_cons hA
  obtain ⟨rfl, rfl, rfl⟩ := trodAll_nil r0
  obtain rfl : args = #[v0] := by cases args; simp_all
  obtain ⟨rfl, rfl⟩ := trodVars_none hV
  have k0 := h0
  have lt0 : ∀ x ∈ p0, x.block < W.heap.size := by obtain ⟨m, hm⟩ := k0; exact DataW.trod_lt m _ _ _ hm
  obtain ⟨l0, w0, f0⟩ := open_frms (hval 0 22 v0 rfl rfl) h0
  clear hA0 hval0
  refine (walkClientGaps (w := W) w0 f0).mono fun e W' ⟨he, bel⟩ => ?_
  subst he
  exact ⟨_, rfl, _, _, _, [], _, [], hW', trodAll_mk1 (shut_bool Try.underlying4 _), (trodAll_cons_mk (Below.trod laidOut (by kernel_rfl) (of_decide_eq_true (by kernel_rfl)) k0 bel lt0) trodAll_mk0), rfl, bel.frame _, fun h => by cases h⟩

theorem over : Rows.clientGapsRow.holds Try.pinned (OpenSpec.ofChange Rows.clientGapsSpec) :=
  OpenClaim.holds_of_wide 4 Try.f4 rfl rfl rfl rfl rfl rfl rfl ⟨rfl, rfl, rfl, rfl, rfl⟩ rfl rfl rfl rfl rfl (by kernel_rfl) Try.func4 (by kernel_rfl)
    (of_decide_eq_true (by kernel_rfl)) (by unfold Func.isWrapper; first | (rw [if_pos (by decide +kernel)]; kernel_rfl) | (rw [if_neg (by decide +kernel)]; exact ⟨rfl, rfl⟩))
    (fun os started H enc _ => lifted os started H enc)

/-- THE STATEMENT. -/
theorem proved : Rows.ClientGapsSaid := over
#print axioms proved
end Go.Proofs.Ytekkofldhhdpgaa.clientGaps

end
