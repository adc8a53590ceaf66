/-
  THE WALK OF PaceRate.
-/
import Derived.Test.YtnmdjkecjlpkkaaPacInts
namespace Go.Proofs.Ytnmdjkecjlpkkaa
open Go.RowKit

set_option maxHeartbeats 3200000 in
set_option maxRecDepth 100000 in
theorem prateA {w : World} (a b d e : Int) (a0 : Option Addr) (len cap : Nat) (hlen : len ≤ maxLen) (h1 : 60 < len) :
    Calls Try.prog 10 #[.agg #[.int .i64 a, .int .i64 b, .int .i64 d, .int .i64 e], .slice a0 len cap] w fun e w' => e = .returned (.bool true) ∧ Below w.heap.size w w' := by
  have HB := Lib.hid (bl_newZ w (.cells #[.int .i64 a, .int .i64 b, .int .i64 d, .int .i64 e] 52))
  have K0 := Lib.hid (cellsAt_made (w := w) (cs := #[.int .i64 a, .int .i64 b, .int .i64 d, .int .i64 e]) (vs := [.int .i64 a, .int .i64 b, .int .i64 d, .int .i64 e]) (by rfl) 52 rfl)
  unfold maxLen at hlen
  have g1 : decide (60 < (len : Int)) = true := by simp; omega
  clear h1
  go_enter Try.func10, Try.ntmps10
  go_wp2_with fail
  refine (live16 _).mono ?_
  rintro e w1 ⟨rfl, bz⟩
  replace K0 := Lib.hid (K0.out.later bz)
  replace HB := Lib.hid (below2Z HB.out bz)
  clear bz
  go_wp2_with fail
  go_ret
  exact ⟨rfl, HB.out⟩

set_option maxHeartbeats 3200000 in
set_option maxRecDepth 100000 in
theorem prateB {w : World} (a b d e : Int) (a0 : Option Addr) (len cap : Nat) (hlen : len ≤ maxLen) (h1 : len ≤ 60) (hm : pcMay ⟨a, b, d, e⟩ = false) :
    Calls Try.prog 10 #[.agg #[.int .i64 a, .int .i64 b, .int .i64 d, .int .i64 e], .slice a0 len cap] w fun e w' => e = .returned (.bool true) ∧ Below w.heap.size w w' := by
  have HB := Lib.hid (bl_newZ w (.cells #[.int .i64 a, .int .i64 b, .int .i64 d, .int .i64 e] 52))
  have K0 := Lib.hid (cellsAt_made (w := w) (cs := #[.int .i64 a, .int .i64 b, .int .i64 d, .int .i64 e]) (vs := [.int .i64 a, .int .i64 b, .int .i64 d, .int .i64 e]) (by rfl) 52 rfl)
  unfold maxLen at hlen
  have g1 : decide (60 < (len : Int)) = false := by simp; omega
  have HM := Lib.hid (rpmay_any a b d e (Lib.hid hm))
  clear hm
  clear h1
  go_enter Try.func10, Try.ntmps10
  go_wp2_with fail
  refine (HM.out _).mono ?_
  rintro e w1 ⟨rfl, bz⟩
  replace K0 := Lib.hid (K0.out.later bz)
  replace HB := Lib.hid (below2Z HB.out bz)
  clear bz
  go_wp2_with fail
  refine (live16 _).mono ?_
  rintro e w2 ⟨rfl, bz⟩
  replace K0 := Lib.hid (K0.out.later bz)
  replace HB := Lib.hid (below2Z HB.out bz)
  clear bz
  go_wp2_with fail
  go_ret
  exact ⟨rfl, HB.out⟩

/-- All that is known of the bucket and of the ticks at which was taken. -/
structure RateIn (a b d e x m : Int) (l : List Int) (k : Nat) : Prop where
  one : pcOne ⟨a, b, d, e⟩ ⟨x, m⟩ = true
  ok : RateOK ⟨a, b, d, e⟩ ⟨x, m⟩ l
  m0 : 0 ≤ m
  m1 : m ≤ (k : Int) * 1048576
  len : l.length ≤ k
  mem : ∀ z ∈ l, 0 ≤ z ∧ z ≤ m

set_option maxHeartbeats 3200000 in
set_option maxRecDepth 100000 in
theorem prateM {w : World} (a b d e : Int) (a0 : Option Addr) (len cap : Nat) (ns : List Int) (h : IsRow .i64 w a0 len cap ns) (h1 : len ≤ 60) (hm : pcMay ⟨a, b, d, e⟩ = true) :
    Calls Try.prog 10 #[.agg #[.int .i64 a, .int .i64 b, .int .i64 d, .int .i64 e], .slice a0 len cap] w fun e w' => e = .returned (.bool true) ∧ Below w.heap.size w w' := by
  have HB := Lib.hid (bl_newZ w (.cells #[.int .i64 a, .int .i64 b, .int .i64 d, .int .i64 e] 52))
  have K0 := Lib.hid (cellsAt_made (w := w) (cs := #[.int .i64 a, .int .i64 b, .int .i64 d, .int .i64 e]) (vs := [.int .i64 a, .int .i64 b, .int .i64 d, .int .i64 e]) (by rfl) 52 rfl)
  obtain ⟨hlen, hrow⟩ := row_read h
  have HROW := Lib.hid hrow
  clear h hrow
  unfold maxLen at hlen
  have g1 : decide (60 < (len : Int)) = false := by simp; omega
  have HM := Lib.hid (rpmay_any a b d e (Lib.hid hm))
  have HNW := Lib.hid (pnew_any a b d e 0 (x := b) (y := 0) (n := 0) (by show _ = _; unfold pcNew; rw [hm, if_pos (by rfl)]))
  obtain ⟨_, _, m1, m2, m3, m4, _, _⟩ := pcMay_iff.1 hm
  simp only at m1 m2 m3 m4
  have HCF : Hid (1 ≤ b ∧ b ≤ 64 ∧ 1 ≤ d ∧ d ≤ 16) := ⟨m1, m2, m3, m4⟩
  have HI : Hid (RateIn a b d e b 0 [] 0) := ⟨pcOne_iff.2 ⟨hm, by show 0 ≤ b; omega, by simp, by simp, by simp⟩, rate_start _ _, by simp, by simp, by simp, fun z hz => by simp at hz⟩
  have HLEN := Lib.hid h1
  clear hm h1 m1 m2 m3 m4
  go_enter Try.func10, Try.ntmps10
  go_wp2_with fail
  refine (HM.out _).mono ?_
  rintro e w1 ⟨rfl, bz⟩
  replace K0 := Lib.hid (K0.out.later bz)
  replace HB := Lib.hid (below2Z HB.out bz)
  clear bz
  obtain ⟨K0_0, K0_1, K0_2, K0_3⟩ := cells4P K0.out
  go_wp2_with fail
  refine (HNW.out _).mono ?_
  rintro e w2 ⟨rfl, bz⟩
  clear K0_0 K0_1 K0_2 K0_3
  replace K0 := Lib.hid (K0.out.later bz)
  replace HB := Lib.hid (below2Z HB.out bz)
  clear bz
  have bb := bl_newZ w2 (.cells #[.int .i64 b, .int .i64 0] 54)
  have X5 := Lib.hid (heap_new w2 (.cells #[.int .i64 b, .int .i64 0] 54) rfl)
  have hbk : w.heap.size < w2.heap.size := World.block_lt_of_cell? w2 _ (K0.out 0 _ rfl)
  have HBK := Lib.hid hbk
  replace K0 := Lib.hid (K0.out.later bb)
  replace HB := Lib.hid (below2Z HB.out bb)
  go_wp2_with fail
  generalize hW : w2.alloc (.cells #[.int .i64 b, .int .i64 0] 54) = W at HB K0 X5 bb ⊢
  have hsz : w2.heap.size + 1 = W.heap.size := by rw [← hW]; simp
  generalize hB : w2.heap.size = B at X5 HBK hsz ⊢
  have HSZ := Lib.hid hsz
  clear hW hB bb hbk hsz
  go_loopw [7, 8, 9] (fun n s i wr => ∃ (k : Nat) (x m : Int) (l : List Int) (sv : Value), k ≤ len ∧ i = .int .i64 k ∧ n = .int .i64 m ∧ sv = s ∧ Hid (wr.heap[B]? = some (.cells #[.int .i64 x, .int .i64 m] 54 (0, 0))) ∧ Hid (OwnS intVals 1 3 wr W.heap.size s l) ∧ Hid (Below B W wr) ∧ Hid (RateIn a b d e x m l k)) (fun _ _ i _ => len - (intOf i).toNat)
  case atStart => exact ⟨0, b, 0, [], _, by omega, rfl, rfl, rfl, X5, ownS_nil _ _, Below.refl _ _, HI⟩
  case round =>
    obtain ⟨k, x, m, l, sv, hk, rfl, rfl, rfl, HX, HL, HBW, HR⟩ := hrel
    have hBle : B ≤ W.heap.size := by have := HSZ.out; omega
    have HBR := Lib.hid (HB.out.trans (HBW.out.mono (by have := HBK.out; omega)))
    have hcf : CellsAt wr w.heap.size 0 [.int .i64 a, .int .i64 b, .int .i64 d, .int .i64 e] := fun j u hu => (HBW.out.cell (p := ⟨w.heap.size, 0 + j, none⟩) HBK.out).trans (K0.out j u hu)
    have KC := Lib.hid hcf
    clear hcf X5
    by_cases hlt : k < len
    · obtain ⟨rb, off, rfl, hrb, hc⟩ := HROW.out k hlt
      obtain ⟨z, hz⟩ : ∃ z, ns.getD k 0 = z := ⟨_, rfl⟩
      rw [hz] at hc
      have c := (HBR.out.cell (p := ⟨rb, off + k, none⟩) hrb).trans hc
      have t0' : decide ((k : Int) < (len : Int)) = true := by simp; omega
      have n0 : (0 : Int) ≤ (k : Int) := by omega
      have n1 : (k : Int) < (len : Int) := by omega
      clear hc hz
      by_cases hz0 : z < 0
      · have t1 : decide (z < 0) = true := by simpa using hz0
        go_wp2_with fail
        refine (live16 _).mono ?_
        rintro e w5 ⟨rfl, b5⟩
        have HE := Lib.hid (below2Z HBR.out b5)
        clear b5
        go_wp2_with fail
        go_ret
        exact ⟨rfl, HE.out⟩
      · have t1 : decide (z < 0) = false := by simpa using hz0
        by_cases hz1 : 1048576 < z
        · have t2 : decide (1048576 < z) = true := by simpa using hz1
          go_wp2_with fail
          refine (live16 _).mono ?_
          rintro e w5 ⟨rfl, b5⟩
          have HE := Lib.hid (below2Z HBR.out b5)
          clear b5
          go_wp2_with fail
          go_ret
          exact ⟨rfl, HE.out⟩
        · have t2 : decide (1048576 < z) = false := by simpa using hz1
          have HL5 := HLEN.out
          obtain ⟨r1, r2, r3, r4, r5, r6⟩ := HR.out
          have hk2 : (k : Int) * 1048576 ≤ 60 * 1048576 := by omega
          have hw : IntKind.i64.wrap (m + z) = m + z := IntWalk.i64_in _ (by omega)
          have hw1 : IntKind.i64.wrap (m + z + 1) = m + z + 1 := IntWalk.i64_in _ (by omega)
          have hn : pcTime (m + z) = true := pcTime_iff.2 (by omega)
          obtain ⟨⟨⟨x', px⟩, dx⟩, hx⟩ : ∃ r, pcTake ⟨a, b, d, e⟩ ⟨x, m⟩ (m + z) = r := ⟨_, rfl⟩
          obtain ⟨p1, p2, -⟩ := pace_may r1 hn hn hx
          simp only at p2
          rw [show max (m + z) m = m + z by omega] at p2
          subst p2
          have TA := Lib.hid (ptake_any a b d e x m (m + z) (Lib.hid hx))
          obtain ⟨cf0, cf1, cf2, cf3⟩ := cells4P KC.out
          obtain ⟨u0, u1, -, -⟩ := bk_cells HX.out
          cases dx with
          | false =>
            obtain ⟨q1, q2⟩ := rate_no r2 r1 hn (by show m ≤ m + z; omega) hx
            obtain ⟨⟨⟨x2, y2⟩, d2⟩, hx2⟩ : ∃ r, pcTake ⟨a, b, d, e⟩ ⟨x', m + z⟩ (m + z + 1) = r := ⟨_, rfl⟩
            replace q2 := q2 (by omega)
            rw [hx2] at q2
            simp only at q2
            subst q2
            have TB := Lib.hid (ptake_any a b d e x' (m + z) (m + z + 1) (Lib.hid hx2))
            have HR2 : Hid (RateIn a b d e x' (m + z) l (k + 1)) := ⟨p1, q1, by omega, by omega, by omega, fun v hv => by have := r6 v hv; omega⟩
            clear hx hx2 q1 r1 r2 r3 r4 r5 r6 p1 hn hz0 hz1
            go_wp2_with fail
            refine (TA.out _).mono ?_
            rintro e w6 ⟨rfl, b6⟩
            have b5 := below2Z b6 (bl_newZ w6 (.cells #[.int .i64 x', .int .i64 (m + z)] 54))
            have X10 := Lib.hid (heap_new w6 (.cells #[.int .i64 x', .int .i64 (m + z)] 54) rfl)
            have HLA := Lib.hid (HL.out.later b6)
            have n6 := b6.size
            have nB := heap_lt HX.out
            replace HX := Lib.hid (heap_later HX.out b5)
            replace HL := Lib.hid (HL.out.later b5)
            replace HBW := Lib.hid (HBW.out.trans (b5.mono (Nat.le_of_lt nB)))
            replace HBR := Lib.hid (below2Z HBR.out b5)
            replace KC := Lib.hid (KC.out.later b5)
            clear b5 b6 cf0 cf1 cf2 cf3 u0 u1 c
            obtain ⟨cf0, cf1, cf2, cf3⟩ := cells4P KC.out
            obtain ⟨u0, u1, -, -⟩ := bk_cells X10.out
            go_wp2_with fail
            generalize hW7 : w6.alloc (.cells #[.int .i64 x', .int .i64 (m + z)] 54) = w7 at HX HL HBW HBR KC X10 cf0 cf1 cf2 cf3 u0 u1 ⊢
            clear hW7
            refine (TB.out _).mono ?_
            rintro e w8 ⟨rfl, b6⟩
            have b5 := below2Z b6 (bl_newZ w8 (.cells #[.int .i64 x2, .int .i64 y2] 54))
            have nB2 := heap_lt HX.out
            replace HX := Lib.hid (heap_later HX.out b5)
            replace X10 := Lib.hid (heap_later X10.out b5)
            replace HL := Lib.hid (HL.out.later b5)
            replace HBW := Lib.hid (HBW.out.trans (b5.mono (Nat.le_of_lt nB2)))
            replace HBR := Lib.hid (below2Z HBR.out b5)
            clear b5 b6 cf0 cf1 cf2 cf3 u0 u1
            obtain ⟨_, _, f0, f1⟩ := bk_cells HX.out
            obtain ⟨p0, p1, _, _⟩ := bk_cells X10.out
            have Z5 := Lib.hid (bk_set HX.out x' (m + z))
            have ZL : Hid (OwnS intVals 1 3 (((w8.alloc (.cells #[.int .i64 x2, .int .i64 y2] 54)).setCell ⟨B, 0, none⟩ (.int .i64 x')).setCell ⟨B, 1, none⟩ (.int .i64 (m + z))) W.heap.size sv l) := Lib.hid (ownsRow_setCell_below (a := ⟨B, 1, none⟩) (ownsRow_setCell_below (a := ⟨B, 0, none⟩) HL.out (show B < W.heap.size by have := HSZ.out; omega) _) (show B < W.heap.size by have := HSZ.out; omega) _)
            have ZB : Hid (Below B W (((w8.alloc (.cells #[.int .i64 x2, .int .i64 y2] 54)).setCell ⟨B, 0, none⟩ (.int .i64 x')).setCell ⟨B, 1, none⟩ (.int .i64 (m + z)))) := Lib.hid ((HBW.out.setCell (Nat.le_refl _) _).setCell (Nat.le_refl _) _)
            go_wp2_with fail
            go_roundw
            case rel => exact ⟨k + 1, x', m + z, l, _, by omega, by go_num, rfl, rfl, Z5, ZL, ZB, HR2⟩
            case measure => simp [intOf]; omega
          | true =>
            have q1 := rate_yes r2 r1 hn (by show m ≤ m + z; omega) hx
            have HR2 : Hid (RateIn a b d e x' (m + z) (l ++ [m + z]) (k + 1)) := ⟨p1, q1, by omega, by omega, by simp; omega, fun v hv => (List.mem_append.1 hv).elim (fun hv => by have := r6 v hv; omega) (fun hv => by simp at hv; omega)⟩
            have hll : Hid (l.length + 1 < 4294967296) := by show _ < _; omega
            clear hx q1 r1 r2 r3 r4 r5 r6 p1 hn hz0 hz1
            go_wp2_with fail
            refine (TA.out _).mono ?_
            rintro e w6 ⟨rfl, b6⟩
            have b5 := below2Z b6 (bl_newZ w6 (.cells #[.int .i64 x', .int .i64 (m + z)] 54))
            have X10 := Lib.hid (heap_new w6 (.cells #[.int .i64 x', .int .i64 (m + z)] 54) rfl)
            have HLA := Lib.hid (HL.out.later b6)
            have n6 := b6.size
            have nB := heap_lt HX.out
            replace HX := Lib.hid (heap_later HX.out b5)
            replace HL := Lib.hid (HL.out.later b5)
            replace HBW := Lib.hid (HBW.out.trans (b5.mono (Nat.le_of_lt nB)))
            replace HBR := Lib.hid (below2Z HBR.out b5)
            replace KC := Lib.hid (KC.out.later b5)
            clear b5 b6 cf0 cf1 cf2 cf3 u0 u1 c
            have n7 : w6.heap.size < (w6.alloc (.cells #[.int .i64 x', .int .i64 (m + z)] 54)).heap.size := by simp
            have bs := bl_newZ (w6.alloc (.cells #[.int .i64 x', .int .i64 (m + z)] 54)) (.cells #[.int .i64 (m + z)] 3)
            have HL2 := Lib.hid (HL.out.later bs)
            have X102 := Lib.hid (heap_later X10.out bs)
            have HX2 := Lib.hid (heap_later HX.out bs)
            have HS := Lib.hid (srcI_new (w6.alloc (.cells #[.int .i64 x', .int .i64 (m + z)] 54)) (m + z) (B := w6.heap.size + 1) (by simp))
            have HBW2 := Lib.hid (HBW.out.trans (bs.mono (Nat.le_of_lt (heap_lt HX.out))))
            have HBR2 := Lib.hid (below2Z HBR.out bs)
            have hbase : Hid (W.heap.size ≤ ((w6.alloc (.cells #[.int .i64 x', .int .i64 (m + z)] 54)).alloc (.cells #[.int .i64 (m + z)] 3)).heap.size) := HBW2.out.size
            clear bs
            go_wp2_with (at_builtin; go_must (refine wpList_append_I rfl _ _ rfl W.heap.size _ l rfl (by exact HL2.out) _ 1 (m + z) rfl ?c1 (by exact hll.out) (by exact hbase.out) ?_))
            case c1 => exact HS.out
            intro v' w' ho' hb' hs' hk'
            have nx : sv.ownBlock ≠ some w6.heap.size := fun e => by have := (ownI_lt HLA.out e).2; omega
            have nb : sv.ownBlock ≠ some B := fun e => by have := (ownI_lt HLA.out e).1; have := HSZ.out; omega
            replace X10 := Lib.hid ((hk' _ (by first | omega | (simp; done) | (simp; omega)) nx).trans X102.out)
            replace HX := Lib.hid ((hk' _ (by first | omega | (simp; omega)) nb).trans HX2.out)
            replace HBW := Lib.hid (HBW2.out.trans (hb'.mono (by have := HSZ.out; omega)))
            replace HL := Lib.hid ho'
            clear ho' hb' hs' hk' nx nb HL2 X102 HX2 HS HBW2 HBR2 hbase HLA HBR KC
            obtain ⟨_, _, f0, f1⟩ := bk_cells HX.out
            obtain ⟨p0, p1, _, _⟩ := bk_cells X10.out
            have Z5 := Lib.hid (bk_set HX.out x' (m + z))
            have ZL : Hid (OwnS intVals 1 3 ((w'.setCell ⟨B, 0, none⟩ (.int .i64 x')).setCell ⟨B, 1, none⟩ (.int .i64 (m + z))) W.heap.size v' (l ++ [m + z])) := Lib.hid (ownsRow_setCell_below (a := ⟨B, 1, none⟩) (ownsRow_setCell_below (a := ⟨B, 0, none⟩) HL.out (show B < W.heap.size by have := HSZ.out; omega) _) (show B < W.heap.size by have := HSZ.out; omega) _)
            have ZB : Hid (Below B W ((w'.setCell ⟨B, 0, none⟩ (.int .i64 x')).setCell ⟨B, 1, none⟩ (.int .i64 (m + z)))) := Lib.hid ((HBW.out.setCell (Nat.le_refl _) _).setCell (Nat.le_refl _) _)
            go_wp2_with fail
            go_roundw
            case rel => exact ⟨k + 1, x', m + z, (l ++ [m + z]), _, by omega, by go_num, rfl, rfl, Z5, ZL, ZB, HR2⟩
            case measure => simp [intOf]; omega
    · obtain rfl : k = len := by omega
      have t0' : decide ((k : Int) < (k : Int)) = false := by simp
      obtain ⟨r1, r2, r3, r4, r5, r6⟩ := HR.out
      have HL5 := HLEN.out
      obtain ⟨ao, cp, rfl, hrd⟩ := ownI_read HL.out
      have hk2 : (k : Int) * 1048576 ≤ 60 * 1048576 := by omega
      have hll : l.length ≤ 60 := by omega
      have HALL : Hid (∀ i j, i ≤ j → j < l.length → 0 ≤ l.getD i 0 ∧ l.getD i 0 ≤ 62914560 ∧ 0 ≤ l.getD j 0 ∧ l.getD j 0 ≤ 62914560 ∧ (j : Int) - i + 1 ≤ b + d * (l.getD j 0 - l.getD i 0)) := fun i j hij hj => by
        have gi : l.getD i 0 = l[i]'(by omega) := by rw [List.getD_eq_getElem?_getD, List.getElem?_eq_getElem (by omega)]; rfl
        have gj : l.getD j 0 = l[j] := by rw [List.getD_eq_getElem?_getD, List.getElem?_eq_getElem hj]; rfl
        have a1 := r6 _ (List.getElem_mem (show i < l.length by omega))
        have a2 := r6 _ (List.getElem_mem hj)
        have a3 := r2.all i j hj hij
        simp only at a3
        rw [gi, gj]
        refine ⟨a1.1, by omega, a2.1, by omega, by omega⟩
      have HRD := Lib.hid hrd
      clear hrd HR r1 r2 r3 r4 r5 r6 HX HL HBW hk2
      go_wp2_with fail
      skip
      obtain ⟨wo, hwo⟩ : ∃ wo : World, wo = wr := ⟨_, rfl⟩
      rw [← hwo] at HRD KC HBR
      go_loopw [14] (fun i wq => ∃ j : Nat, j ≤ l.length ∧ i = .int .i64 j ∧ Hid (Below wo.heap.size wo wq)) (fun i _ => l.length - (intOf i).toNat)
      case atStart => exact ⟨0, by omega, rfl, by rw [hwo]; exact Below.refl _ _⟩
      case round =>
        obtain ⟨j, hj, rfl, HQ⟩ := hrel
        clear hwo
        by_cases hjl : j < l.length
        · have t5 : decide ((j : Int) < (l.length : Int)) = true := by simp; omega
          go_wp2_with fail
          go_loopw [15] (fun i wq => ∃ p : Nat, j ≤ p ∧ p ≤ l.length ∧ i = .int .i64 p ∧ Hid (Below wo.heap.size wo wq)) (fun i _ => l.length - (intOf i).toNat)
          case atStart => exact ⟨j, by omega, by omega, rfl, HQ⟩
          case round =>
            obtain ⟨p, hjp, hp, rfl, HQ⟩ := hrel
            by_cases hpl : p < l.length
            · have t6 : decide ((p : Int) < (l.length : Int)) = true := by simp; omega
              obtain ⟨g, rfl, hg, hcj⟩ := HRD.out j hjl
              obtain ⟨g2, eg, hg2, hcp⟩ := HRD.out p hpl
              injection eg with eg
              injection eg with eg
              subst eg
              obtain ⟨a1, a2, a3, a4, a5⟩ := HALL.out j p hjp hpl
              obtain ⟨c1, c2, c3, c4⟩ := HCF.out
              obtain ⟨vj, hvj⟩ : ∃ v, l.getD j 0 = v := ⟨_, rfl⟩
              obtain ⟨vp, hvp⟩ : ∃ v, l.getD p 0 = v := ⟨_, rfl⟩
              rw [hvj] at a1 a2 a5 hcj
              rw [hvp] at a3 a4 a5 hcp
              have b1 := (HQ.out.cell (p := ⟨g, 0 + j, none⟩) hg).trans hcj
              have b2 := (HQ.out.cell (p := ⟨g, 0 + p, none⟩) hg).trans hcp
              have e0 : (0 : Int) ≤ (j : Int) := by omega
              have e1 : (j : Int) < (l.length : Int) := by omega
              have e2 : (0 : Int) ≤ (p : Int) := by omega
              have e3 : (p : Int) < (l.length : Int) := by omega
              have hm1 : -(16 * 62914560) ≤ d * (vp - vj) ∧ d * (vp - vj) ≤ 16 * 62914560 := by
                have h1 := Int.mul_le_mul_of_nonneg_left (show vp - vj ≤ 62914560 by omega) (show 0 ≤ d by omega)
                have h2 := Int.mul_le_mul_of_nonneg_left (show -62914560 ≤ vp - vj by omega) (show 0 ≤ d by omega)
                omega
              have w1' : IntKind.i64.wrap ((p : Int) - (j : Int)) = (p : Int) - (j : Int) := IntWalk.i64_in _ (by omega)
              have w2' : IntKind.i64.wrap ((p : Int) - (j : Int) + 1) = (p : Int) - (j : Int) + 1 := IntWalk.i64_in _ (by omega)
              have w3' : IntKind.i64.wrap (vp - vj) = vp - vj := IntWalk.i64_in _ (by omega)
              have w4' : IntKind.i64.wrap (d * (vp - vj)) = d * (vp - vj) := IntWalk.i64_in _ (by omega)
              have w5' : IntKind.i64.wrap (b + d * (vp - vj)) = b + d * (vp - vj) := IntWalk.i64_in _ (by omega)
              have t7 : decide (b + d * (vp - vj) < (p : Int) - (j : Int) + 1) = false := by simp; omega
              obtain ⟨cf0, cf1, cf2, cf3⟩ := cells4P (KC.out.later HQ.out)
              simp only [Nat.zero_add] at b1 b2
              have d1 := cf1
              have d2 := cf2
              have HQ2 := Lib.hid HQ.out.drew
              clear hcj hcp hvj hvp a1 a2 a3 a4 a5 c1 c2 c3 c4 cf0 cf1 cf2 cf3 hm1
              go_wp2_with fail
              go_region
              all_goals (try go_wp2_with fail)
              all_goals go_roundw
              case rel => exact ⟨p + 1, by omega, by omega, by go_num, HQ2⟩
              case measure => simp [intOf]; omega
            · have t6 : decide ((p : Int) < (l.length : Int)) = false := by simp; omega
              go_wp2_with fail
              go_roundw
              case rel => exact ⟨j + 1, by omega, by go_num, HQ⟩
              case measure => simp [intOf]; omega
        · have t5 : decide ((j : Int) < (l.length : Int)) = false := by simp; omega
          have HBQ := Lib.hid (below2Z HBR.out HQ.out)
          go_wp2_with fail
          refine (live16 _).mono ?_
          rintro e w5 ⟨rfl, b5⟩
          have HE := Lib.hid (below2Z HBQ.out b5)
          clear b5
          go_wp2_with fail
          go_ret
          exact ⟨rfl, HE.out⟩

theorem walkPaceRate {w : World} (c : Cfg) (_hc : CfgFit c) (a0 : Option Addr) (len cap : Nat) (ns : List Int) (h : IsRow .i64 w a0 len cap ns) :
    Calls Try.prog 10 #[.agg #[.int .i64 c.room, .int .i64 c.burst, .int .i64 c.rate, .int .i64 c.per], .slice a0 len cap] w fun e w' => e = .returned (.bool true) ∧ Below w.heap.size w w' := by
  obtain ⟨a, b, d, e⟩ := c
  have hlen := (row_read h).1
  by_cases h1 : 60 < len
  · exact prateA a b d e a0 len cap hlen h1
  · cases hm : pcMay ⟨a, b, d, e⟩ with
    | false => exact prateB a b d e a0 len cap hlen (by omega) hm
    | true => exact prateM a b d e a0 len cap ns h (by omega) hm

end Go.Proofs.Ytnmdjkecjlpkkaa
