/-
  THE WALK OF PaceMore.
-/
import Derived.Test.YtnmdjkecjlpkkaaPacStep
namespace Go.Proofs.Ytnmdjkecjlpkkaa
open Go.RowKit

set_option maxHeartbeats 3200000 in
set_option maxRecDepth 100000 in
theorem pmoreA {w : World} (a b d e t0 t1 : Int) (a0 : Option Addr) (len cap : Nat) (hlen : len ≤ maxLen) (h1 : 40 < len) :
    Calls Try.prog 13 #[.agg #[.int .i64 a, .int .i64 b, .int .i64 d, .int .i64 e], .agg #[.int .i64 t0, .int .i64 t1], .slice a0 len cap] w fun e w' => e = .returned (.bool true) ∧ Below w.heap.size w w' := by
  have bn := bl_newZ (w.alloc (.cells #[.int .i64 a, .int .i64 b, .int .i64 d, .int .i64 e] 52)) (.cells #[.int .i64 t0, .int .i64 t1] 64)
  have HB := Lib.hid (below2Z (bl_newZ w (.cells #[.int .i64 a, .int .i64 b, .int .i64 d, .int .i64 e] 52)) bn)
  have K0 := Lib.hid ((cellsAt_made (w := w) (cs := #[.int .i64 a, .int .i64 b, .int .i64 d, .int .i64 e]) (vs := [.int .i64 a, .int .i64 b, .int .i64 d, .int .i64 e]) (by rfl) 52 rfl).later bn)
  have KN := Lib.hid (cellsAt_made (w := w.alloc (.cells #[.int .i64 a, .int .i64 b, .int .i64 d, .int .i64 e] 52)) (cs := #[.int .i64 t0, .int .i64 t1]) (vs := [.int .i64 t0, .int .i64 t1]) (B := w.heap.size + 1) (by rfl) 64 (by simp))
  clear bn
  unfold maxLen at hlen
  have g1 : decide (40 < (len : Int)) = true := by simp; omega
  clear h1
  go_enter Try.func13, Try.ntmps13
  go_wp2_with fail
  refine (live16 _).mono ?_
  rintro e w1 ⟨rfl, bz⟩
  replace K0 := Lib.hid (K0.out.later bz)
  replace KN := Lib.hid (KN.out.later bz)
  replace HB := Lib.hid (below2Z HB.out bz)
  clear bz
  go_wp2_with fail
  go_ret
  exact ⟨rfl, HB.out⟩

set_option maxHeartbeats 3200000 in
set_option maxRecDepth 100000 in
theorem pmoreB {w : World} (a b d e t0 t1 : Int) (a0 : Option Addr) (len cap : Nat) (hlen : len ≤ maxLen) (h1 : len ≤ 40) (hm : pcMay ⟨a, b, d, e⟩ = false) :
    Calls Try.prog 13 #[.agg #[.int .i64 a, .int .i64 b, .int .i64 d, .int .i64 e], .agg #[.int .i64 t0, .int .i64 t1], .slice a0 len cap] w fun e w' => e = .returned (.bool true) ∧ Below w.heap.size w w' := by
  have bn := bl_newZ (w.alloc (.cells #[.int .i64 a, .int .i64 b, .int .i64 d, .int .i64 e] 52)) (.cells #[.int .i64 t0, .int .i64 t1] 64)
  have HB := Lib.hid (below2Z (bl_newZ w (.cells #[.int .i64 a, .int .i64 b, .int .i64 d, .int .i64 e] 52)) bn)
  have K0 := Lib.hid ((cellsAt_made (w := w) (cs := #[.int .i64 a, .int .i64 b, .int .i64 d, .int .i64 e]) (vs := [.int .i64 a, .int .i64 b, .int .i64 d, .int .i64 e]) (by rfl) 52 rfl).later bn)
  have KN := Lib.hid (cellsAt_made (w := w.alloc (.cells #[.int .i64 a, .int .i64 b, .int .i64 d, .int .i64 e] 52)) (cs := #[.int .i64 t0, .int .i64 t1]) (vs := [.int .i64 t0, .int .i64 t1]) (B := w.heap.size + 1) (by rfl) 64 (by simp))
  clear bn
  unfold maxLen at hlen
  have g1 : decide (40 < (len : Int)) = false := by simp; omega
  have HM := Lib.hid (rpmay_any a b d e (Lib.hid hm))
  clear h1 hm
  go_enter Try.func13, Try.ntmps13
  go_wp2_with fail
  refine (HM.out _).mono ?_
  rintro e w1 ⟨rfl, bz⟩
  replace K0 := Lib.hid (K0.out.later bz)
  replace KN := Lib.hid (KN.out.later bz)
  replace HB := Lib.hid (below2Z HB.out bz)
  clear bz
  obtain ⟨K0_0, K0_1, K0_2, K0_3⟩ := cells4P K0.out
  obtain ⟨KN_0, KN_1⟩ := cells2P KN.out
  go_wp2_with fail
  refine (live16 _).mono ?_
  rintro e w2 ⟨rfl, bz⟩
  clear K0_0 K0_1 K0_2 K0_3 KN_0 KN_1
  replace K0 := Lib.hid (K0.out.later bz)
  replace KN := Lib.hid (KN.out.later bz)
  replace HB := Lib.hid (below2Z HB.out bz)
  clear bz
  go_wp2_with fail
  go_ret
  exact ⟨rfl, HB.out⟩

set_option maxHeartbeats 3200000 in
set_option maxRecDepth 100000 in
theorem pmoreC {w : World} (a b d e t0 t1 : Int) (a0 : Option Addr) (len cap : Nat) (hlen : len ≤ maxLen) (h1 : len ≤ 40) (hm : pcMay ⟨a, b, d, e⟩ = true) (h2 : t0 < 0) :
    Calls Try.prog 13 #[.agg #[.int .i64 a, .int .i64 b, .int .i64 d, .int .i64 e], .agg #[.int .i64 t0, .int .i64 t1], .slice a0 len cap] w fun e w' => e = .returned (.bool true) ∧ Below w.heap.size w w' := by
  have bn := bl_newZ (w.alloc (.cells #[.int .i64 a, .int .i64 b, .int .i64 d, .int .i64 e] 52)) (.cells #[.int .i64 t0, .int .i64 t1] 64)
  have HB := Lib.hid (below2Z (bl_newZ w (.cells #[.int .i64 a, .int .i64 b, .int .i64 d, .int .i64 e] 52)) bn)
  have K0 := Lib.hid ((cellsAt_made (w := w) (cs := #[.int .i64 a, .int .i64 b, .int .i64 d, .int .i64 e]) (vs := [.int .i64 a, .int .i64 b, .int .i64 d, .int .i64 e]) (by rfl) 52 rfl).later bn)
  have KN := Lib.hid (cellsAt_made (w := w.alloc (.cells #[.int .i64 a, .int .i64 b, .int .i64 d, .int .i64 e] 52)) (cs := #[.int .i64 t0, .int .i64 t1]) (vs := [.int .i64 t0, .int .i64 t1]) (B := w.heap.size + 1) (by rfl) 64 (by simp))
  clear bn
  unfold maxLen at hlen
  have g1 : decide (40 < (len : Int)) = false := by simp; omega
  have HM := Lib.hid (rpmay_any a b d e (Lib.hid hm))
  have g2 : decide (t0 < 0) = true := by simp; omega
  clear h1 hm h2
  go_enter Try.func13, Try.ntmps13
  go_wp2_with fail
  refine (HM.out _).mono ?_
  rintro e w1 ⟨rfl, bz⟩
  replace K0 := Lib.hid (K0.out.later bz)
  replace KN := Lib.hid (KN.out.later bz)
  replace HB := Lib.hid (below2Z HB.out bz)
  clear bz
  obtain ⟨K0_0, K0_1, K0_2, K0_3⟩ := cells4P K0.out
  obtain ⟨KN_0, KN_1⟩ := cells2P KN.out
  go_wp2_with fail
  refine (live16 _).mono ?_
  rintro e w2 ⟨rfl, bz⟩
  clear K0_0 K0_1 K0_2 K0_3 KN_0 KN_1
  replace K0 := Lib.hid (K0.out.later bz)
  replace KN := Lib.hid (KN.out.later bz)
  replace HB := Lib.hid (below2Z HB.out bz)
  clear bz
  go_wp2_with fail
  go_ret
  exact ⟨rfl, HB.out⟩

set_option maxHeartbeats 3200000 in
set_option maxRecDepth 100000 in
theorem pmoreD {w : World} (a b d e t0 t1 : Int) (a0 : Option Addr) (len cap : Nat) (hlen : len ≤ maxLen) (h1 : len ≤ 40) (hm : pcMay ⟨a, b, d, e⟩ = true) (h2 : 0 ≤ t0) (h3 : t1 < t0) :
    Calls Try.prog 13 #[.agg #[.int .i64 a, .int .i64 b, .int .i64 d, .int .i64 e], .agg #[.int .i64 t0, .int .i64 t1], .slice a0 len cap] w fun e w' => e = .returned (.bool true) ∧ Below w.heap.size w w' := by
  have bn := bl_newZ (w.alloc (.cells #[.int .i64 a, .int .i64 b, .int .i64 d, .int .i64 e] 52)) (.cells #[.int .i64 t0, .int .i64 t1] 64)
  have HB := Lib.hid (below2Z (bl_newZ w (.cells #[.int .i64 a, .int .i64 b, .int .i64 d, .int .i64 e] 52)) bn)
  have K0 := Lib.hid ((cellsAt_made (w := w) (cs := #[.int .i64 a, .int .i64 b, .int .i64 d, .int .i64 e]) (vs := [.int .i64 a, .int .i64 b, .int .i64 d, .int .i64 e]) (by rfl) 52 rfl).later bn)
  have KN := Lib.hid (cellsAt_made (w := w.alloc (.cells #[.int .i64 a, .int .i64 b, .int .i64 d, .int .i64 e] 52)) (cs := #[.int .i64 t0, .int .i64 t1]) (vs := [.int .i64 t0, .int .i64 t1]) (B := w.heap.size + 1) (by rfl) 64 (by simp))
  clear bn
  unfold maxLen at hlen
  have g1 : decide (40 < (len : Int)) = false := by simp; omega
  have HM := Lib.hid (rpmay_any a b d e (Lib.hid hm))
  have g2 : decide (t0 < 0) = false := by simp; omega
  have g3 : decide (t1 < t0) = true := by simp; omega
  clear h1 hm h2 h3
  go_enter Try.func13, Try.ntmps13
  go_wp2_with fail
  refine (HM.out _).mono ?_
  rintro e w1 ⟨rfl, bz⟩
  replace K0 := Lib.hid (K0.out.later bz)
  replace KN := Lib.hid (KN.out.later bz)
  replace HB := Lib.hid (below2Z HB.out bz)
  clear bz
  obtain ⟨K0_0, K0_1, K0_2, K0_3⟩ := cells4P K0.out
  obtain ⟨KN_0, KN_1⟩ := cells2P KN.out
  go_wp2_with fail
  refine (live16 _).mono ?_
  rintro e w2 ⟨rfl, bz⟩
  clear K0_0 K0_1 K0_2 K0_3 KN_0 KN_1
  replace K0 := Lib.hid (K0.out.later bz)
  replace KN := Lib.hid (KN.out.later bz)
  replace HB := Lib.hid (below2Z HB.out bz)
  clear bz
  go_wp2_with fail
  go_ret
  exact ⟨rfl, HB.out⟩

set_option maxHeartbeats 3200000 in
set_option maxRecDepth 100000 in
theorem pmoreE {w : World} (a b d e t0 t1 : Int) (a0 : Option Addr) (len cap : Nat) (hlen : len ≤ maxLen) (h1 : len ≤ 40) (hm : pcMay ⟨a, b, d, e⟩ = true) (h2 : 0 ≤ t0) (h3 : t0 ≤ t1) (h4 : b < t1) :
    Calls Try.prog 13 #[.agg #[.int .i64 a, .int .i64 b, .int .i64 d, .int .i64 e], .agg #[.int .i64 t0, .int .i64 t1], .slice a0 len cap] w fun e w' => e = .returned (.bool true) ∧ Below w.heap.size w w' := by
  have bn := bl_newZ (w.alloc (.cells #[.int .i64 a, .int .i64 b, .int .i64 d, .int .i64 e] 52)) (.cells #[.int .i64 t0, .int .i64 t1] 64)
  have HB := Lib.hid (below2Z (bl_newZ w (.cells #[.int .i64 a, .int .i64 b, .int .i64 d, .int .i64 e] 52)) bn)
  have K0 := Lib.hid ((cellsAt_made (w := w) (cs := #[.int .i64 a, .int .i64 b, .int .i64 d, .int .i64 e]) (vs := [.int .i64 a, .int .i64 b, .int .i64 d, .int .i64 e]) (by rfl) 52 rfl).later bn)
  have KN := Lib.hid (cellsAt_made (w := w.alloc (.cells #[.int .i64 a, .int .i64 b, .int .i64 d, .int .i64 e] 52)) (cs := #[.int .i64 t0, .int .i64 t1]) (vs := [.int .i64 t0, .int .i64 t1]) (B := w.heap.size + 1) (by rfl) 64 (by simp))
  clear bn
  unfold maxLen at hlen
  have g1 : decide (40 < (len : Int)) = false := by simp; omega
  have HM := Lib.hid (rpmay_any a b d e (Lib.hid hm))
  have g2 : decide (t0 < 0) = false := by simp; omega
  have g3 : decide (t1 < t0) = false := by simp; omega
  have g4 : decide (b < t1) = true := by simp; omega
  clear h1 hm h2 h3 h4
  go_enter Try.func13, Try.ntmps13
  go_wp2_with fail
  refine (HM.out _).mono ?_
  rintro e w1 ⟨rfl, bz⟩
  replace K0 := Lib.hid (K0.out.later bz)
  replace KN := Lib.hid (KN.out.later bz)
  replace HB := Lib.hid (below2Z HB.out bz)
  clear bz
  obtain ⟨K0_0, K0_1, K0_2, K0_3⟩ := cells4P K0.out
  obtain ⟨KN_0, KN_1⟩ := cells2P KN.out
  go_wp2_with fail
  refine (live16 _).mono ?_
  rintro e w2 ⟨rfl, bz⟩
  clear K0_0 K0_1 K0_2 K0_3 KN_0 KN_1
  replace K0 := Lib.hid (K0.out.later bz)
  replace KN := Lib.hid (KN.out.later bz)
  replace HB := Lib.hid (below2Z HB.out bz)
  clear bz
  go_wp2_with fail
  go_ret
  exact ⟨rfl, HB.out⟩

set_option maxHeartbeats 3200000 in
set_option maxRecDepth 100000 in
theorem pmoreM {w : World} (a b d e t0 t1 : Int) (a0 : Option Addr) (len cap : Nat) (ns : List Int) (h : IsRow .i64 w a0 len cap ns) (h1 : len ≤ 40) (hm : pcMay ⟨a, b, d, e⟩ = true) (h2 : 0 ≤ t0) (h3 : t0 ≤ t1) (h4 : t1 ≤ b) :
    Calls Try.prog 13 #[.agg #[.int .i64 a, .int .i64 b, .int .i64 d, .int .i64 e], .agg #[.int .i64 t0, .int .i64 t1], .slice a0 len cap] w fun e w' => e = .returned (.bool true) ∧ Below w.heap.size w w' := by
  have bn := bl_newZ (w.alloc (.cells #[.int .i64 a, .int .i64 b, .int .i64 d, .int .i64 e] 52)) (.cells #[.int .i64 t0, .int .i64 t1] 64)
  have HB := Lib.hid (below2Z (bl_newZ w (.cells #[.int .i64 a, .int .i64 b, .int .i64 d, .int .i64 e] 52)) bn)
  have K0 := Lib.hid ((cellsAt_made (w := w) (cs := #[.int .i64 a, .int .i64 b, .int .i64 d, .int .i64 e]) (vs := [.int .i64 a, .int .i64 b, .int .i64 d, .int .i64 e]) (by rfl) 52 rfl).later bn)
  have KN := Lib.hid (cellsAt_made (w := w.alloc (.cells #[.int .i64 a, .int .i64 b, .int .i64 d, .int .i64 e] 52)) (cs := #[.int .i64 t0, .int .i64 t1]) (vs := [.int .i64 t0, .int .i64 t1]) (B := w.heap.size + 1) (by rfl) 64 (by simp))
  clear bn
  obtain ⟨hlen, hrow⟩ := row_read h
  have HROW := Lib.hid hrow
  clear h hrow
  unfold maxLen at hlen
  have g1 : decide (40 < (len : Int)) = false := by simp; omega
  have HM := Lib.hid (rpmay_any a b d e (Lib.hid hm))
  have g2 : decide (t0 < 0) = false := by simp; omega
  have g3 : decide (t1 < t0) = false := by simp; omega
  have g4 : decide (b < t1) = false := by simp; omega
  have HO : Hid (pcOne ⟨a, b, d, e⟩ ⟨t0, 0⟩ = true ∧ pcOne ⟨a, b, d, e⟩ ⟨t1, 0⟩ = true) := ⟨pcOne_iff.2 ⟨hm, h2, by show t0 ≤ b; omega, by simp, by simp⟩, pcOne_iff.2 ⟨hm, by show 0 ≤ t1; omega, h4, by simp, by simp⟩⟩
  have HLE := Lib.hid h3
  have HLEN := Lib.hid h1
  clear hm h2 h3 h4 h1
  go_enter Try.func13, Try.ntmps13
  go_wp2_with fail
  refine (HM.out _).mono ?_
  rintro e w1 ⟨rfl, bz⟩
  replace K0 := Lib.hid (K0.out.later bz)
  replace KN := Lib.hid (KN.out.later bz)
  replace HB := Lib.hid (below2Z HB.out bz)
  clear bz
  obtain ⟨K0_0, K0_1, K0_2, K0_3⟩ := cells4P K0.out
  obtain ⟨KN_0, KN_1⟩ := cells2P KN.out
  obtain ⟨kz0, kz1⟩ := cells2P (KN.out.later (bl_newZ w1 (.cells #[.int .i64 t0, .int .i64 0] 54)))
  go_wp2_with fail
  clear K0_0 K0_1 K0_2 K0_3 KN_0 KN_1
  clear kz0 kz1
  have X7 : Hid (((w1.alloc (.cells #[.int .i64 t0, .int .i64 0] 54)).alloc (.cells #[.int .i64 t1, .int .i64 0] 54)).heap[w1.heap.size]? = some (.cells #[.int .i64 t0, .int .i64 0] 54 (0, 0))) := Lib.hid (heap_later (heap_new w1 _ rfl) (bl_newZ _ _))
  have X8 : Hid (((w1.alloc (.cells #[.int .i64 t0, .int .i64 0] 54)).alloc (.cells #[.int .i64 t1, .int .i64 0] 54)).heap[w1.heap.size + 1]? = some (.cells #[.int .i64 t1, .int .i64 0] 54 (0, 0))) := Lib.hid (heap_new _ _ (by simp))
  have bb : Below w1.heap.size w1 ((w1.alloc (.cells #[.int .i64 t0, .int .i64 0] 54)).alloc (.cells #[.int .i64 t1, .int .i64 0] 54)) := below2Z (bl_newZ w1 (.cells #[.int .i64 t0, .int .i64 0] 54)) (bl_newZ _ _)
  have HSZ : Hid (w.heap.size ≤ w1.heap.size) := HB.out.size
  replace HB := Lib.hid (below2Z HB.out bb)
  replace K0 := Lib.hid (K0.out.later bb)
  have hbk : w.heap.size < w1.heap.size := by have := World.block_lt_of_cell? w1 _ (KN.out 0 _ rfl); simp only at this; omega
  have HBK := Lib.hid hbk
  generalize hW : (w1.alloc (.cells #[.int .i64 t0, .int .i64 0] 54)).alloc (.cells #[.int .i64 t1, .int .i64 0] 54) = W at HB K0 X7 X8 bb ⊢
  generalize hB : w1.heap.size = B at X7 X8 HSZ HBK ⊢
  clear hW hB bb KN hbk
  go_loopw [9, 10] (fun n i wr => ∃ (k : Nat) (x y m : Int), k ≤ len ∧ i = .int .i64 k ∧ n = .int .i64 m ∧ Hid (wr.heap[B]? = some (.cells #[.int .i64 x, .int .i64 m] 54 (0, 0))) ∧ Hid (wr.heap[B + 1]? = some (.cells #[.int .i64 y, .int .i64 m] 54 (0, 0))) ∧ Hid (Below B W wr) ∧ Hid (pcOne ⟨a, b, d, e⟩ ⟨x, m⟩ = true ∧ pcOne ⟨a, b, d, e⟩ ⟨y, m⟩ = true ∧ x ≤ y ∧ 0 ≤ m ∧ m ≤ (k : Int) * 1048576)) (fun _ i _ => len - (intOf i).toNat)
  case atStart => exact ⟨0, t0, t1, 0, by omega, rfl, rfl, X7, X8, Below.refl _ _, HO.out.1, HO.out.2, HLE.out, by omega, by omega⟩
  case round =>
    obtain ⟨k, x, y, m, hk, rfl, rfl, HX7, HX8, HBW, HP⟩ := hrel
    have HBR := Lib.hid (HB.out.trans (HBW.out.mono HSZ.out))
    have hcf : CellsAt wr w.heap.size 0 [.int .i64 a, .int .i64 b, .int .i64 d, .int .i64 e] := fun j u hu => (HBW.out.cell (p := ⟨w.heap.size, 0 + j, none⟩) HBK.out).trans (K0.out j u hu)
    have KC := Lib.hid hcf
    clear hcf X7 X8
    by_cases hlt : k < len
    · obtain ⟨rb, off, rfl, hrb, hc⟩ := HROW.out k hlt
      obtain ⟨z, hz⟩ : ∃ z, ns.getD k 0 = z := ⟨_, rfl⟩
      rw [hz] at hc
      have c := (HBR.out.cell (p := ⟨rb, off + k, none⟩) hrb).trans hc
      have t0' : decide ((k : Int) < (len : Int)) = true := by simp; omega
      have n0 : (0 : Int) ≤ (k : Int) := by omega
      have n1 : (k : Int) < (len : Int) := by omega
      clear hc hz
      by_cases hz0 : z < 0
      · have t1 : decide (z < 0) = true := by simpa using hz0
        go_wp2_with fail
        refine (live16 _).mono ?_
        rintro e w5 ⟨rfl, b5⟩
        have HE := Lib.hid (below2Z HBR.out b5)
        clear b5
        go_wp2_with fail
        go_ret
        exact ⟨rfl, HE.out⟩
      · have t1 : decide (z < 0) = false := by simpa using hz0
        by_cases hz1 : 1048576 < z
        · have t2 : decide (1048576 < z) = true := by simpa using hz1
          go_wp2_with fail
          refine (live16 _).mono ?_
          rintro e w5 ⟨rfl, b5⟩
          have HE := Lib.hid (below2Z HBR.out b5)
          clear b5
          go_wp2_with fail
          go_ret
          exact ⟨rfl, HE.out⟩
        · have t2 : decide (1048576 < z) = false := by simpa using hz1
          have HL5 := HLEN.out
          obtain ⟨ha, hb, hle, hm0, hm1⟩ := HP.out
          have hk2 : (k : Int) * 1048576 ≤ 40 * 1048576 := by omega
          have hw : IntKind.i64.wrap (m + z) = m + z := IntWalk.i64_in _ (by omega)
          have hn : pcTime (m + z) = true := pcTime_iff.2 (by omega)
          obtain ⟨⟨⟨x', px⟩, dx⟩, hx⟩ : ∃ r, pcTake ⟨a, b, d, e⟩ ⟨x, m⟩ (m + z) = r := ⟨_, rfl⟩
          obtain ⟨⟨⟨y', py⟩, dy⟩, hy⟩ : ∃ r, pcTake ⟨a, b, d, e⟩ ⟨y, m⟩ (m + z) = r := ⟨_, rfl⟩
          obtain ⟨p1, p2, p3, p4, p5, p6, p7⟩ := pace_more ha hb rfl hle hn hx hy
          have px' := (pace_may ha hn hn hx).2.1
          have py' := (pace_may hb hn hn hy).2.1
          simp only at px' py' p6 p7
          rw [show max (m + z) m = m + z by omega] at px' py'
          subst px' py'
          obtain ⟨la, hla⟩ : ∃ r, pcLevel ⟨a, b, d, e⟩ ⟨x, m⟩ (m + z) = r := ⟨_, rfl⟩
          obtain ⟨lb, hlb⟩ : ∃ r, pcLevel ⟨a, b, d, e⟩ ⟨y, m⟩ (m + z) = r := ⟨_, rfl⟩
          obtain ⟨wa, hwa⟩ : ∃ r, pcWait ⟨a, b, d, e⟩ ⟨x, m⟩ (m + z) = r := ⟨_, rfl⟩
          obtain ⟨wb, hwb⟩ : ∃ r, pcWait ⟨a, b, d, e⟩ ⟨y, m⟩ (m + z) = r := ⟨_, rfl⟩
          rw [hla, hlb] at p1
          rw [hwa, hwb] at p2
          have LA := Lib.hid (plevel_any a b d e x m (m + z) (Lib.hid hla))
          have LB := Lib.hid (plevel_any a b d e y m (m + z) (Lib.hid hlb))
          have WA := Lib.hid (pwait_any a b d e x m (m + z) (Lib.hid hwa))
          have WB := Lib.hid (pwait_any a b d e y m (m + z) (Lib.hid hwb))
          have TA := Lib.hid (ptake_any a b d e x m (m + z) (Lib.hid hx))
          have TB := Lib.hid (ptake_any a b d e y m (m + z) (Lib.hid hy))
          have t3 : decide (lb < la) = false := by simp; omega
          have t4 : decide (wa < wb) = false := by simp; omega
          have HP2 : Hid (pcOne ⟨a, b, d, e⟩ ⟨x', m + z⟩ = true ∧ pcOne ⟨a, b, d, e⟩ ⟨y', m + z⟩ = true ∧ x' ≤ y' ∧ 0 ≤ m + z ∧ m + z ≤ ((k + 1 : Nat) : Int) * 1048576) := ⟨p4, p5, p7, by omega, by omega⟩
          obtain ⟨cf0, cf1, cf2, cf3⟩ := cells4P KC.out
          obtain ⟨u0, u1, -, -⟩ := bk_cells HX7.out
          obtain ⟨v0, v1, -, -⟩ := bk_cells HX8.out
          have D3 := Lib.hid p3
          clear hx hy hla hlb hwa hwb p1 p2 p3 p4 p5 p6 p7 ha hb hle hn hz0 hz1
          go_wp2_with fail
          replace cf0 := cell_regrown cf0
          replace cf1 := cell_regrown cf1
          replace cf2 := cell_regrown cf2
          replace cf3 := cell_regrown cf3
          replace u0 := cell_regrown u0
          replace u1 := cell_regrown u1
          replace v0 := cell_regrown v0
          replace v1 := cell_regrown v1
          clear c
          refine wp_region_quiet_below (by kernel_rfl) (by kernel_rfl) ?_
          repeat (go_big_quiet_step (first | with_reducible exact rgB LA.out _ _ _ | with_reducible exact rgB LB.out _ _ _ | with_reducible exact rgB WA.out _ _ _ | with_reducible exact rgB WB.out _ _ _))
          refine wpQuiet_nil ?_
          intro w5 hw5
          have b5 := regrownZ hw5
          clear hw5 cf0 cf1 cf2 cf3 u0 u1 v0 v1
          have X7 := Lib.hid (heap_later HX7.out b5)
          have X8 := Lib.hid (heap_later HX8.out b5)
          replace KC := Lib.hid (KC.out.later b5)
          replace HBW := Lib.hid (HBW.out.trans (b5.mono (Nat.le_of_lt (heap_lt HX7.out))))
          replace HBR := Lib.hid (below2Z HBR.out b5)
          clear b5
          obtain ⟨cf0, cf1, cf2, cf3⟩ := cells4P KC.out
          obtain ⟨u0, u1, -, -⟩ := bk_cells X7.out
          go_wp2_with fail
          refine (TA.out _).mono ?_
          rintro e w6 ⟨rfl, b6⟩
          have b5 := below2Z b6 (bl_newZ w6 (.cells #[.int .i64 x', .int .i64 (m + z)] 54))
          have X11 := Lib.hid (heap_new w6 (.cells #[.int .i64 x', .int .i64 (m + z)] 54) rfl)
          replace HBW := Lib.hid (HBW.out.trans (b5.mono (Nat.le_of_lt (heap_lt X7.out))))
          replace HBR := Lib.hid (below2Z HBR.out b5)
          replace KC := Lib.hid (KC.out.later b5)
          replace X7 := Lib.hid (heap_later X7.out b5)
          replace X8 := Lib.hid (heap_later X8.out b5)
          clear b5 b6 cf0 cf1 cf2 cf3 u0 u1
          obtain ⟨cf0, cf1, cf2, cf3⟩ := cells4P KC.out
          obtain ⟨u0, u1, -, -⟩ := bk_cells X8.out
          go_wp2_with fail
          generalize hW : w6.alloc (.cells #[.int .i64 x', .int .i64 (m + z)] 54) = w7 at HBW HBR KC X7 X8 X11  cf0 cf1 cf2 cf3 u0 u1 ⊢
          clear hW
          refine (TB.out _).mono ?_
          rintro e w8 ⟨rfl, b6⟩
          have b5 := below2Z b6 (bl_newZ w8 (.cells #[.int .i64 y', .int .i64 (m + z)] 54))
          have X13 := Lib.hid (heap_new w8 (.cells #[.int .i64 y', .int .i64 (m + z)] 54) rfl)
          replace HBW := Lib.hid (HBW.out.trans (b5.mono (Nat.le_of_lt (heap_lt X7.out))))
          replace HBR := Lib.hid (below2Z HBR.out b5)
          have n8 := heap_lt X8.out
          have n11 := heap_lt X11.out
          have n8b := b6.size
          replace X7 := Lib.hid (heap_later X7.out b5)
          replace X8 := Lib.hid (heap_later X8.out b5)
          replace X11 := Lib.hid (heap_later X11.out b5)
          clear b5 b6 cf0 cf1 cf2 cf3 u0 u1
          obtain ⟨_, _, f0, f1⟩ := bk_cells X7.out
          obtain ⟨p0, p1, _, _⟩ := bk_cells X11.out
          have ne13 : B ≠ w8.heap.size := by omega
          have ne8 : B ≠ B + 1 := by omega
          have ne7 : B + 1 ≠ B := by omega
          have Y8 := bk_other X8.out ne8 x' (m + z)
          have Y13 := bk_other X13.out ne13 x' (m + z)
          have Y7 := bk_set X7.out x' (m + z)
          obtain ⟨_, _, g0, g1⟩ := bk_cells Y8
          obtain ⟨q0, q1, _, _⟩ := bk_cells Y13
          have Z7 := Lib.hid (bk_other Y7 ne7 y' (m + z))
          have Z8 := Lib.hid (bk_set Y8 y' (m + z))
          have HB2 : Hid (Below B W (((((w8.alloc (.cells #[.int .i64 y', .int .i64 (m + z)] 54)).setCell ⟨B, 0, none⟩ (.int .i64 x')).setCell ⟨B, 1, none⟩ (.int .i64 (m + z))).setCell ⟨B + 1, 0, none⟩ (.int .i64 y')).setCell ⟨B + 1, 1, none⟩ (.int .i64 (m + z)))) := Lib.hid ((((HBW.out.setCell (Nat.le_refl _) _).setCell (Nat.le_refl _) _).setCell (Nat.le_succ _) _).setCell (Nat.le_succ _) _)
          clear Y7 Y8 Y13
          have hde : (dx && !dy) = false := by cases hd : dx with | false => rfl | true => rw [D3.out hd]; rfl
          cases dx with
          | false =>
            clear hde D3 TA TB LA LB WA WB
            go_wp2_with fail
            go_roundw
            case rel => exact ⟨k + 1, x', y', m + z, by omega, by go_num, rfl, Z7, Z8, HB2, HP2⟩
            case measure => simp [intOf]; omega
          | true =>
            obtain rfl : dy = true := by simpa using hde
            clear hde D3 TA TB LA LB WA WB
            go_wp2_with fail
            go_roundw
            case rel => exact ⟨k + 1, x', y', m + z, by omega, by go_num, rfl, Z7, Z8, HB2, HP2⟩
            case measure => simp [intOf]; omega
    · obtain rfl : k = len := by omega
      have t0' : decide ((k : Int) < (k : Int)) = false := by simp
      go_wp2_with fail
      refine (live16 _).mono ?_
      rintro e w5 ⟨rfl, b5⟩
      have HE := Lib.hid (below2Z HBR.out b5)
      clear b5
      go_wp2_with fail
      go_ret
      exact ⟨rfl, HE.out⟩

theorem walkPaceMore {w : World} (c : Cfg) (_hc : CfgFit c) (zs : List Int) (hz : zs.length = 2 ∧ ∀ z ∈ zs, (Lit.int .i64 z).wf = true) (a0 : Option Addr) (len cap : Nat) (ns : List Int) (h : IsRow .i64 w a0 len cap ns) :
    Calls Try.prog 13 #[.agg #[.int .i64 c.room, .int .i64 c.burst, .int .i64 c.rate, .int .i64 c.per], .agg (zs.map (Value.int .i64)).toArray, .slice a0 len cap] w fun e w' => e = .returned (.bool true) ∧ Below w.heap.size w w' := by
  obtain ⟨t0, t1, rfl⟩ := list2P hz.1
  obtain ⟨a, b, d, e⟩ := c
  simp only [List.map_cons, List.map_nil]
  have hlen := (row_read h).1
  by_cases h1 : 40 < len
  · exact pmoreA a b d e t0 t1 a0 len cap hlen h1
  · cases hm : pcMay ⟨a, b, d, e⟩ with
    | false => exact pmoreB a b d e t0 t1 a0 len cap hlen (by omega) hm
    | true =>
      by_cases h2 : t0 < 0
      · exact pmoreC a b d e t0 t1 a0 len cap hlen (by omega) hm h2
      · by_cases h3 : t1 < t0
        · exact pmoreD a b d e t0 t1 a0 len cap hlen (by omega) hm (by omega) h3
        · by_cases h4 : b < t1
          · exact pmoreE a b d e t0 t1 a0 len cap hlen (by omega) hm (by omega) (by omega) h4
          · exact pmoreM a b d e t0 t1 a0 len cap ns h (by omega) hm (by omega) (by omega) (by omega)

end Go.Proofs.Ytnmdjkecjlpkkaa
