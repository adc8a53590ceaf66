/-
  TEXTS OF THE PROOF, one behind the other: CrcSum, CrcSeal, Held, ScrPut, EvEq, ScrRef, ValTake, Blk, ScrRead.
-/
import Derived.Test.YthfkfonfiejbmaaGreatC10
import Derived.Test.YthfkfonfiejbmaaGreatC07
import Derived.Deep.RegionHeld
import Derived.BigRegion
import Derived.Lib.Hide
import Derived.Test.YthfkfonfiejbmaaGreatC01
import Derived.Deep.RegionLaw
import Derived.Test.YthfkfonfiejbmaaGreatC08
import Derived.Laws.StructEq
import Derived.MapKept

section

/-
  THE CONTRACTS OF crc.Sum (with each, and the register's step), AND OF THE DOCUMENT'S ANSWER TO Sum.
-/
namespace Go.Proofs.YthfkfonfiejbmaaGreat
open Go.RowKit

set_option maxHeartbeats 400000 in
set_option maxRecDepth 100000 in
theorem rstep_method (B c b : Nat) (hc : c < 4294967296) (hb : b < 256) (w : World) (hcell : w.cell? ⟨B, 0, none⟩ = some (.int .u32 c)) (hfr : w.frozen? ⟨B, 0, none⟩ = false) :
    Calls Tryz.prog 87 #[.pointer (some ⟨B, 0, none⟩), .int .u8 b] w fun e w' => e = .returned (.tuple #[]) ∧ w.setCell ⟨B, 0, none⟩ (.int .u32 (cstep c b)) = w' := by
  have HS : Hid (cstep c b = cstep c b) := rfl
  go_enter Tryz.func87, Tryz.ntmps87
  go_wp2_with fail
  refine (step_any c b hc hb _).mono ?_
  rintro e w' ⟨rfl, rfl⟩
  go_wp2_with fail
  go_end0
  exact ⟨rfl, rfl⟩

set_option maxHeartbeats 400000 in
set_option maxRecDepth 100000 in
theorem each_any (B c : Nat) (l : List UInt8) (hl : l.length ≤ 4294967296) (hc : c < 4294967296) (w : World) (hcell : w.cell? ⟨B, 0, none⟩ = some (.int .u32 c)) (hfr : w.frozen? ⟨B, 0, none⟩ = false) :
    Calls Tryz.prog 86 #[.string ⟨l.toArray⟩, .func (Fn.func 87) #[.pointer (some ⟨B, 0, none⟩)] #[]] w fun e w' =>
      e = .returned (.tuple #[]) ∧ w'.cell? ⟨B, 0, none⟩ = some (.int .u32 (cfold c l)) ∧ Below B w w' := by
  have HC := Lib.hid hcell
  have HF := Lib.hid hfr
  clear hcell hfr
  go_enter Tryz.func86, Tryz.ntmps86
  go_wp2_with fail
  go_loopw [7] (fun i wr => ∃ k : Nat, k ≤ l.length ∧ i = .int .i64 k ∧ Hid (wr.cell? ⟨B, 0, none⟩ = some (.int .u32 (cfold c (l.take k)))) ∧ Hid (wr.frozen? ⟨B, 0, none⟩ = false) ∧ Below B w wr) (fun i _ => l.length - (intOf i).toNat)
  case atStart => exact ⟨0, by omega, rfl, HC, HF, Below.refl _ _⟩
  case round =>
    obtain ⟨k, hk, rfl, HC', HF', hnx⟩ := hrel
    by_cases hlt : k < l.length
    · have hlt' : k < (⟨l.toArray⟩ : ByteArray).size := by rw [size_bytes]; exact hlt
      obtain ⟨b, hb⟩ : ∃ b : UInt8, (⟨l.toArray⟩ : ByteArray)[k]'hlt' = b := ⟨_, rfl⟩
      have HB : Hid (l[k]? = some b) := by rw [← hb]; exact bytes_at l k hlt'
      have hN : Hid (cfold c (l.take (k + 1)) = cstep (cfold c (l.take k)) b.toNat) := by
        show _ = _
        obtain ⟨h1, h2⟩ := List.getElem?_eq_some_iff.1 HB.out
        rw [List.take_succ_eq_append_getElem h1, h2, cfold_append]
        rfl
      have hd := cfold_lt (l.take k) hc
      have h256 := b.toNat_lt
      obtain ⟨d, hd'⟩ : ∃ d, d = cfold c (l.take k) := ⟨_, rfl⟩
      rw [← hd'] at hd hN HC'
      clear hd'
      go_wp2_with fail
      refine (rstep_method B d b.toNat hd (by omega) _ HC'.out HF'.out).mono ?_
      rintro e w1 ⟨rfl, rfl⟩
      go_wp2_with fail
      go_roundw
      case rel => exact ⟨k + 1, by omega, by go_num, by show _ = _; rw [hN.out]; exact World.cell?_setCell_same _ _ _ HC'.out, (World.frozen?_setCell _ _ _ _).trans HF'.out, hnx.setCell (Nat.le_refl _) _⟩
      case measure => simp [intOf]; omega
    · obtain rfl : k = l.length := by omega
      have hfull : l.take l.length = l := List.take_length
      rw [hfull] at HC'
      clear hfull
      go_wp2_with fail
      go_end0
      exact ⟨rfl, HC'.out, hnx⟩

set_option maxHeartbeats 400000 in
set_option maxRecDepth 100000 in
theorem sum_any (l : List UInt8) (hl : l.length ≤ 4294967296) (w : World) :
    Calls Tryz.prog 55 #[.string ⟨l.toArray⟩] w fun e w' => e = .returned (.int .u32 (csum l)) ∧ Below w.heap.size w w' := by
  have hmf : ∀ (fn : Fn) (first cap : Array Value) (w : World), (Instr.makeFunc fn first cap).run Tryz.prog w = .ok (.func fn first cap) w := fun _ _ _ _ => rfl
  have hd := cfold_lt l (show 4294967295 < 4294967296 by decide)
  have hx : bits .xor .u32 ((cfold 4294967295 l : Nat) : Int) 4294967295 = ((csum l : Nat) : Int) := xor_u32 _ 4294967295 hd (by decide)
  have hc0 : (w.alloc (.cells #[.int .u32 4294967295] 130)).cell? ⟨w.heap.size, 0, none⟩ = some (.int .u32 4294967295) := by
    rw [World.cell?_alloc_at _ _ _ _ rfl]; rfl
  have hf0 : (w.alloc (.cells #[.int .u32 4294967295] 130)).frozen? ⟨w.heap.size, 0, none⟩ = false := World.frozen?_alloc_at _ _ _ _ rfl
  go_enter Tryz.func55, Tryz.ntmps55
  go_wp2_with fail
  refine (each_any w.heap.size 4294967295 l hl (by decide) _ hc0 hf0).mono ?_
  rintro e w1 ⟨rfl, hc1, hb1⟩
  go_wp2_with fail
  go_ret
  exact ⟨rfl, ((Below.refl _ _).alloc (Nat.le_refl _) _).trans hb1⟩

set_option maxHeartbeats 400000 in
set_option maxRecDepth 100000 in
theorem rsum_any (l : List UInt8) (hl : l.length ≤ 4294967296) (w : World) :
    Calls Tryz.prog 42 #[.string ⟨l.toArray⟩] w fun e w' => e = .returned (.int .u32 (csum l)) ∧ w = w' := by
  have hd := cfold_lt l (show 4294967295 < 4294967296 by decide)
  have hx : bits .xor .u32 ((cfold 4294967295 l : Nat) : Int) 4294967295 = ((csum l : Nat) : Int) := xor_u32 _ 4294967295 hd (by decide)
  have HX := Lib.hid hx
  clear hx hd
  go_enter Tryz.func42, Tryz.ntmps42
  go_wp2_with fail
  go_loop [3, 4] (fun v i => ∃ k d : Nat, k ≤ l.length ∧ d < 4294967296 ∧ i = .int .i64 k ∧ v = .int .u32 d ∧ Hid (d = cfold 4294967295 (l.take k))) (fun _ i => l.length - (intOf i).toNat)
  case atStart => exact ⟨0, 4294967295, by omega, by decide, rfl, rfl, rfl⟩
  case round =>
    obtain ⟨k, d, hk, hd, rfl, rfl, HD⟩ := hrel
    by_cases hlt : k < l.length
    · have hlt' : k < (⟨l.toArray⟩ : ByteArray).size := by rw [size_bytes]; exact hlt
      obtain ⟨b, hb⟩ : ∃ b : UInt8, (⟨l.toArray⟩ : ByteArray)[k]'hlt' = b := ⟨_, rfl⟩
      have HB : Hid (l[k]? = some b) := by rw [← hb]; exact bytes_at l k hlt'
      have hN : Hid (cstep d b.toNat = cfold 4294967295 (l.take (k + 1))) := by
        show _ = _
        obtain ⟨h1, h2⟩ := List.getElem?_eq_some_iff.1 HB.out
        rw [List.take_succ_eq_append_getElem h1, h2, cfold_append, HD.out]
        rfl
      have h256 := b.toNat_lt
      have hl2 := cstep_lt hd (show b.toNat < 4294967296 by omega)
      go_wp2_with fail
      refine (rstep_any d b.toNat hd (by omega) _).mono ?_
      rintro e w1 ⟨rfl, rfl⟩
      go_wp2_with fail
      go_round
      case rel => exact ⟨k + 1, cstep d b.toNat, by omega, hl2, by go_num, rfl, hN⟩
      case measure => simp [intOf]; omega
    · obtain rfl : k = l.length := by omega
      have hx2 : bits .xor .u32 (d : Int) 4294967295 = ((csum l : Nat) : Int) := by
        have h1 := HX.out
        have h2 := HD.out
        rw [List.take_length] at h2
        rwa [← h2] at h1
      clear HX
      go_wp2_with fail
      go_ret
      exact ⟨rfl, rfl⟩

end Go.Proofs.YthfkfonfiejbmaaGreat

end

section

/-
  THE CONTRACTS OF crc.low, Seal, Open AND OF THE DOCUMENT'S ANSWERS TO THEM.
-/
namespace Go.Proofs.YthfkfonfiejbmaaGreat
open Go.RowKit
attribute [local go_sem] ByteArray.mk_append_mk

theorem low4_vals (n : Nat) (hn : n < 4294967296) : #[Value.int IntKind.u8 ((n : Int) % 256), Value.int IntKind.u8 ((n : Int) / 256 % 256), Value.int IntKind.u8 ((n : Int) / 65536 % 256), Value.int IntKind.u8 ((n : Int) / 16777216)] = (bvals (low4 n)).toArray := by
  simp only [bvals, low4, List.map_cons, List.map_nil]
  rw [u8of_toNat (by omega), u8of_toNat (by omega), u8of_toNat (by omega), u8of_toNat (by omega)]
  rw [show ((n % 256 : Nat) : Int) = (n : Int) % 256 by omega, show ((n / 256 % 256 : Nat) : Int) = (n : Int) / 256 % 256 by omega, show ((n / 65536 % 256 : Nat) : Int) = (n : Int) / 65536 % 256 by omega, show ((n / 16777216 % 256 : Nat) : Int) = (n : Int) / 16777216 by omega]

set_option maxHeartbeats 400000 in
set_option maxRecDepth 100000 in
theorem low_any (n : Nat) (hn : n < 4294967296) (w : World) :
    Calls Tryz.prog 54 #[.int .u32 n] w fun e w' => e = .returned (.string ⟨(low4 n).toArray⟩) ∧ Below w.heap.size w w' := by
  have hcv := fun w => run_convert_new (P := Tryz.prog) w 83 5 9 Tryz.underlying83 Tryz.underlying5 Tryz.underlying9 _ (low4 n) (low4_vals n hn) 4 rfl (by decide)
  go_enter Tryz.func54, Tryz.ntmps54
  go_wp2_with fail
  go_ret
  exact ⟨rfl, (Below.refl _ _).alloc (Nat.le_refl _) _⟩

set_option maxHeartbeats 400000 in
set_option maxRecDepth 100000 in
theorem seal_any (l : List UInt8) (hl : l.length ≤ 4294967296) (w : World) :
    Calls Tryz.prog 23 #[.string ⟨l.toArray⟩] w fun e w' => e = .returned (.string ⟨(cseal l).toArray⟩) ∧ Below w.heap.size w w' := by
  have h4 : (low4 (csum l)).length = 4 := rfl
  have hs := csum_lt l
  go_enter Tryz.func23, Tryz.ntmps23
  go_wp2_with fail
  refine (sum_any l hl _).mono ?_
  rintro e w1 ⟨rfl, hb1⟩
  go_wp2_with fail
  refine (low_any (csum l) hs _).mono ?_
  rintro e w2 ⟨rfl, hb2⟩
  go_wp2_with fail
  go_ret
  exact ⟨rfl, below2' hb1 hb2⟩

set_option maxHeartbeats 400000 in
set_option maxRecDepth 100000 in
theorem rseal_any (l : List UInt8) (hl : l.length ≤ 4294967296) (w : World) :
    Calls Tryz.prog 17 #[.string ⟨l.toArray⟩] w fun e w' => e = .returned (.string ⟨(cseal l).toArray⟩) ∧ Below w.heap.size w w' := by
  have h4 : (low4 (csum l)).length = 4 := rfl
  have hs := csum_lt l
  have hcv := fun w => run_convert_new (P := Tryz.prog) w 83 5 9 Tryz.underlying83 Tryz.underlying5 Tryz.underlying9 _ (low4 (csum l)) (low4_vals (csum l) hs) 4 rfl (by decide)
  go_enter Tryz.func17, Tryz.ntmps17
  go_wp2_with fail
  refine (rsum_any l hl _).mono ?_
  rintro e w' ⟨rfl, rfl⟩
  go_wp2_with fail
  go_ret
  exact ⟨rfl, (Below.refl _ _).alloc (Nat.le_refl _) _⟩

/-- Two results: text, error. -/
def pairS (r : List UInt8 × Nat) : Value := .tuple #[.string ⟨r.1.toArray⟩, .int .i64 r.2]

set_option maxHeartbeats 400000 in
set_option maxRecDepth 100000 in
theorem open_any (l : List UInt8) (hl : l.length ≤ 4294967296) (w : World) :
    Calls Tryz.prog 25 #[.string ⟨l.toArray⟩] w fun e w' => e = .returned (pairS (copen l)) ∧ Below w.heap.size w w' := by
  by_cases h4 : l.length < 4
  · have HR : Hid (copen l = ([], 2)) := by show _ = _; unfold copen; rw [if_pos h4]
    go_enter Tryz.func25, Tryz.ntmps25
    go_wp2_with fail
    go_ret2
    exact ⟨by rw [HR.out]; rfl, Below.refl _ _⟩
  · obtain ⟨s, hs⟩ : ∃ s, s = l.take (l.length - 4) := ⟨_, rfl⟩
    obtain ⟨d, hd⟩ : ∃ d, d = l.drop (l.length - 4) := ⟨_, rfl⟩
    have hsl1 := fun w => run_slice_bytes_to (P := Tryz.prog) w 9 l (l.length - 4) ((l.length : Int) - 4) (by omega) Tryz.underlying9 (by omega)
    have hsl2 := fun w => run_slice_bytes_from (P := Tryz.prog) w 9 l (l.length - 4) ((l.length : Int) - 4) (by omega) Tryz.underlying9 (by omega)
    have hsl : s.length ≤ 4294967296 := by rw [hs]; simp; omega
    have hsm := csum_lt s
    have hop : copen l = if d = low4 (csum s) then (s, 0) else ([], 4) := by unfold copen; rw [if_neg h4, ← hs, ← hd]
    rw [← hs] at hsl1
    rw [← hd] at hsl2
    have HO := Lib.hid hop
    have HSL := Lib.hid hsl
    clear hop hsl hs hd
    by_cases he : d = low4 (csum s)
    · have t1 : (low4 (csum s) == d) = true := by rw [he]; simp
      have HR : Hid (copen l = (s, 0)) := by show _ = _; rw [HO.out, if_pos he]
      clear he
      go_enter Tryz.func25, Tryz.ntmps25
      go_wp2_with fail
      refine wp_region_quiet_below (by kernel_rfl) (by kernel_rfl) ?_
      repeat (go_big_quiet_step (first | exact rgB (sum_any s HSL.out) _ _ _ | exact rgB (low_any (csum s) hsm) _ _ _))
      refine wpQuiet_nil ?_
      intro _ hw'
      obtain ⟨⟨dq, osq⟩, hw''⟩ := hw'
      subst hw''
      go_wp2
      go_ret2
      exact ⟨by rw [HR.out]; rfl, below_regrown _ _ _⟩
    · have t1 : (low4 (csum s) == d) = false := by simpa using fun h => he h.symm
      have HR : Hid (copen l = ([], 4)) := by show _ = _; rw [HO.out, if_neg he]
      clear he
      go_enter Tryz.func25, Tryz.ntmps25
      go_wp2_with fail
      refine wp_region_quiet_below (by kernel_rfl) (by kernel_rfl) ?_
      repeat (go_big_quiet_step (first | exact rgB (sum_any s HSL.out) _ _ _ | exact rgB (low_any (csum s) hsm) _ _ _))
      refine wpQuiet_nil ?_
      intro _ hw'
      obtain ⟨⟨dq, osq⟩, hw''⟩ := hw'
      subst hw''
      go_wp2
      go_ret2
      exact ⟨by rw [HR.out]; rfl, below_regrown _ _ _⟩

end Go.Proofs.YthfkfonfiejbmaaGreat

end

section

/-
  A FEW BLOCKS THAT A DRAWN REGION READS, KEPT THROUGH ITS CALLS: over any program.
-/
namespace Go.Proofs.YthfkfonfiejbmaaGreat
open Go.RowKit

/-- Each block's cells, from the first one on. -/
def heldB (X : World) (bs : List (Nat × List Value)) : Prop := ∀ p ∈ bs, CellsAt X p.1 0 p.2

/-- A few blocks, and one cell of a row. -/
def heldD (X : World) (bs : List (Nat × List Value)) (b off : Nat) (v : Value) : Prop := heldB X bs ∧ X.cell? ⟨b, off, none⟩ = some v

end Go.Proofs.YthfkfonfiejbmaaGreat

end

section

/-
  LAYER 23: put, Encode of the code; May, Encode of the document.
-/
namespace Go.Proofs.YthfkfonfiejbmaaGreat
open Go.RowKit

attribute [local go_sem] ByteArray.mk_append_mk

theorem one_vals (n : Nat) (h : n < 256) (N : Int) (hN : N = n) : #[Value.int IntKind.u8 N] = (bvals [u8of n]).toArray := by
  subst hN
  simp [bvals, u8of_toNat h]

theorem run_convert_one (n : Nat) (h : n < 256) (N : Int) (hN : N = n) (w : World) :
    (convert 83 9 (.slice (some ⟨w.heap.size, 0, none⟩) 1 1)).run Tryz.prog (w.alloc (.cells #[.int .u8 N] 5)) = .ok (.string ⟨[u8of n].toArray⟩) (w.alloc (.cells #[.int .u8 N] 5)) :=
  run_convert_new (P := Tryz.prog) w 83 5 9 Tryz.underlying83 Tryz.underlying5 Tryz.underlying9 _ _ (one_vals n h N hN) 1 rfl (by decide)

theorem run_convert_two8 (n : Nat) (h : n < 256) (N : Int) (hN : N = n) (w : World) (o : Obj) :
    (convert 83 9 (.slice (some ⟨w.heap.size + 1, 0, none⟩) 1 1)).run Tryz.prog ((w.alloc o).alloc (.cells #[.int .u8 N] 5)) = .ok (.string ⟨[u8of n].toArray⟩) ((w.alloc o).alloc (.cells #[.int .u8 N] 5)) := by
  have := run_convert_one n h N hN (w.alloc o)
  rwa [World.size_alloc] at this

theorem idPut_yes {l : List UInt8} (h : idIs l = true) : idPut l = (vput l.length ++ l, true) := by unfold idPut; rw [if_pos h]

/-- The bytes of events that may be, in letters. -/
theorem scBytes_low {k : Int} {u o st : List UInt8} {id a b c : Int} (h6 : k ≤ 6) : scBytes ⟨k, u, o, id, ⟨a, b, c, st⟩⟩ = [u8of k.toNat] ++ (vput u.length ++ u) ++ (vput o.length ++ o) := by
  unfold scBytes scTail
  simp only
  rw [if_pos h6]
  simp

theorem scBytes_show {u o st : List UInt8} {id a b c : Int} : scBytes ⟨7, u, o, id, ⟨a, b, c, st⟩⟩ = [u8of 7] ++ (vput u.length ++ u) ++ [u8of id.toNat] ++ vaBytes ⟨a, b, c, st⟩ := by
  unfold scBytes scTail
  simp only
  rw [if_neg (by decide)]
  simp

theorem scBytes_leave {u o st : List UInt8} {id a b c : Int} : scBytes ⟨8, u, o, id, ⟨a, b, c, st⟩⟩ = [u8of 8] ++ (vput u.length ++ u) ++ [u8of id.toNat] := by
  unfold scBytes scTail
  simp only
  rw [if_neg (by decide), if_neg (by decide)]
  simp

set_option maxHeartbeats 1600000 in
set_option maxRecDepth 100000 in
theorem scput_low (k : Int) (u o st : List UInt8) (id a b c : Int) (h1 : 1 ≤ k) (h6 : k ≤ 6) (hu : idIs u = true) (ho : idIs o = true) (w : World) :
    Calls Tryz.prog 24 #[.agg #[.int .i64 k, .string ⟨u.toArray⟩, .string ⟨o.toArray⟩, .int .i64 id, .int .i64 a, .int .i64 b, .int .i64 c, .string ⟨st.toArray⟩]] w fun e w' => e = .returned (.string ⟨(scBytes ⟨k, u, o, id, ⟨a, b, c, st⟩⟩).toArray⟩) ∧ Below w.heap.size w w' := by
  have HB0 := Lib.hid (bl_newZ w (.cells #[.int .i64 k, .string ⟨u.toArray⟩, .string ⟨o.toArray⟩, .int .i64 id, .int .i64 a, .int .i64 b, .int .i64 c, .string ⟨st.toArray⟩] 29))
  have HC0 := Lib.hid (cellsAt_made (w := w) (cs := #[.int .i64 k, .string ⟨u.toArray⟩, .string ⟨o.toArray⟩, .int .i64 id, .int .i64 a, .int .i64 b, .int .i64 c, .string ⟨st.toArray⟩]) (vs := evVals ⟨k, u, o, id, ⟨a, b, c, st⟩⟩) rfl 29 rfl)
  obtain ⟨x1, x2, x3, x4, x5, x6, x7, x8, x9, x10, x11, x12⟩ := and_lits
  have hul := (idIs_parts hu).2.1
  have hul2 := vput_len_le u.length
  have hul3 : u.length ≤ 4294967296 := by omega
  have HU : Hid (idPut u = (vput u.length ++ u, true)) := Lib.hid (idPut_yes hu)
  have HK : Hid (scHas k = 1) := Lib.hid (by unfold scHas; rw [if_pos ⟨h1, h6⟩])
  have hol := (idIs_parts ho).2.1
  have hol2 := vput_len_le o.length
  have hol3 : o.length ≤ 4294967296 := by omega
  have HO : Hid (idPut o = (vput o.length ++ o, true)) := Lib.hid (idPut_yes ho)
  have HR : Hid (scBytes ⟨k, u, o, id, ⟨a, b, c, st⟩⟩ = [u8of k.toNat] ++ (vput u.length ++ u) ++ (vput o.length ++ o)) := Lib.hid (scBytes_low h6)
  have hcv := fun X => run_convert_one k.toNat (by omega) k (by omega) X
  obtain ⟨hd, hhd⟩ : ∃ hd, hd = [u8of k.toNat] := ⟨_, rfl⟩
  rw [← hhd] at hcv HR
  have hdl : hd.length ≤ 2 := by rw [hhd]; simp
  obtain ⟨pu, hpu⟩ : ∃ pu, pu = vput u.length ++ u := ⟨_, rfl⟩
  rw [← hpu] at HU HR
  have hpul : pu.length ≤ 30 := by rw [hpu, List.length_append]; omega
  obtain ⟨po, hpo⟩ : ∃ po, po = vput o.length ++ o := ⟨_, rfl⟩
  rw [← hpo] at HO HR
  have hpol : po.length ≤ 30 := by rw [hpo, List.length_append]; omega
  clear hpo hol2
  clear hhd hpu hul2
  go_enter Tryz.func24, Tryz.ntmps24
  go_wp2_with fail
  refine (parts_eq k HK _).mono ?_
  rintro e w1 ⟨rfl, rfl⟩
  go_wp2_with fail
  refine (idput_eq u hul3 HU _).mono ?_
  rintro e w1 ⟨rfl, b1⟩
  have hz1 : w.heap.size < w1.heap.size := by have := b1.size; simp at this; omega
  have HB1 := Lib.hid (below2Z HB0.out b1)
  have HC1 := Lib.hid (HC0.out.later b1)
  obtain ⟨m0, m1, m2, m3, m4, m5, m6, m7⟩ := eightAt HC1.out
  clear b1
  go_wp2_with fail
  refine (idput_eq o hol3 HO _).mono ?_
  rintro e w2 ⟨rfl, b2⟩
  have HB2 := Lib.hid (below2Z (below2Z HB1.out (bl_newZ _ _)) b2)
  clear b2 m0 m1 m2 m3 m4 m5 m6 m7
  go_wp2_with fail
  go_ret
  exact ⟨by rw [HR.out]; simp, HB2.out⟩

set_option maxHeartbeats 1600000 in
set_option maxRecDepth 100000 in
theorem scput_show (u o st : List UInt8) (id a b c : Int) (hu : idIs u = true) (i0 : 0 ≤ id) (i4 : id < 4) (hv : vaMay ⟨a, b, c, st⟩ = true) (w : World) :
    Calls Tryz.prog 24 #[.agg #[.int .i64 7, .string ⟨u.toArray⟩, .string ⟨o.toArray⟩, .int .i64 id, .int .i64 a, .int .i64 b, .int .i64 c, .string ⟨st.toArray⟩]] w fun e w' => e = .returned (.string ⟨(scBytes ⟨7, u, o, id, ⟨a, b, c, st⟩⟩).toArray⟩) ∧ Below w.heap.size w w' := by
  have HB0 := Lib.hid (bl_newZ w (.cells #[.int .i64 7, .string ⟨u.toArray⟩, .string ⟨o.toArray⟩, .int .i64 id, .int .i64 a, .int .i64 b, .int .i64 c, .string ⟨st.toArray⟩] 29))
  have HC0 := Lib.hid (cellsAt_made (w := w) (cs := #[.int .i64 7, .string ⟨u.toArray⟩, .string ⟨o.toArray⟩, .int .i64 id, .int .i64 a, .int .i64 b, .int .i64 c, .string ⟨st.toArray⟩]) (vs := evVals ⟨7, u, o, id, ⟨a, b, c, st⟩⟩) rfl 29 rfl)
  obtain ⟨x1, x2, x3, x4, x5, x6, x7, x8, x9, x10, x11, x12⟩ := and_lits
  have hul := (idIs_parts hu).2.1
  have hul2 := vput_len_le u.length
  have hul3 : u.length ≤ 4294967296 := by omega
  have HU : Hid (idPut u = (vput u.length ++ u, true)) := Lib.hid (idPut_yes hu)
  have HK : Hid (scHas 7 = 6) := Lib.hid (by unfold scHas; rfl)
  have HR := Lib.hid (scBytes_show (u := u) (o := o) (st := st) (id := id) (a := a) (b := b) (c := c))
  have hcv := fun X => run_convert_one 7 (by omega) 7 rfl X
  have hci := fun X o => run_convert_two8 id.toNat (by omega) id (by omega) X o
  obtain ⟨hd, hhd⟩ : ∃ hd, hd = [u8of 7] := ⟨_, rfl⟩
  obtain ⟨hi, hhi⟩ : ∃ hi, hi = [u8of id.toNat] := ⟨_, rfl⟩
  rw [← hhd, ← hhi] at HR
  rw [← hhd] at hcv
  rw [← hhi] at hci
  have hdl : hd.length ≤ 2 := by rw [hhd]; simp
  have hil : hi.length ≤ 2 := by rw [hhi]; simp
  have hvl := vaBytes_len hv
  have hvl2 := vput_len_le (⟨a, b, c, st⟩ : Val).si.toNat
  have hvl3 := (vaMay_parts hv).2.2.2.2.2.2
  simp only at hvl hvl2 hvl3
  have hst : st.length ≤ 4294967296 := by omega
  have HVM := Lib.hid hv
  have HVP : Hid (vaPut ⟨a, b, c, st⟩ = vaBytes ⟨a, b, c, st⟩) := Lib.hid (by unfold vaPut; rw [if_pos hv])
  have hvlen : (vaBytes ⟨a, b, c, st⟩).length ≤ 100 := by omega
  obtain ⟨vb, hvb⟩ : ∃ vb, vb = vaBytes ⟨a, b, c, st⟩ := ⟨_, rfl⟩
  rw [← hvb] at HVP HR hvlen
  clear hvl hvl2 hvl3 hvb hv
  clear hhi
  obtain ⟨pu, hpu⟩ : ∃ pu, pu = vput u.length ++ u := ⟨_, rfl⟩
  rw [← hpu] at HU HR
  have hpul : pu.length ≤ 30 := by rw [hpu, List.length_append]; omega
  clear hhd hpu hul2
  go_enter Tryz.func24, Tryz.ntmps24
  go_wp2_with fail
  refine (parts_eq 7 HK _).mono ?_
  rintro e w1 ⟨rfl, rfl⟩
  go_wp2_with fail
  refine (idput_eq u hul3 HU _).mono ?_
  rintro e w1 ⟨rfl, b1⟩
  have hz1 : w.heap.size < w1.heap.size := by have := b1.size; simp at this; omega
  have HB1 := Lib.hid (below2Z HB0.out b1)
  have HC1 := Lib.hid (HC0.out.later b1)
  obtain ⟨m0, m1, m2, m3, m4, m5, m6, m7⟩ := eightAt HC1.out
  clear b1
  go_wp2_with fail
  refine (vaput_any a b c st hst HVP HVM _).mono ?_
  rintro e w2 ⟨rfl, b2⟩
  have HB2 := Lib.hid (below2Z (below2Z (below2Z HB1.out (bl_newZ _ _)) (bl_newZ _ _)) b2)
  clear b2 m0 m1 m2 m3 m4 m5 m6 m7
  go_wp2_with fail
  go_ret
  exact ⟨by rw [HR.out]; simp, HB2.out⟩

set_option maxHeartbeats 1600000 in
set_option maxRecDepth 100000 in
theorem scput_leave (u o st : List UInt8) (id a b c : Int) (hu : idIs u = true) (i0 : 0 ≤ id) (i4 : id < 4) (w : World) :
    Calls Tryz.prog 24 #[.agg #[.int .i64 8, .string ⟨u.toArray⟩, .string ⟨o.toArray⟩, .int .i64 id, .int .i64 a, .int .i64 b, .int .i64 c, .string ⟨st.toArray⟩]] w fun e w' => e = .returned (.string ⟨(scBytes ⟨8, u, o, id, ⟨a, b, c, st⟩⟩).toArray⟩) ∧ Below w.heap.size w w' := by
  have HB0 := Lib.hid (bl_newZ w (.cells #[.int .i64 8, .string ⟨u.toArray⟩, .string ⟨o.toArray⟩, .int .i64 id, .int .i64 a, .int .i64 b, .int .i64 c, .string ⟨st.toArray⟩] 29))
  have HC0 := Lib.hid (cellsAt_made (w := w) (cs := #[.int .i64 8, .string ⟨u.toArray⟩, .string ⟨o.toArray⟩, .int .i64 id, .int .i64 a, .int .i64 b, .int .i64 c, .string ⟨st.toArray⟩]) (vs := evVals ⟨8, u, o, id, ⟨a, b, c, st⟩⟩) rfl 29 rfl)
  obtain ⟨x1, x2, x3, x4, x5, x6, x7, x8, x9, x10, x11, x12⟩ := and_lits
  have hul := (idIs_parts hu).2.1
  have hul2 := vput_len_le u.length
  have hul3 : u.length ≤ 4294967296 := by omega
  have HU : Hid (idPut u = (vput u.length ++ u, true)) := Lib.hid (idPut_yes hu)
  have HK : Hid (scHas 8 = 2) := Lib.hid (by unfold scHas; rfl)
  have HR := Lib.hid (scBytes_leave (u := u) (o := o) (st := st) (id := id) (a := a) (b := b) (c := c))
  have hcv := fun X => run_convert_one 8 (by omega) 8 rfl X
  have hci := fun X o => run_convert_two8 id.toNat (by omega) id (by omega) X o
  obtain ⟨hd, hhd⟩ : ∃ hd, hd = [u8of 8] := ⟨_, rfl⟩
  obtain ⟨hi, hhi⟩ : ∃ hi, hi = [u8of id.toNat] := ⟨_, rfl⟩
  rw [← hhd, ← hhi] at HR
  rw [← hhd] at hcv
  rw [← hhi] at hci
  have hdl : hd.length ≤ 2 := by rw [hhd]; simp
  have hil : hi.length ≤ 2 := by rw [hhi]; simp
  clear hhi
  obtain ⟨pu, hpu⟩ : ∃ pu, pu = vput u.length ++ u := ⟨_, rfl⟩
  rw [← hpu] at HU HR
  have hpul : pu.length ≤ 30 := by rw [hpu, List.length_append]; omega
  clear hhd hpu hul2
  go_enter Tryz.func24, Tryz.ntmps24
  go_wp2_with fail
  refine (parts_eq 8 HK _).mono ?_
  rintro e w1 ⟨rfl, rfl⟩
  go_wp2_with fail
  refine (idput_eq u hul3 HU _).mono ?_
  rintro e w1 ⟨rfl, b1⟩
  have hz1 : w.heap.size < w1.heap.size := by have := b1.size; simp at this; omega
  have HB1 := Lib.hid (below2Z HB0.out b1)
  have HC1 := Lib.hid (HC0.out.later b1)
  obtain ⟨m0, m1, m2, m3, m4, m5, m6, m7⟩ := eightAt HC1.out
  clear b1
  go_wp2_with fail
  go_ret
  exact ⟨by rw [HR.out]; simp, below2Z (below2Z HB1.out (bl_newZ _ _)) (bl_newZ _ _)⟩

set_option maxHeartbeats 1600000 in
set_option maxRecDepth 100000 in
theorem scput_any (k : Int) (u o st : List UInt8) (id a b c : Int) (hm : scMay ⟨k, u, o, id, ⟨a, b, c, st⟩⟩ = true) (w : World) :
    Calls Tryz.prog 24 #[.agg #[.int .i64 k, .string ⟨u.toArray⟩, .string ⟨o.toArray⟩, .int .i64 id, .int .i64 a, .int .i64 b, .int .i64 c, .string ⟨st.toArray⟩]] w fun e w' => e = .returned (.string ⟨(scBytes ⟨k, u, o, id, ⟨a, b, c, st⟩⟩).toArray⟩) ∧ Below w.heap.size w w' := by
  rcases scMay_kinds hm with ⟨k1, k6, hu, ho, hi, hv⟩ | ⟨k7, hu, ho, i0, i4, hv⟩ | ⟨k8, hu, ho, i0, i4, hv⟩
  · exact scput_low k u o st id a b c k1 k6 hu ho w
  · simp only at k7
    subst k7
    exact scput_show u o st id a b c hu i0 i4 hv w
  · simp only at k8
    subst k8
    exact scput_leave u o st id a b c hu i0 i4 w

theorem scEnc_yes {e : Ev} (h : scMay e = true) : scEnc e = (cseal (scBytes e), 0) := by unfold scEnc; rw [if_pos h]
theorem scEnc_no {e : Ev} (h : scMay e = false) : scEnc e = ([], 1) := by unfold scEnc; rw [if_neg (by rw [h]; decide)]

theorem seal_len (l : List UInt8) : (cseal l).length = l.length + 4 := by simp [cseal, low4]

set_option maxHeartbeats 1600000 in
set_option maxRecDepth 100000 in
/-- P23.2, the code's. -/
theorem scenc_any (k : Int) (u o st : List UInt8) (id a b c : Int) (hs : evShort ⟨k, u, o, id, ⟨a, b, c, st⟩⟩) {t : List UInt8} {er : Nat} (hr : Hid (scEnc ⟨k, u, o, id, ⟨a, b, c, st⟩⟩ = (t, er))) (w : World) :
    Calls Tryz.prog 9 #[.agg #[.int .i64 k, .string ⟨u.toArray⟩, .string ⟨o.toArray⟩, .int .i64 id, .int .i64 a, .int .i64 b, .int .i64 c, .string ⟨st.toArray⟩]] w fun e w' => e = .returned (.tuple #[.string ⟨t.toArray⟩, .int .i64 er]) ∧ Below w.heap.size w w' := by
  have HB0 := Lib.hid (bl_newZ w (.cells #[.int .i64 k, .string ⟨u.toArray⟩, .string ⟨o.toArray⟩, .int .i64 id, .int .i64 a, .int .i64 b, .int .i64 c, .string ⟨st.toArray⟩] 29))
  have HC0 := Lib.hid (cellsAt_made (w := w) (cs := #[.int .i64 k, .string ⟨u.toArray⟩, .string ⟨o.toArray⟩, .int .i64 id, .int .i64 a, .int .i64 b, .int .i64 c, .string ⟨st.toArray⟩]) (vs := evVals ⟨k, u, o, id, ⟨a, b, c, st⟩⟩) rfl 29 rfl)
  obtain ⟨q, hq⟩ : ∃ q, scMay ⟨k, u, o, id, ⟨a, b, c, st⟩⟩ = q := ⟨_, rfl⟩
  have hr2 := hr.out
  clear hr
  have HQ := Lib.hid hq
  cases q with
  | false =>
    rw [scEnc_no hq] at hr2
    simp only [Prod.mk.injEq] at hr2
    obtain ⟨rfl, rfl⟩ := hr2
    clear hq
    go_enter Tryz.func9, Tryz.ntmps9
    go_wp2_with fail
    refine (scmay_any k u o st id a b c hs HQ _).mono ?_
    rintro e w1 ⟨rfl, b1⟩
    have HB1 := Lib.hid (below2Z HB0.out b1)
    clear b1
    go_wp2_with fail
    go_ret2
    exact ⟨rfl, HB1.out⟩
  | true =>
    rw [scEnc_yes hq] at hr2
    simp only [Prod.mk.injEq] at hr2
    obtain ⟨ht, rfl⟩ := hr2
    have hlen := scBytes_short hq
    rw [seal_len] at hlen
    have hlen2 : (scBytes ⟨k, u, o, id, ⟨a, b, c, st⟩⟩).length ≤ 4294967296 := by omega
    have HP := Lib.hid (scput_any k u o st id a b c hq)
    have HS := Lib.hid (seal_any (scBytes ⟨k, u, o, id, ⟨a, b, c, st⟩⟩) hlen2)
    rw [ht] at HS
    clear hq ht hlen hlen2
    generalize scBytes ⟨k, u, o, id, ⟨a, b, c, st⟩⟩ = sb at HP HS
    go_enter Tryz.func9, Tryz.ntmps9
    go_wp2_with fail
    refine (scmay_any k u o st id a b c hs HQ _).mono ?_
    rintro e w1 ⟨rfl, b1⟩
    have HB1 := Lib.hid (below2Z HB0.out b1)
    obtain ⟨m0, m1, m2, m3, m4, m5, m6, m7⟩ := eightAt (HC0.out.later b1)
    clear b1
    go_wp2_with fail
    refine (HP.out _).mono ?_
    rintro e w2 ⟨rfl, b2⟩
    have HB2 := Lib.hid (below2Z HB1.out b2)
    clear b2 m0 m1 m2 m3 m4 m5 m6 m7
    go_wp2_with fail
    refine (HS.out _).mono ?_
    rintro e w3 ⟨rfl, b3⟩
    have HB3 := Lib.hid (below2Z HB2.out b3)
    clear b3
    go_wp2_with fail
    go_ret2
    exact ⟨rfl, HB3.out⟩

end Go.Proofs.YthfkfonfiejbmaaGreat

end

section

/-
  '==' OF TWO EVENTS.
-/
namespace Go.Proofs.YthfkfonfiejbmaaGreat
open Go.RowKit

/-- Are two events the same? -/
def evEq (x y : Ev) : Bool := (x.k == y.k && (x.u == y.u && (x.o == y.o && (x.id == y.id && vaEq x.v y.v))))

theorem evEq_iff {x y : Ev} : evEq x y = true ↔ x = y := by
  obtain ⟨a, b, c, d, e⟩ := x
  obtain ⟨a', b', c', d', e'⟩ := y
  simp [evEq, vaEq_iff]

theorem evEq_self (x : Ev) : evEq x x = true := evEq_iff.2 rfl

theorem valE_eqIn (d : Nat) (a b c a' b' c' : Int) (s s' : List UInt8) (w : World) :
    (Op.equalIn (d + 1 + 1) 27 (.agg #[.int .i64 a, .int .i64 b, .int .i64 c, .string ⟨s.toArray⟩]) (.agg #[.int .i64 a', .int .i64 b', .int .i64 c', .string ⟨s'.toArray⟩])).run Tryz.prog w = .ok (vaEq ⟨a, b, c, s⟩ ⟨a', b', c', s'⟩) w := by
  have hS : Tryz.prog.underlying 27 = some (.struct (Tryz.prog.fieldsOf 27)) := by kernel_rfl
  have hp : Tryz.prog.stoodInHeld 27 = false := by kernel_rfl
  have u3 := Tryz.underlying3
  have u9 := Tryz.underlying9
  have a3 := Tryz.isAgg3
  have z3 := Tryz.sizeOf3
  have a9 := Tryz.isAgg9
  have z9 := Tryz.sizeOf9
  rw [run_equalIn_agg w (d + 1) 27 _ _ hS hp]
  simp only [Program.fieldsOf, Tryz.underlying27]
  clear hS hp
  go_simp
  unfold vaEq
  by_cases h1 : a = a' <;> by_cases h2 : b = b' <;> by_cases h3 : c = c' <;> by_cases h4 : s = s' <;> simp [h1, h2, h3, h4]

theorem ev_eqIn (d : Nat) (k k' id id' : Int) (u u' o o' : List UInt8) (a b c a' b' c' : Int) (s s' : List UInt8) (w : World) :
    (Op.equalIn (d + 1 + 1 + 1) 29 (.agg #[.int .i64 k, .string ⟨u.toArray⟩, .string ⟨o.toArray⟩, .int .i64 id, .int .i64 a, .int .i64 b, .int .i64 c, .string ⟨s.toArray⟩]) (.agg #[.int .i64 k', .string ⟨u'.toArray⟩, .string ⟨o'.toArray⟩, .int .i64 id', .int .i64 a', .int .i64 b', .int .i64 c', .string ⟨s'.toArray⟩])).run Tryz.prog w = .ok (evEq ⟨k, u, o, id, ⟨a, b, c, s⟩⟩ ⟨k', u', o', id', ⟨a', b', c', s'⟩⟩) w := by
  have hS : Tryz.prog.underlying 29 = some (.struct (Tryz.prog.fieldsOf 29)) := by kernel_rfl
  have hp : Tryz.prog.stoodInHeld 29 = false := by kernel_rfl
  have u3 := Tryz.underlying3
  have u9 := Tryz.underlying9
  have a3 := Tryz.isAgg3
  have z3 := Tryz.sizeOf3
  have a9 := Tryz.isAgg9
  have z9 := Tryz.sizeOf9
  have a35 := Tryz.isAgg27
  have z35 := Tryz.sizeOf27
  have hv := fun w => valE_eqIn d a b c a' b' c' s s' w
  rw [run_equalIn_agg w (d + 1 + 1) 29 _ _ hS hp]
  simp only [Program.fieldsOf, Tryz.underlying29]
  clear hS hp
  go_simp
  unfold evEq
  simp only
  generalize vaEq ⟨a, b, c, s⟩ ⟨a', b', c', s'⟩ = q
  by_cases h1 : k = k' <;> by_cases h2 : u = u' <;> by_cases h3 : o = o' <;> by_cases h4 : id = id' <;> cases q <;> simp [h1, h2, h3, h4]

theorem ev_eql (k k' id id' : Int) (u u' o o' : List UInt8) (a b c a' b' c' : Int) (s s' : List UInt8) (w : World) :
    (binOp .eql 29 (.agg #[.int .i64 k, .string ⟨u.toArray⟩, .string ⟨o.toArray⟩, .int .i64 id, .int .i64 a, .int .i64 b, .int .i64 c, .string ⟨s.toArray⟩]) (.agg #[.int .i64 k', .string ⟨u'.toArray⟩, .string ⟨o'.toArray⟩, .int .i64 id', .int .i64 a', .int .i64 b', .int .i64 c', .string ⟨s'.toArray⟩])).run Tryz.prog w = .ok (.bool (evEq ⟨k, u, o, id, ⟨a, b, c, s⟩⟩ ⟨k', u', o', id', ⟨a', b', c', s'⟩⟩)) w := by
  rw [run_eql_struct, show (10000 : Nat) = 9997 + 1 + 1 + 1 from rfl, ev_eqIn 9997]
  rfl

theorem ev_neq (k k' id id' : Int) (u u' o o' : List UInt8) (a b c a' b' c' : Int) (s s' : List UInt8) (w : World) :
    (binOp .neq 29 (.agg #[.int .i64 k, .string ⟨u.toArray⟩, .string ⟨o.toArray⟩, .int .i64 id, .int .i64 a, .int .i64 b, .int .i64 c, .string ⟨s.toArray⟩]) (.agg #[.int .i64 k', .string ⟨u'.toArray⟩, .string ⟨o'.toArray⟩, .int .i64 id', .int .i64 a', .int .i64 b', .int .i64 c', .string ⟨s'.toArray⟩])).run Tryz.prog w = .ok (.bool (!evEq ⟨k, u, o, id, ⟨a, b, c, s⟩⟩ ⟨k', u', o', id', ⟨a', b', c', s'⟩⟩)) w := by
  rw [run_neq_struct, show (10000 : Nat) = 9997 + 1 + 1 + 1 from rfl, ev_eqIn 9997]
  rfl

end Go.Proofs.YthfkfonfiejbmaaGreat

end

section

/-
  LAYER 23, THE DOCUMENT: May, Encode.
-/
namespace Go.Proofs.YthfkfonfiejbmaaGreat
open Go.RowKit

attribute [local go_sem] ByteArray.mk_append_mk

end Go.Proofs.YthfkfonfiejbmaaGreat

end

section

/-
  THE CONTRACT OF value.Take.
-/
namespace Go.Proofs.YthfkfonfiejbmaaGreat
open Go.RowKit

/-- Three results: value, place, error. -/
def tripleV (a b c : Int) (t : List UInt8) (f er : Nat) : Value := .tuple #[.agg #[.int .i64 a, .int .i64 b, .int .i64 c, .string ⟨t.toArray⟩], .int .i64 f, .int .i64 er]

def valV (v : Val) : Value := .agg #[.int .i64 v.sh, .int .i64 v.pr, .int .i64 v.si, .string ⟨v.st.toArray⟩]

def tripleW (r : Val × Nat × Nat) : Value := .tuple #[valV r.1, .int .i64 r.2.1, .int .i64 r.2.2]

theorem take_eq32 (l : List UInt8) (hl : l.length ≤ 4294967296) (p : Nat) (w : World) {t : List UInt8} {f er : Nat} (h : Hid (vtake l p 32 = (t, f, er))) :
    Calls Tryz.prog 81 #[.string ⟨l.toArray⟩, .int .i64 p, .int .i64 32] w fun e w' => e = .returned (.tuple #[.string ⟨t.toArray⟩, .int .i64 f, .int .i64 er]) ∧ w = w' := take_eq l hl p 32 (by decide) w h

theorem wrap_high (n : Nat) (h : 9223372036854775808 ≤ n) (h' : n < 18446744073709551616) : IntKind.i64.wrap (n : Int) = (n : Int) - 18446744073709551616 := by
  rw [IntKind.wrap_i64]
  omega

/-- Four cells, stored anew. -/
def set4 (w : World) (B : Nat) (a b c d : Value) : World := (((w.setCell ⟨B, 0, none⟩ a).setCell ⟨B, 1, none⟩ b).setCell ⟨B, 2, none⟩ c).setCell ⟨B, 3, none⟩ d

theorem four_set (w : World) (B : Nat) (a b c d a' b' c' d' : Value) (h0 : w.cell? ⟨B, 0, none⟩ = some a') (h1 : w.cell? ⟨B, 1, none⟩ = some b') (h2 : w.cell? ⟨B, 2, none⟩ = some c') (h3 : w.cell? ⟨B, 3, none⟩ = some d') :
    (set4 w B a b c d).cell? ⟨B, 0, none⟩ = some a ∧ (set4 w B a b c d).cell? ⟨B, 1, none⟩ = some b ∧ (set4 w B a b c d).cell? ⟨B, 2, none⟩ = some c ∧ (set4 w B a b c d).cell? ⟨B, 3, none⟩ = some d := by
  unfold set4
  have o1 : (w.setCell ⟨B, 0, none⟩ a).cell? ⟨B, 1, none⟩ = some b' := by rw [World.cell?_setCell_other _ _ _ _ (by simp)]; exact h1
  have o2 : ((w.setCell ⟨B, 0, none⟩ a).setCell ⟨B, 1, none⟩ b).cell? ⟨B, 2, none⟩ = some c' := by rw [World.cell?_setCell_other _ _ _ _ (by simp), World.cell?_setCell_other _ _ _ _ (by simp)]; exact h2
  have o3 : (((w.setCell ⟨B, 0, none⟩ a).setCell ⟨B, 1, none⟩ b).setCell ⟨B, 2, none⟩ c).cell? ⟨B, 3, none⟩ = some d' := by rw [World.cell?_setCell_other _ _ _ _ (by simp), World.cell?_setCell_other _ _ _ _ (by simp), World.cell?_setCell_other _ _ _ _ (by simp)]; exact h3
  refine ⟨?_, ?_, ?_, ?_⟩
  · rw [World.cell?_setCell_other _ _ _ _ (by simp), World.cell?_setCell_other _ _ _ _ (by simp), World.cell?_setCell_other _ _ _ _ (by simp)]
    exact World.cell?_setCell_same _ _ _ h0
  · rw [World.cell?_setCell_other _ _ _ _ (by simp), World.cell?_setCell_other _ _ _ _ (by simp)]
    exact World.cell?_setCell_same _ _ _ o1
  · rw [World.cell?_setCell_other _ _ _ _ (by simp)]
    exact World.cell?_setCell_same _ _ _ o2
  · exact World.cell?_setCell_same _ _ _ o3

theorem set4_below {w w1 : World} (h : Below w.heap.size w w1) (B : Nat) (hB : w.heap.size ≤ B) (a b c d : Value) : Below w.heap.size w (set4 w1 B a b c d) :=
  (((h.setCell hB _).setCell hB _).setCell hB _).setCell hB _

/-- Two new blocks of four cells, and whatever came behind them. -/
theorem two_blocks {w w1 : World} {a b c d x y z u : Value} {t1 t2 : TypeId}
    (hb : Below ((w.alloc (.cells #[a, b, c, d] t1)).alloc (.cells #[x, y, z, u] t2)).drew.heap.size ((w.alloc (.cells #[a, b, c, d] t1)).alloc (.cells #[x, y, z, u] t2)).drew w1) :
    (w1.cell? ⟨w.heap.size, 0, none⟩ = some a ∧ w1.cell? ⟨w.heap.size, 1, none⟩ = some b ∧ w1.cell? ⟨w.heap.size, 2, none⟩ = some c ∧ w1.cell? ⟨w.heap.size, 3, none⟩ = some d) ∧
    (w1.frozen? ⟨w.heap.size, 0, none⟩ = false ∧ w1.frozen? ⟨w.heap.size, 1, none⟩ = false ∧ w1.frozen? ⟨w.heap.size, 2, none⟩ = false ∧ w1.frozen? ⟨w.heap.size, 3, none⟩ = false) ∧
    (w1.cell? ⟨w.heap.size + 1, 0, none⟩ = some x ∧ w1.cell? ⟨w.heap.size + 1, 1, none⟩ = some y ∧ w1.cell? ⟨w.heap.size + 1, 2, none⟩ = some z ∧ w1.cell? ⟨w.heap.size + 1, 3, none⟩ = some u) ∧ Below w.heap.size w w1 := by
  have hA : ∀ o, w1.cell? ⟨w.heap.size, o, none⟩ = #[a, b, c, d][o]? := fun o => by
    rw [hb.cell (p := ⟨w.heap.size, o, none⟩) (by show w.heap.size < _; simp; omega)]
    show ((w.alloc (.cells #[a, b, c, d] t1)).alloc (.cells #[x, y, z, u] t2)).cell? _ = _
    rw [World.cell?_alloc_lt _ _ _ (by show w.heap.size < _; simp), World.cell?_alloc_at _ _ _ _ rfl]
  have hF : ∀ o, w1.frozen? ⟨w.heap.size, o, none⟩ = false := fun o => by
    rw [hb.frozen (p := ⟨w.heap.size, o, none⟩) (by show w.heap.size < _; simp; omega)]
    show ((w.alloc (.cells #[a, b, c, d] t1)).alloc (.cells #[x, y, z, u] t2)).frozen? _ = _
    simp
  have hC : ∀ o, w1.cell? ⟨w.heap.size + 1, o, none⟩ = #[x, y, z, u][o]? := fun o => by
    rw [hb.cell (p := ⟨w.heap.size + 1, o, none⟩) (by show w.heap.size + 1 < _; simp)]
    show ((w.alloc (.cells #[a, b, c, d] t1)).alloc (.cells #[x, y, z, u] t2)).cell? _ = _
    rw [World.cell?_alloc_at _ _ _ _ (by simp)]
  exact ⟨⟨hA 0, hA 1, hA 2, hA 3⟩, ⟨hF 0, hF 1, hF 2, hF 3⟩, ⟨hC 0, hC 1, hC 2, hC 3⟩, below2' (((Below.refl _ _).alloc (Nat.le_refl _) _).alloc (by simp) _).drew hb⟩

set_option maxHeartbeats 400000 in
set_option maxRecDepth 100000 in
theorem vatake_out (l : List UInt8) (_hl : l.length ≤ 4294967296) (p : Int) (hp : p < 0 ∨ (l.length : Int) < p) (w : World) :
    Calls Tryz.prog 109 #[.string ⟨l.toArray⟩, .int .i64 p] w fun e w' => e = .returned (tripleW (vaTake l p)) ∧ Below w.heap.size w w' := by
  have HR : Hid (vaTake l p = (Val.zero, 0, 1)) := by show _ = _; unfold vaTake; rw [if_pos hp]
  rcases hp with h | h
  all_goals
    go_enter Tryz.func109, Tryz.ntmps109
    go_wp2_with fail
    exact bodyPost_ret (v := tripleW (Val.zero, 0, 1)) (by simp [results, Tryz.results109, go_sem, tripleW, valV, Val.zero]) rfl ⟨by rw [HR.out], (Below.refl _ _).alloc (Nat.le_refl _) _⟩

set_option maxHeartbeats 400000 in
set_option maxRecDepth 100000 in
theorem vatake_cut (l : List UInt8) (_hl : l.length ≤ 4294967296) (q : Nat) (hq : q ≤ l.length) (h2 : l.length < q + 2) (w : World) :
    Calls Tryz.prog 109 #[.string ⟨l.toArray⟩, .int .i64 q] w fun e w' => e = .returned (tripleW (vaTake l q)) ∧ Below w.heap.size w w' := by
  have HR : Hid (vaTake l q = (Val.zero, 0, 2)) := by show _ = _; unfold vaTake; rw [if_neg (by omega), if_pos (by omega)]
  go_enter Tryz.func109, Tryz.ntmps109
  go_wp2_with fail
  exact bodyPost_ret (v := tripleW (Val.zero, 0, 2)) (by simp [results, Tryz.results109, go_sem, tripleW, valV, Val.zero]) rfl ⟨by rw [HR.out], (Below.refl _ _).alloc (Nat.le_refl _) _⟩

set_option maxHeartbeats 400000 in
set_option maxRecDepth 100000 in
theorem vatake_get (l : List UInt8) (hl : l.length ≤ 4294967296) (q : Nat) (h2 : q + 2 ≤ l.length) {n f er : Nat} (hg : Hid (vget l ((q : Int) + 2) = (n, f, er))) (he : er ≠ 0) (w : World) :
    Calls Tryz.prog 109 #[.string ⟨l.toArray⟩, .int .i64 q] w fun e w' => e = .returned (tripleW (vaTake l q)) ∧ Below w.heap.size w w' := by
  have HR : Hid (vaTake l q = (Val.zero, 0, er)) := by show _ = _; unfold vaTake; rw [if_neg (by omega), if_neg (by omega), hg.out, if_pos he]
  have t1 : ((er : Int) != 0) = true := by simp; omega
  clear he
  go_enter Tryz.func109, Tryz.ntmps109
  go_wp2_with fail
  refine (get_eq l hl _ _ hg).mono ?_
  rintro e w' ⟨rfl, rfl⟩
  go_wp2_with fail
  exact bodyPost_ret (v := tripleW (Val.zero, 0, er)) (by simp [results, Tryz.results109, go_sem, tripleW, valV, Val.zero]) rfl ⟨by rw [HR.out], (Below.refl _ _).alloc (Nat.le_refl _) _⟩

set_option maxHeartbeats 400000 in
set_option maxRecDepth 100000 in
theorem vatake_text (l : List UInt8) (hl : l.length ≤ 4294967296) (q : Nat) (h2 : q + 2 ≤ l.length) {n f : Nat} (hg : Hid (vget l ((q : Int) + 2) = (n, f, 0))) {t : List UInt8} {k er : Nat} (ht : Hid (vtake l f 32 = (t, k, er))) (he : er ≠ 0) (w : World) :
    Calls Tryz.prog 109 #[.string ⟨l.toArray⟩, .int .i64 q] w fun e w' => e = .returned (tripleW (vaTake l q)) ∧ Below w.heap.size w w' := by
  have HR : Hid (vaTake l q = (Val.zero, 0, er)) := by show _ = _; unfold vaTake; rw [if_neg (by omega), if_neg (by omega), hg.out]; simp only [ne_eq, not_true_eq_false, if_false]; rw [ht.out, if_pos he]
  have t1 : ((er : Int) != 0) = true := by simp; omega
  clear he
  go_enter Tryz.func109, Tryz.ntmps109
  go_wp2_with fail
  refine (get_eq l hl _ _ hg).mono ?_
  rintro e w' ⟨rfl, rfl⟩
  go_wp2_with fail
  refine (take_eq32 l hl _ _ ht).mono ?_
  rintro e w' ⟨rfl, rfl⟩
  go_wp2_with fail
  exact bodyPost_ret (v := tripleW (Val.zero, 0, er)) (by simp [results, Tryz.results109, go_sem, tripleW, valV, Val.zero]) rfl ⟨by rw [HR.out], (Below.refl _ _).alloc (Nat.le_refl _) _⟩

set_option maxHeartbeats 800000 in
set_option maxRecDepth 100000 in
theorem vatake_end (l : List UInt8) (hl : l.length ≤ 4294967296) (q : Nat) (h2 : q + 2 ≤ l.length) {n f : Nat} (hg : Hid (vget l ((q : Int) + 2) = (n, f, 0))) {t : List UInt8} {k : Nat} (ht : Hid (vtake l f 32 = (t, k, 0))) (w : World) :
    Calls Tryz.prog 109 #[.string ⟨l.toArray⟩, .int .i64 q] w fun e w' => e = .returned (tripleW (vaTake l q)) ∧ Below w.heap.size w w' := by
  have hn := (vget_facts hg.out).1
  have hq1 : q < (⟨l.toArray⟩ : ByteArray).size := by rw [size_bytes]; omega
  have hq2 : q + 1 < (⟨l.toArray⟩ : ByteArray).size := by rw [size_bytes]; omega
  obtain ⟨x, hx⟩ : ∃ x : UInt8, (⟨l.toArray⟩ : ByteArray)[q]'hq1 = x := ⟨_, rfl⟩
  obtain ⟨y, hy⟩ : ∃ y : UInt8, (⟨l.toArray⟩ : ByteArray)[q + 1]'hq2 = y := ⟨_, rfl⟩
  have hx256 := x.toNat_lt
  have hy256 := y.toNat_lt
  have htl := (vtake_bytes ht.out).2.2.2
  have HX : Hid (l.getD q 0 = x) := by show _ = _; rw [← hx, List.getD, bytes_at l q hq1]; rfl
  have HY : Hid (l.getD (q + 1) 0 = y) := by show _ = _; rw [← hy, List.getD, bytes_at l (q + 1) hq2]; rfl
  have HTw : Hid (vaTwo l q n t = ⟨x.toNat, (y.toNat : Int) - 128, n, t⟩) := by show _ = _; unfold vaTwo; simp only [Int.toNat_natCast]; rw [HX.out, HY.out]
  have HE : Hid (vaTake l q = if vaMay ⟨x.toNat, (y.toNat : Int) - 128, n, t⟩ = false then (Val.zero, 0, 3) else (⟨x.toNat, (y.toNat : Int) - 128, n, t⟩, k, 0)) := by
    show _ = _
    unfold vaTake; rw [if_neg (by omega), if_neg (by omega), hg.out]; simp only [ne_eq, not_true_eq_false, if_false]; rw [ht.out]; simp only [not_true_eq_false, if_false]; rw [HTw.out]
  by_cases hs : n < 9223372036854775808
  · have e1 : IntKind.i64.wrap (n : Int) = n := IntWalk.i64_in _ (by omega)
    have e2 : IntKind.i64.wrap ((y.toNat : Int) - 128) = (y.toNat : Int) - 128 := IntWalk.i64_in _ (by omega)
    have e3 : IntKind.i64.wrap ((q : Int) + 1) = (q : Int) + 1 := IntWalk.i64_in _ (by omega)
    have e4 : ((q : Int) + 1).toNat = q + 1 := by omega
    cases hm : vaMay ⟨x.toNat, (y.toNat : Int) - 128, n, t⟩ with
    | false =>
      have HR := HE.out
      rw [if_pos hm] at HR
      have HR' := Lib.hid HR
      have HM := Lib.hid (may_eq x.toNat ((y.toNat : Int) + -128) n t (by omega) (Lib.hid (show vaMay ⟨x.toNat, (y.toNat : Int) + -128, n, t⟩ = false from hm)))
      clear HR hm HE
      go_enter Tryz.func109, Tryz.ntmps109
      go_wp2_with fail
      refine (get_eq l hl _ _ hg).mono ?_
      rintro e w' ⟨rfl, rfl⟩
      go_wp2_with fail
      refine (take_eq32 l hl _ _ ht).mono ?_
      rintro e w' ⟨rfl, rfl⟩
      go_wp2_with fail
      go_region
      go_wp2_with fail
      refine (HM.out _).mono ?_
      rintro e w1 ⟨rfl, hb1⟩
      obtain ⟨⟨q0, q1, q2, q3⟩, ⟨f0, f1, f2, f3⟩, ⟨s0, s1, s2, s3⟩, hB1⟩ := two_blocks hb1
      have HB1 := Lib.hid hB1
      clear hb1 hB1
      go_wp2_with fail
      obtain ⟨r0, r1, r2, r3⟩ := four_set w1 w.heap.size (.int .i64 0) (.int .i64 0) (.int .i64 0) (.string ⟨#[]⟩) _ _ _ _ q0 q1 q2 q3
      unfold set4 at r0 r1 r2 r3
      exact bodyPost_ret (v := tripleW (Val.zero, 0, 3)) (by simp [results, Tryz.results109, go_sem, tripleW, valV, Val.zero, r0, r1, r2, r3]) rfl ⟨by rw [HR'.out], set4_below HB1.out _ (Nat.le_refl _) _ _ _ _⟩
    | true =>
      have HR := HE.out
      rw [if_neg (by rw [hm]; decide)] at HR
      have HR' := Lib.hid HR
      have HM := Lib.hid (may_eq x.toNat ((y.toNat : Int) + -128) n t (by omega) (Lib.hid (show vaMay ⟨x.toNat, (y.toNat : Int) + -128, n, t⟩ = true from hm)))
      clear HR hm HE
      go_enter Tryz.func109, Tryz.ntmps109
      go_wp2_with fail
      refine (get_eq l hl _ _ hg).mono ?_
      rintro e w' ⟨rfl, rfl⟩
      go_wp2_with fail
      refine (take_eq32 l hl _ _ ht).mono ?_
      rintro e w' ⟨rfl, rfl⟩
      go_wp2_with fail
      go_region
      go_wp2_with fail
      refine (HM.out _).mono ?_
      rintro e w1 ⟨rfl, hb1⟩
      obtain ⟨⟨q0, q1, q2, q3⟩, ⟨f0, f1, f2, f3⟩, ⟨s0, s1, s2, s3⟩, hB1⟩ := two_blocks hb1
      have HB1 := Lib.hid hB1
      clear hb1 hB1
      go_wp2_with fail
      obtain ⟨r0, r1, r2, r3⟩ := four_set w1 w.heap.size (.int .i64 x.toNat) (.int .i64 ((y.toNat : Int) + -128)) (.int .i64 n) (.string ⟨t.toArray⟩) _ _ _ _ q0 q1 q2 q3
      unfold set4 at r0 r1 r2 r3
      exact bodyPost_ret (v := tripleW (⟨x.toNat, (y.toNat : Int) + -128, n, t⟩, k, 0)) (by simp [results, Tryz.results109, go_sem, tripleW, valV, r0, r1, r2, r3]) rfl ⟨by rw [HR'.out]; rfl, set4_below HB1.out _ (Nat.le_refl _) _ _ _ _⟩
  · have e2 : IntKind.i64.wrap ((y.toNat : Int) - 128) = (y.toNat : Int) - 128 := IntWalk.i64_in _ (by omega)
    have e3 : IntKind.i64.wrap ((q : Int) + 1) = (q : Int) + 1 := IntWalk.i64_in _ (by omega)
    have e4 : ((q : Int) + 1).toNat = q + 1 := by omega
    obtain ⟨c, hc, hneg⟩ : ∃ c, IntKind.i64.wrap (n : Int) = c ∧ c < 0 := ⟨_, rfl, by
      have : IntKind.i64.wrap (n : Int) = (n : Int) - 18446744073709551616 := wrap_high n (by omega) hn
      rw [this]; omega⟩
    have hm0 : vaMay ⟨x.toNat, (y.toNat : Int) - 128, n, t⟩ = false := by
      unfold vaMay
      rcases numsOk_cases (x.toNat : Int) ((y.toNat : Int) - 128) (n : Int) with ⟨_, h⟩ | ⟨h, _⟩
      · omega
      · simp only; rw [h]; rfl
    have hm : vaMay ⟨x.toNat, (y.toNat : Int) + -128, c, t⟩ = false := by
      unfold vaMay
      rcases numsOk_cases (x.toNat : Int) ((y.toNat : Int) + -128) c with ⟨_, h⟩ | ⟨h, _⟩
      · omega
      · simp only; rw [h]; rfl
    have HR := HE.out
    rw [if_pos hm0] at HR
    have HR' := Lib.hid HR
    have HM := Lib.hid (may_eq x.toNat ((y.toNat : Int) + -128) c t (by omega) (Lib.hid hm))
    clear HR hm hm0 HE hs
    go_enter Tryz.func109, Tryz.ntmps109
    go_wp2_with fail
    refine (get_eq l hl _ _ hg).mono ?_
    rintro e w' ⟨rfl, rfl⟩
    go_wp2_with fail
    refine (take_eq32 l hl _ _ ht).mono ?_
    rintro e w' ⟨rfl, rfl⟩
    go_wp2_with fail
    go_region
    go_wp2_with fail
    refine (HM.out _).mono ?_
    rintro e w1 ⟨rfl, hb1⟩
    obtain ⟨⟨q0, q1, q2, q3⟩, ⟨f0, f1, f2, f3⟩, ⟨s0, s1, s2, s3⟩, hB1⟩ := two_blocks hb1
    have HB1 := Lib.hid hB1
    clear hb1 hB1
    go_wp2_with fail
    obtain ⟨r0, r1, r2, r3⟩ := four_set w1 w.heap.size (.int .i64 0) (.int .i64 0) (.int .i64 0) (.string ⟨#[]⟩) _ _ _ _ q0 q1 q2 q3
    unfold set4 at r0 r1 r2 r3
    exact bodyPost_ret (v := tripleW (Val.zero, 0, 3)) (by simp [results, Tryz.results109, go_sem, tripleW, valV, Val.zero, r0, r1, r2, r3]) rfl ⟨by rw [HR'.out], set4_below HB1.out _ (Nat.le_refl _) _ _ _ _⟩

theorem vatake_any (l : List UInt8) (hl : l.length ≤ 4294967296) (p : Int) (w : World) :
    Calls Tryz.prog 109 #[.string ⟨l.toArray⟩, .int .i64 p] w fun e w' => e = .returned (tripleW (vaTake l p)) ∧ Below w.heap.size w w' := by
  by_cases hp : p < 0 ∨ (l.length : Int) < p
  · exact vatake_out l hl p hp w
  · obtain ⟨q, rfl⟩ := Int.eq_ofNat_of_zero_le (show 0 ≤ p by omega)
    by_cases h2 : l.length < q + 2
    · exact vatake_cut l hl q (by omega) h2 w
    · obtain ⟨n, f, er, hg⟩ : ∃ n f er, vget l ((q : Int) + 2) = (n, f, er) := ⟨_, _, _, rfl⟩
      by_cases he : er = 0
      · subst he
        obtain ⟨t, k, es, ht⟩ : ∃ t k es, vtake l f 32 = (t, k, es) := ⟨_, _, _, rfl⟩
        by_cases hes : es = 0
        · subst hes
          exact vatake_end l hl q (by omega) (Lib.hid hg) (Lib.hid ht) w
        · exact vatake_text l hl q (by omega) (Lib.hid hg) (Lib.hid ht) hes w
      · exact vatake_get l hl q (by omega) (Lib.hid hg) he w

theorem vatake_eq (l : List UInt8) (hl : l.length ≤ 4294967296) (p : Int) {a b c : Int} {t : List UInt8} {f er : Nat} (h : Hid (vaTake l p = (⟨a, b, c, t⟩, f, er))) (w : World) :
    Calls Tryz.prog 109 #[.string ⟨l.toArray⟩, .int .i64 p] w fun e w' => e = .returned (.tuple #[.agg #[.int .i64 a, .int .i64 b, .int .i64 c, .string ⟨t.toArray⟩], .int .i64 f, .int .i64 er]) ∧ Below w.heap.size w w' := by
  have := vatake_any l hl p w
  rwa [h.out] at this

end Go.Proofs.YthfkfonfiejbmaaGreat

end

section

/-
  BLOCKS KNOWN WHOLE: their cells, new ones, stores into them. Over any program.
-/
namespace Go.Proofs.YthfkfonfiejbmaaGreat
open Go.RowKit

theorem upQ {w w' : World} {b : Nat} {o : Obj} (h : w.heap[b]? = some o) (hb : Below w.heap.size w w') : w'.heap[b]? = some o :=
  (hb.block b (Array.getElem?_eq_some_iff.1 h).1).trans h

theorem newQ (w : World) (o : Obj) : (w.alloc o).heap[w.heap.size]? = some o := (MapKept.heap_alloc w o).1

theorem setCell_size (w : World) (p : Addr) (v : Value) : (w.setCell p v).heap.size = w.heap.size := by
  simp [World.setCell]

/-- A block of 1 cells, stored into as one. -/
def stN1 (w : World) (B : Nat) (y0 : Value) : World := w.setCell ⟨B, 0, none⟩ y0

theorem blk2 {w : World} {B : Nat} {x0 x1 : Value} {T : TypeId} (h : w.heap[B]? = some (.cells #[x0, x1] T (0, 0))) : (w.cell? ⟨B, 0, none⟩ = some x0 ∧ w.cell? ⟨B, 1, none⟩ = some x1) ∧ (w.frozen? ⟨B, 0, none⟩ = false ∧ w.frozen? ⟨B, 1, none⟩ = false) :=
  ⟨⟨cell_of_row w B 0 _ _ (0, 0) h, cell_of_row w B 1 _ _ (0, 0) h⟩, ⟨frozen_of_row w B 0 _ _ h, frozen_of_row w B 1 _ _ h⟩⟩

/-- A block of 2 cells, stored into as one. -/
def stN2 (w : World) (B : Nat) (y0 y1 : Value) : World := (w.setCell ⟨B, 0, none⟩ y0).setCell ⟨B, 1, none⟩ y1

/-- A block of 3 cells, stored into as one. -/
def stN3 (w : World) (B : Nat) (y0 y1 y2 : Value) : World := ((w.setCell ⟨B, 0, none⟩ y0).setCell ⟨B, 1, none⟩ y1).setCell ⟨B, 2, none⟩ y2

/-- A block of 4 cells, stored into as one. -/
def stN4 (w : World) (B : Nat) (y0 y1 y2 y3 : Value) : World := (((w.setCell ⟨B, 0, none⟩ y0).setCell ⟨B, 1, none⟩ y1).setCell ⟨B, 2, none⟩ y2).setCell ⟨B, 3, none⟩ y3

/-- A block of 5 cells, stored into as one. -/
def stN5 (w : World) (B : Nat) (y0 y1 y2 y3 y4 : Value) : World := ((((w.setCell ⟨B, 0, none⟩ y0).setCell ⟨B, 1, none⟩ y1).setCell ⟨B, 2, none⟩ y2).setCell ⟨B, 3, none⟩ y3).setCell ⟨B, 4, none⟩ y4

/-- A block of 6 cells, stored into as one. -/
def stN6 (w : World) (B : Nat) (y0 y1 y2 y3 y4 y5 : Value) : World := (((((w.setCell ⟨B, 0, none⟩ y0).setCell ⟨B, 1, none⟩ y1).setCell ⟨B, 2, none⟩ y2).setCell ⟨B, 3, none⟩ y3).setCell ⟨B, 4, none⟩ y4).setCell ⟨B, 5, none⟩ y5

/-- A block of 7 cells, stored into as one. -/
def stN7 (w : World) (B : Nat) (y0 y1 y2 y3 y4 y5 y6 : Value) : World := ((((((w.setCell ⟨B, 0, none⟩ y0).setCell ⟨B, 1, none⟩ y1).setCell ⟨B, 2, none⟩ y2).setCell ⟨B, 3, none⟩ y3).setCell ⟨B, 4, none⟩ y4).setCell ⟨B, 5, none⟩ y5).setCell ⟨B, 6, none⟩ y6

theorem blk8 {w : World} {B : Nat} {x0 x1 x2 x3 x4 x5 x6 x7 : Value} {T : TypeId} (h : w.heap[B]? = some (.cells #[x0, x1, x2, x3, x4, x5, x6, x7] T (0, 0))) : (w.cell? ⟨B, 0, none⟩ = some x0 ∧ w.cell? ⟨B, 1, none⟩ = some x1 ∧ w.cell? ⟨B, 2, none⟩ = some x2 ∧ w.cell? ⟨B, 3, none⟩ = some x3 ∧ w.cell? ⟨B, 4, none⟩ = some x4 ∧ w.cell? ⟨B, 5, none⟩ = some x5 ∧ w.cell? ⟨B, 6, none⟩ = some x6 ∧ w.cell? ⟨B, 7, none⟩ = some x7) ∧ (w.frozen? ⟨B, 0, none⟩ = false ∧ w.frozen? ⟨B, 1, none⟩ = false ∧ w.frozen? ⟨B, 2, none⟩ = false ∧ w.frozen? ⟨B, 3, none⟩ = false ∧ w.frozen? ⟨B, 4, none⟩ = false ∧ w.frozen? ⟨B, 5, none⟩ = false ∧ w.frozen? ⟨B, 6, none⟩ = false ∧ w.frozen? ⟨B, 7, none⟩ = false) :=
  ⟨⟨cell_of_row w B 0 _ _ (0, 0) h, cell_of_row w B 1 _ _ (0, 0) h, cell_of_row w B 2 _ _ (0, 0) h, cell_of_row w B 3 _ _ (0, 0) h, cell_of_row w B 4 _ _ (0, 0) h, cell_of_row w B 5 _ _ (0, 0) h, cell_of_row w B 6 _ _ (0, 0) h, cell_of_row w B 7 _ _ (0, 0) h⟩, ⟨frozen_of_row w B 0 _ _ h, frozen_of_row w B 1 _ _ h, frozen_of_row w B 2 _ _ h, frozen_of_row w B 3 _ _ h, frozen_of_row w B 4 _ _ h, frozen_of_row w B 5 _ _ h, frozen_of_row w B 6 _ _ h, frozen_of_row w B 7 _ _ h⟩⟩

/-- A block of 8 cells, stored into as one. -/
def stN8 (w : World) (B : Nat) (y0 y1 y2 y3 y4 y5 y6 y7 : Value) : World := (((((((w.setCell ⟨B, 0, none⟩ y0).setCell ⟨B, 1, none⟩ y1).setCell ⟨B, 2, none⟩ y2).setCell ⟨B, 3, none⟩ y3).setCell ⟨B, 4, none⟩ y4).setCell ⟨B, 5, none⟩ y5).setCell ⟨B, 6, none⟩ y6).setCell ⟨B, 7, none⟩ y7

theorem stN8_heap {w : World} {B : Nat} {x0 x1 x2 x3 x4 x5 x6 x7 : Value} {T : TypeId} (h : w.heap[B]? = some (.cells #[x0, x1, x2, x3, x4, x5, x6, x7] T (0, 0))) (y0 y1 y2 y3 y4 y5 y6 y7 : Value) : (stN8 w B y0 y1 y2 y3 y4 y5 y6 y7).heap[B]? = some (.cells #[y0, y1, y2, y3, y4, y5, y6, y7] T (0, 0)) := by
  have h0 : (w.setCell ⟨B, 0, none⟩ y0).heap[B]? = some (.cells #[y0, x1, x2, x3, x4, x5, x6, x7] T (0, 0)) := heap_setCell_same w B 0 _ _ y0 h
  have h1 : ((w.setCell ⟨B, 0, none⟩ y0).setCell ⟨B, 1, none⟩ y1).heap[B]? = some (.cells #[y0, y1, x2, x3, x4, x5, x6, x7] T (0, 0)) := heap_setCell_same _ B 1 _ _ y1 h0
  have h2 : (((w.setCell ⟨B, 0, none⟩ y0).setCell ⟨B, 1, none⟩ y1).setCell ⟨B, 2, none⟩ y2).heap[B]? = some (.cells #[y0, y1, y2, x3, x4, x5, x6, x7] T (0, 0)) := heap_setCell_same _ B 2 _ _ y2 h1
  have h3 : ((((w.setCell ⟨B, 0, none⟩ y0).setCell ⟨B, 1, none⟩ y1).setCell ⟨B, 2, none⟩ y2).setCell ⟨B, 3, none⟩ y3).heap[B]? = some (.cells #[y0, y1, y2, y3, x4, x5, x6, x7] T (0, 0)) := heap_setCell_same _ B 3 _ _ y3 h2
  have h4 : (((((w.setCell ⟨B, 0, none⟩ y0).setCell ⟨B, 1, none⟩ y1).setCell ⟨B, 2, none⟩ y2).setCell ⟨B, 3, none⟩ y3).setCell ⟨B, 4, none⟩ y4).heap[B]? = some (.cells #[y0, y1, y2, y3, y4, x5, x6, x7] T (0, 0)) := heap_setCell_same _ B 4 _ _ y4 h3
  have h5 : ((((((w.setCell ⟨B, 0, none⟩ y0).setCell ⟨B, 1, none⟩ y1).setCell ⟨B, 2, none⟩ y2).setCell ⟨B, 3, none⟩ y3).setCell ⟨B, 4, none⟩ y4).setCell ⟨B, 5, none⟩ y5).heap[B]? = some (.cells #[y0, y1, y2, y3, y4, y5, x6, x7] T (0, 0)) := heap_setCell_same _ B 5 _ _ y5 h4
  have h6 : (((((((w.setCell ⟨B, 0, none⟩ y0).setCell ⟨B, 1, none⟩ y1).setCell ⟨B, 2, none⟩ y2).setCell ⟨B, 3, none⟩ y3).setCell ⟨B, 4, none⟩ y4).setCell ⟨B, 5, none⟩ y5).setCell ⟨B, 6, none⟩ y6).heap[B]? = some (.cells #[y0, y1, y2, y3, y4, y5, y6, x7] T (0, 0)) := heap_setCell_same _ B 6 _ _ y6 h5
  have h7 : ((((((((w.setCell ⟨B, 0, none⟩ y0).setCell ⟨B, 1, none⟩ y1).setCell ⟨B, 2, none⟩ y2).setCell ⟨B, 3, none⟩ y3).setCell ⟨B, 4, none⟩ y4).setCell ⟨B, 5, none⟩ y5).setCell ⟨B, 6, none⟩ y6).setCell ⟨B, 7, none⟩ y7).heap[B]? = some (.cells #[y0, y1, y2, y3, y4, y5, y6, y7] T (0, 0)) := heap_setCell_same _ B 7 _ _ y7 h6
  exact h7

theorem stN8_far (w : World) (B : Nat) (y0 y1 y2 y3 y4 y5 y6 y7 : Value) {k : Nat} (hk : ¬ k = B) : (stN8 w B y0 y1 y2 y3 y4 y5 y6 y7).heap[k]? = w.heap[k]? := by
  unfold stN8
  rw [Below.heap_setCell _ _ _ k hk, Below.heap_setCell _ _ _ k hk, Below.heap_setCell _ _ _ k hk, Below.heap_setCell _ _ _ k hk, Below.heap_setCell _ _ _ k hk, Below.heap_setCell _ _ _ k hk, Below.heap_setCell _ _ _ k hk, Below.heap_setCell _ _ _ k hk]

theorem stN8_below {w0 w : World} {n B : Nat} (h : Below n w0 w) (hB : n ≤ B) (y0 y1 y2 y3 y4 y5 y6 y7 : Value) : Below n w0 (stN8 w B y0 y1 y2 y3 y4 y5 y6 y7) := by
  unfold stN8
  exact (((((((h.setCell hB _).setCell hB _).setCell hB _).setCell hB _).setCell hB _).setCell hB _).setCell hB _).setCell hB _

/-- A block of 10 cells, stored into as one. -/
def stN10 (w : World) (B : Nat) (y0 y1 y2 y3 y4 y5 y6 y7 y8 y9 : Value) : World := (((((((((w.setCell ⟨B, 0, none⟩ y0).setCell ⟨B, 1, none⟩ y1).setCell ⟨B, 2, none⟩ y2).setCell ⟨B, 3, none⟩ y3).setCell ⟨B, 4, none⟩ y4).setCell ⟨B, 5, none⟩ y5).setCell ⟨B, 6, none⟩ y6).setCell ⟨B, 7, none⟩ y7).setCell ⟨B, 8, none⟩ y8).setCell ⟨B, 9, none⟩ y9

/-- A block of 13 cells, stored into as one. -/
def stN13 (w : World) (B : Nat) (y0 y1 y2 y3 y4 y5 y6 y7 y8 y9 y10 y11 y12 : Value) : World := ((((((((((((w.setCell ⟨B, 0, none⟩ y0).setCell ⟨B, 1, none⟩ y1).setCell ⟨B, 2, none⟩ y2).setCell ⟨B, 3, none⟩ y3).setCell ⟨B, 4, none⟩ y4).setCell ⟨B, 5, none⟩ y5).setCell ⟨B, 6, none⟩ y6).setCell ⟨B, 7, none⟩ y7).setCell ⟨B, 8, none⟩ y8).setCell ⟨B, 9, none⟩ y9).setCell ⟨B, 10, none⟩ y10).setCell ⟨B, 11, none⟩ y11).setCell ⟨B, 12, none⟩ y12

end Go.Proofs.YthfkfonfiejbmaaGreat

end

section

/-
  LAYER 23, THE CODE: readPart, takePart.
-/
namespace Go.Proofs.YthfkfonfiejbmaaGreat
open Go.RowKit

theorem getD_byte (l : List UInt8) (p : Nat) (hp : p < l.length) (h : p < (⟨l.toArray⟩ : ByteArray).size) : (⟨l.toArray⟩ : ByteArray)[p]'h = l.getD p 0 := by
  rw [List.getD_eq_getElem?_getD, List.getElem?_eq_getElem hp]
  rfl

set_option maxHeartbeats 1600000 in
set_option maxRecDepth 100000 in
theorem rp1_yes (l : List UInt8) (hl : l.length ≤ 4294967296) (p : Int) {t : List UInt8} {q : Nat} (HT : Hid (idTake l p = (t, q, 0))) (w : World) :
    Calls Tryz.prog 88 #[.int .i64 1, .string ⟨l.toArray⟩, .int .i64 p] w fun e w' => e = .returned (.tuple #[.iface 9 (.string ⟨t.toArray⟩), .int .i64 q]) ∧ Below w.heap.size w w' := by
  go_enter Tryz.func88, Tryz.ntmps88
  go_wp2_with fail
  refine (idtake_eq l hl p HT _).mono ?_
  rintro e w1 ⟨rfl, b1⟩
  go_wp2_with fail
  go_ret2
  exact ⟨rfl, b1⟩

set_option maxHeartbeats 1600000 in
set_option maxRecDepth 100000 in
theorem rp1_no (l : List UInt8) (hl : l.length ≤ 4294967296) (p : Int) {t : List UInt8} {q er : Nat} (HT : Hid (idTake l p = (t, q, er))) (he : er ≠ 0) (w : World) :
    Calls Tryz.prog 88 #[.int .i64 1, .string ⟨l.toArray⟩, .int .i64 p] w fun e w' => e = .returned (.tuple #[.nilIface, .int .i64 0]) ∧ Below w.heap.size w w' := by
  have t1 : ((er : Int) == 0) = false := by simp; omega
  clear he
  go_enter Tryz.func88, Tryz.ntmps88
  go_wp2_with fail
  refine (idtake_eq l hl p HT _).mono ?_
  rintro e w1 ⟨rfl, b1⟩
  go_wp2_with fail
  go_ret2
  exact ⟨rfl, b1⟩

set_option maxHeartbeats 1600000 in
set_option maxRecDepth 100000 in
theorem rp2_yes (l : List UInt8) (hl : l.length ≤ 4294967296) (p : Nat) (hp : p < l.length) {x : UInt8} (hx : l.getD p 0 = x) (w : World) :
    Calls Tryz.prog 88 #[.int .i64 2, .string ⟨l.toArray⟩, .int .i64 p] w fun e w' => e = .returned (.tuple #[.iface 3 (.int .i64 x.toNat), .int .i64 ((p + 1 : Nat) : Int)]) ∧ Below w.heap.size w w' := by
  have hq : p < (⟨l.toArray⟩ : ByteArray).size := by rw [size_bytes]; exact hp
  have hb := getD_byte l p hp hq
  rw [hx] at hb
  have hx256 := x.toNat_lt
  clear hx
  have hs1 : (⟨l.toArray⟩ : ByteArray).size = l.length := size_bytes l
  go_enter Tryz.func88, Tryz.ntmps88
  go_wp2_with fail
  go_ret2
  exact ⟨by simp, Below.refl _ _⟩

set_option maxHeartbeats 1600000 in
set_option maxRecDepth 100000 in
theorem rp2_no (l : List UInt8) (_hl : l.length ≤ 4294967296) (p : Nat) (hp : l.length ≤ p) (w : World) :
    Calls Tryz.prog 88 #[.int .i64 2, .string ⟨l.toArray⟩, .int .i64 p] w fun e w' => e = .returned (.tuple #[.nilIface, .int .i64 0]) ∧ Below w.heap.size w w' := by
  have hs1 : (⟨l.toArray⟩ : ByteArray).size = l.length := size_bytes l
  have t1 : decide ((p : Int) < (l.length : Int)) = false := by rw [decide_eq_false_iff_not]; omega
  have t2 : decide (p < l.length) = false := by rw [decide_eq_false_iff_not]; omega
  go_enter Tryz.func88, Tryz.ntmps88
  go_wp2_with fail
  go_ret2
  exact ⟨rfl, Below.refl _ _⟩

set_option maxHeartbeats 1600000 in
set_option maxRecDepth 100000 in
theorem rp4_yes (l : List UInt8) (hl : l.length ≤ 4294967296) (p : Int) {a b c : Int} {t : List UInt8} {q : Nat} (HT : Hid (vaTake l p = (⟨a, b, c, t⟩, q, 0))) (w : World) :
    Calls Tryz.prog 88 #[.int .i64 4, .string ⟨l.toArray⟩, .int .i64 p] w fun e w' => e = .returned (.tuple #[.iface 27 (.agg #[.int .i64 a, .int .i64 b, .int .i64 c, .string ⟨t.toArray⟩]), .int .i64 q]) ∧ Below w.heap.size w w' := by
  go_enter Tryz.func88, Tryz.ntmps88
  go_wp2_with fail
  refine (vatake_eq l hl p HT _).mono ?_
  rintro e w1 ⟨rfl, b1⟩
  go_wp2_with fail
  go_ret2
  exact ⟨rfl, b1.trans ((Below.refl _ _).alloc b1.size _)⟩

set_option maxHeartbeats 1600000 in
set_option maxRecDepth 100000 in
theorem rp4_no (l : List UInt8) (hl : l.length ≤ 4294967296) (p : Int) {a b c : Int} {t : List UInt8} {q er : Nat} (HT : Hid (vaTake l p = (⟨a, b, c, t⟩, q, er))) (he : er ≠ 0) (w : World) :
    Calls Tryz.prog 88 #[.int .i64 4, .string ⟨l.toArray⟩, .int .i64 p] w fun e w' => e = .returned (.tuple #[.nilIface, .int .i64 0]) ∧ Below w.heap.size w w' := by
  have t1 : ((er : Int) == 0) = false := by simp; omega
  clear he
  go_enter Tryz.func88, Tryz.ntmps88
  go_wp2_with fail
  refine (vatake_eq l hl p HT _).mono ?_
  rintro e w1 ⟨rfl, b1⟩
  go_wp2_with fail
  go_ret2
  exact ⟨rfl, b1.trans ((Below.refl _ _).alloc b1.size _)⟩

/-- What a type switch asks of what was read. -/
theorem ta_same (T : TypeId) (v : Value) (hT : T = 9 ∨ T = 3 ∨ T = 27) (w : World) : (Instr.typeAssert (.iface T v) 20 T true).run Tryz.prog w = .ok (.tuple #[v, .bool true]) w := by
  rcases hT with rfl | rfl | rfl <;> kernel_rfl

theorem ta_is (v : Value) (w : World) : (Instr.typeAssert (.iface 3 v) 20 9 true).run Tryz.prog w = .ok (.tuple #[.string ⟨#[]⟩, .bool false]) w := by kernel_rfl

theorem ta_vs (v : Value) (w : World) : (Instr.typeAssert (.iface 27 v) 20 9 true).run Tryz.prog w = .ok (.tuple #[.string ⟨#[]⟩, .bool false]) w := by kernel_rfl

theorem ta_ns (w : World) : (Instr.typeAssert .nilIface 20 9 true).run Tryz.prog w = .ok (.tuple #[.string ⟨#[]⟩, .bool false]) w := by kernel_rfl

theorem ta_vi (v : Value) (w : World) : (Instr.typeAssert (.iface 27 v) 20 3 true).run Tryz.prog w = .ok (.tuple #[.int .i64 0, .bool false]) w := by kernel_rfl

theorem ta_ni (w : World) : (Instr.typeAssert .nilIface 20 3 true).run Tryz.prog w = .ok (.tuple #[.int .i64 0, .bool false]) w := by kernel_rfl

theorem ta_nv (w : World) : (Instr.typeAssert .nilIface 20 27 true).run Tryz.prog w = .ok (.tuple #[.agg #[.int .i64 0, .int .i64 0, .int .i64 0, .string ⟨#[]⟩], .bool false]) w := by kernel_rfl

set_option maxHeartbeats 1600000 in
set_option maxRecDepth 100000 in
theorem tp1_yes (k : Int) (u o st : List UInt8) (id a b c : Int) (l : List UInt8) (hl : l.length ≤ 4294967296) (p : Int) {t : List UInt8} {q : Nat} (HT : Hid (idTake l p = (t, q, 0))) (w : World) :
    Calls Tryz.prog 59 #[.agg #[.int .i64 k, .string ⟨u.toArray⟩, .string ⟨o.toArray⟩, .int .i64 id, .int .i64 a, .int .i64 b, .int .i64 c, .string ⟨st.toArray⟩], .int .i64 1, .string ⟨l.toArray⟩, .int .i64 p] w fun e w' => e = .returned (.tuple #[.agg #[.int .i64 k, .string ⟨u.toArray⟩, .string ⟨t.toArray⟩, .int .i64 id, .int .i64 a, .int .i64 b, .int .i64 c, .string ⟨st.toArray⟩], .int .i64 q, .bool true]) ∧ Below w.heap.size w w' := by
  have ta1 := fun v w => ta_same 9 v (by simp) w
  have b0 := bl_newZ w (.cells #[.int .i64 k, .string ⟨u.toArray⟩, .string ⟨o.toArray⟩, .int .i64 id, .int .i64 a, .int .i64 b, .int .i64 c, .string ⟨st.toArray⟩] 29)
  have b1 := bl_newZ (w.alloc (.cells #[.int .i64 k, .string ⟨u.toArray⟩, .string ⟨o.toArray⟩, .int .i64 id, .int .i64 a, .int .i64 b, .int .i64 c, .string ⟨st.toArray⟩] 29)) (.cells #[.int .i64 0, .string ⟨#[]⟩, .string ⟨#[]⟩, .int .i64 0, .int .i64 0, .int .i64 0, .int .i64 0, .string ⟨#[]⟩] 29)
  have HB := Lib.hid (below2Z b0 b1)
  have E := newQ w (.cells #[.int .i64 k, .string ⟨u.toArray⟩, .string ⟨o.toArray⟩, .int .i64 id, .int .i64 a, .int .i64 b, .int .i64 c, .string ⟨st.toArray⟩] 29)
  replace E := upQ E b1
  replace E := Lib.hid E
  have R := newQ (w.alloc (.cells #[.int .i64 k, .string ⟨u.toArray⟩, .string ⟨o.toArray⟩, .int .i64 id, .int .i64 a, .int .i64 b, .int .i64 c, .string ⟨st.toArray⟩] 29)) (.cells #[.int .i64 0, .string ⟨#[]⟩, .string ⟨#[]⟩, .int .i64 0, .int .i64 0, .int .i64 0, .int .i64 0, .string ⟨#[]⟩] 29)
  rw [World.size_alloc] at R
  replace R := Lib.hid R
  clear b0 b1
  go_enter Tryz.func59, Tryz.ntmps59
  go_wp2_with fail
  refine (rp1_yes l hl p HT _).mono ?_
  rintro e w3 ⟨rfl, b3⟩
  replace E := Lib.hid (upQ E.out b3)
  replace R := Lib.hid (upQ R.out b3)
  replace HB := Lib.hid (below2Z HB.out b3)
  clear b3
  obtain ⟨⟨Ec0, Ec1, Ec2, Ec3, Ec4, Ec5, Ec6, Ec7⟩, ⟨Ef0, Ef1, Ef2, Ef3, Ef4, Ef5, Ef6, Ef7⟩⟩ := blk8 E.out
  obtain ⟨⟨Rc0, Rc1, Rc2, Rc3, Rc4, Rc5, Rc6, Rc7⟩, ⟨Rf0, Rf1, Rf2, Rf3, Rf4, Rf5, Rf6, Rf7⟩⟩ := blk8 R.out
  have hE := (Array.getElem?_eq_some_iff.1 E.out).1
  have hR := (Array.getElem?_eq_some_iff.1 R.out).1
  go_wp2_with fail
  refine bodyPost_ret (v := .tuple #[.agg #[.int .i64 k, .string ⟨u.toArray⟩, .string ⟨t.toArray⟩, .int .i64 id, .int .i64 a, .int .i64 b, .int .i64 c, .string ⟨st.toArray⟩], .int .i64 q, .bool true]) (by simp [results, Tryz.results59, go_sem, Rc0, Rc1, Rc2, Rc3, Rc4, Rc5, Rc6, Rc7]) rfl ⟨rfl, ?_⟩
  exact (((((((((HB.out.setCell (Nat.le_refl _) _).setCell (Nat.le_succ _) _).setCell (Nat.le_succ _) _).setCell (Nat.le_succ _) _).setCell (Nat.le_succ _) _).setCell (Nat.le_succ _) _).setCell (Nat.le_succ _) _).setCell (Nat.le_succ _) _).setCell (Nat.le_succ _) _)

set_option maxHeartbeats 1600000 in
set_option maxRecDepth 100000 in
theorem tp1_no (k : Int) (u o st : List UInt8) (id a b c : Int) (l : List UInt8) (hl : l.length ≤ 4294967296) (p : Int) {t : List UInt8} {q er : Nat} (HT : Hid (idTake l p = (t, q, er))) (he : er ≠ 0) (w : World) :
    Calls Tryz.prog 59 #[.agg #[.int .i64 k, .string ⟨u.toArray⟩, .string ⟨o.toArray⟩, .int .i64 id, .int .i64 a, .int .i64 b, .int .i64 c, .string ⟨st.toArray⟩], .int .i64 1, .string ⟨l.toArray⟩, .int .i64 p] w fun e w' => e = .returned (.tuple #[.agg #[.int .i64 0, .string ⟨#[]⟩, .string ⟨#[]⟩, .int .i64 0, .int .i64 0, .int .i64 0, .int .i64 0, .string ⟨#[]⟩], .int .i64 0, .bool false]) ∧ Below w.heap.size w w' := by
  have ta1 := ta_ns
  have ta2 := ta_ni
  have ta3 := ta_nv
  have b0 := bl_newZ w (.cells #[.int .i64 k, .string ⟨u.toArray⟩, .string ⟨o.toArray⟩, .int .i64 id, .int .i64 a, .int .i64 b, .int .i64 c, .string ⟨st.toArray⟩] 29)
  have b1 := bl_newZ (w.alloc (.cells #[.int .i64 k, .string ⟨u.toArray⟩, .string ⟨o.toArray⟩, .int .i64 id, .int .i64 a, .int .i64 b, .int .i64 c, .string ⟨st.toArray⟩] 29)) (.cells #[.int .i64 0, .string ⟨#[]⟩, .string ⟨#[]⟩, .int .i64 0, .int .i64 0, .int .i64 0, .int .i64 0, .string ⟨#[]⟩] 29)
  have HB := Lib.hid (below2Z b0 b1)
  have E := newQ w (.cells #[.int .i64 k, .string ⟨u.toArray⟩, .string ⟨o.toArray⟩, .int .i64 id, .int .i64 a, .int .i64 b, .int .i64 c, .string ⟨st.toArray⟩] 29)
  replace E := upQ E b1
  replace E := Lib.hid E
  have R := newQ (w.alloc (.cells #[.int .i64 k, .string ⟨u.toArray⟩, .string ⟨o.toArray⟩, .int .i64 id, .int .i64 a, .int .i64 b, .int .i64 c, .string ⟨st.toArray⟩] 29)) (.cells #[.int .i64 0, .string ⟨#[]⟩, .string ⟨#[]⟩, .int .i64 0, .int .i64 0, .int .i64 0, .int .i64 0, .string ⟨#[]⟩] 29)
  rw [World.size_alloc] at R
  replace R := Lib.hid R
  clear b0 b1
  go_enter Tryz.func59, Tryz.ntmps59
  go_wp2_with fail
  refine (rp1_no l hl p HT he _).mono ?_
  rintro e w3 ⟨rfl, b3⟩
  replace E := Lib.hid (upQ E.out b3)
  replace R := Lib.hid (upQ R.out b3)
  replace HB := Lib.hid (below2Z HB.out b3)
  clear b3
  obtain ⟨⟨Ec0, Ec1, Ec2, Ec3, Ec4, Ec5, Ec6, Ec7⟩, ⟨Ef0, Ef1, Ef2, Ef3, Ef4, Ef5, Ef6, Ef7⟩⟩ := blk8 E.out
  obtain ⟨⟨Rc0, Rc1, Rc2, Rc3, Rc4, Rc5, Rc6, Rc7⟩, ⟨Rf0, Rf1, Rf2, Rf3, Rf4, Rf5, Rf6, Rf7⟩⟩ := blk8 R.out
  have hE := (Array.getElem?_eq_some_iff.1 E.out).1
  have hR := (Array.getElem?_eq_some_iff.1 R.out).1
  go_wp2_with fail
  refine bodyPost_ret (v := .tuple #[.agg #[.int .i64 0, .string ⟨#[]⟩, .string ⟨#[]⟩, .int .i64 0, .int .i64 0, .int .i64 0, .int .i64 0, .string ⟨#[]⟩], .int .i64 0, .bool false]) (by simp [results, Tryz.results59, go_sem, Rc0, Rc1, Rc2, Rc3, Rc4, Rc5, Rc6, Rc7]) rfl ⟨rfl, ?_⟩
  exact ((((((((HB.out.setCell (Nat.le_succ _) _).setCell (Nat.le_succ _) _).setCell (Nat.le_succ _) _).setCell (Nat.le_succ _) _).setCell (Nat.le_succ _) _).setCell (Nat.le_succ _) _).setCell (Nat.le_succ _) _).setCell (Nat.le_succ _) _)

set_option maxHeartbeats 1600000 in
set_option maxRecDepth 100000 in
theorem tp2_yes (k : Int) (u o st : List UInt8) (id a b c : Int) (l : List UInt8) (hl : l.length ≤ 4294967296) (p : Nat) (hp : p < l.length) {x : UInt8} (hx : l.getD p 0 = x) (w : World) :
    Calls Tryz.prog 59 #[.agg #[.int .i64 k, .string ⟨u.toArray⟩, .string ⟨o.toArray⟩, .int .i64 id, .int .i64 a, .int .i64 b, .int .i64 c, .string ⟨st.toArray⟩], .int .i64 2, .string ⟨l.toArray⟩, .int .i64 p] w fun e w' => e = .returned (.tuple #[.agg #[.int .i64 k, .string ⟨u.toArray⟩, .string ⟨o.toArray⟩, .int .i64 x.toNat, .int .i64 a, .int .i64 b, .int .i64 c, .string ⟨st.toArray⟩], .int .i64 ((p + 1 : Nat) : Int), .bool true]) ∧ Below w.heap.size w w' := by
  have ta1 := ta_is
  have ta2 := fun v w => ta_same 3 v (by simp) w
  have b0 := bl_newZ w (.cells #[.int .i64 k, .string ⟨u.toArray⟩, .string ⟨o.toArray⟩, .int .i64 id, .int .i64 a, .int .i64 b, .int .i64 c, .string ⟨st.toArray⟩] 29)
  have b1 := bl_newZ (w.alloc (.cells #[.int .i64 k, .string ⟨u.toArray⟩, .string ⟨o.toArray⟩, .int .i64 id, .int .i64 a, .int .i64 b, .int .i64 c, .string ⟨st.toArray⟩] 29)) (.cells #[.int .i64 0, .string ⟨#[]⟩, .string ⟨#[]⟩, .int .i64 0, .int .i64 0, .int .i64 0, .int .i64 0, .string ⟨#[]⟩] 29)
  have HB := Lib.hid (below2Z b0 b1)
  have E := newQ w (.cells #[.int .i64 k, .string ⟨u.toArray⟩, .string ⟨o.toArray⟩, .int .i64 id, .int .i64 a, .int .i64 b, .int .i64 c, .string ⟨st.toArray⟩] 29)
  replace E := upQ E b1
  replace E := Lib.hid E
  have R := newQ (w.alloc (.cells #[.int .i64 k, .string ⟨u.toArray⟩, .string ⟨o.toArray⟩, .int .i64 id, .int .i64 a, .int .i64 b, .int .i64 c, .string ⟨st.toArray⟩] 29)) (.cells #[.int .i64 0, .string ⟨#[]⟩, .string ⟨#[]⟩, .int .i64 0, .int .i64 0, .int .i64 0, .int .i64 0, .string ⟨#[]⟩] 29)
  rw [World.size_alloc] at R
  replace R := Lib.hid R
  clear b0 b1
  go_enter Tryz.func59, Tryz.ntmps59
  go_wp2_with fail
  refine (rp2_yes l hl p hp hx _).mono ?_
  rintro e w3 ⟨rfl, b3⟩
  replace E := Lib.hid (upQ E.out b3)
  replace R := Lib.hid (upQ R.out b3)
  replace HB := Lib.hid (below2Z HB.out b3)
  clear b3
  obtain ⟨⟨Ec0, Ec1, Ec2, Ec3, Ec4, Ec5, Ec6, Ec7⟩, ⟨Ef0, Ef1, Ef2, Ef3, Ef4, Ef5, Ef6, Ef7⟩⟩ := blk8 E.out
  obtain ⟨⟨Rc0, Rc1, Rc2, Rc3, Rc4, Rc5, Rc6, Rc7⟩, ⟨Rf0, Rf1, Rf2, Rf3, Rf4, Rf5, Rf6, Rf7⟩⟩ := blk8 R.out
  have hE := (Array.getElem?_eq_some_iff.1 E.out).1
  have hR := (Array.getElem?_eq_some_iff.1 R.out).1
  go_wp2_with fail
  refine bodyPost_ret (v := .tuple #[.agg #[.int .i64 k, .string ⟨u.toArray⟩, .string ⟨o.toArray⟩, .int .i64 x.toNat, .int .i64 a, .int .i64 b, .int .i64 c, .string ⟨st.toArray⟩], .int .i64 ((p + 1 : Nat) : Int), .bool true]) (by simp [results, Tryz.results59, go_sem, Rc0, Rc1, Rc2, Rc3, Rc4, Rc5, Rc6, Rc7]) rfl ⟨rfl, ?_⟩
  exact (((((((((HB.out.setCell (Nat.le_refl _) _).setCell (Nat.le_succ _) _).setCell (Nat.le_succ _) _).setCell (Nat.le_succ _) _).setCell (Nat.le_succ _) _).setCell (Nat.le_succ _) _).setCell (Nat.le_succ _) _).setCell (Nat.le_succ _) _).setCell (Nat.le_succ _) _)

set_option maxHeartbeats 1600000 in
set_option maxRecDepth 100000 in
theorem tp2_no (k : Int) (u o st : List UInt8) (id a b c : Int) (l : List UInt8) (hl : l.length ≤ 4294967296) (p : Nat) (hp : l.length ≤ p) (w : World) :
    Calls Tryz.prog 59 #[.agg #[.int .i64 k, .string ⟨u.toArray⟩, .string ⟨o.toArray⟩, .int .i64 id, .int .i64 a, .int .i64 b, .int .i64 c, .string ⟨st.toArray⟩], .int .i64 2, .string ⟨l.toArray⟩, .int .i64 p] w fun e w' => e = .returned (.tuple #[.agg #[.int .i64 0, .string ⟨#[]⟩, .string ⟨#[]⟩, .int .i64 0, .int .i64 0, .int .i64 0, .int .i64 0, .string ⟨#[]⟩], .int .i64 0, .bool false]) ∧ Below w.heap.size w w' := by
  have ta1 := ta_ns
  have ta2 := ta_ni
  have ta3 := ta_nv
  have b0 := bl_newZ w (.cells #[.int .i64 k, .string ⟨u.toArray⟩, .string ⟨o.toArray⟩, .int .i64 id, .int .i64 a, .int .i64 b, .int .i64 c, .string ⟨st.toArray⟩] 29)
  have b1 := bl_newZ (w.alloc (.cells #[.int .i64 k, .string ⟨u.toArray⟩, .string ⟨o.toArray⟩, .int .i64 id, .int .i64 a, .int .i64 b, .int .i64 c, .string ⟨st.toArray⟩] 29)) (.cells #[.int .i64 0, .string ⟨#[]⟩, .string ⟨#[]⟩, .int .i64 0, .int .i64 0, .int .i64 0, .int .i64 0, .string ⟨#[]⟩] 29)
  have HB := Lib.hid (below2Z b0 b1)
  have E := newQ w (.cells #[.int .i64 k, .string ⟨u.toArray⟩, .string ⟨o.toArray⟩, .int .i64 id, .int .i64 a, .int .i64 b, .int .i64 c, .string ⟨st.toArray⟩] 29)
  replace E := upQ E b1
  replace E := Lib.hid E
  have R := newQ (w.alloc (.cells #[.int .i64 k, .string ⟨u.toArray⟩, .string ⟨o.toArray⟩, .int .i64 id, .int .i64 a, .int .i64 b, .int .i64 c, .string ⟨st.toArray⟩] 29)) (.cells #[.int .i64 0, .string ⟨#[]⟩, .string ⟨#[]⟩, .int .i64 0, .int .i64 0, .int .i64 0, .int .i64 0, .string ⟨#[]⟩] 29)
  rw [World.size_alloc] at R
  replace R := Lib.hid R
  clear b0 b1
  go_enter Tryz.func59, Tryz.ntmps59
  go_wp2_with fail
  refine (rp2_no l hl p hp _).mono ?_
  rintro e w3 ⟨rfl, b3⟩
  replace E := Lib.hid (upQ E.out b3)
  replace R := Lib.hid (upQ R.out b3)
  replace HB := Lib.hid (below2Z HB.out b3)
  clear b3
  obtain ⟨⟨Ec0, Ec1, Ec2, Ec3, Ec4, Ec5, Ec6, Ec7⟩, ⟨Ef0, Ef1, Ef2, Ef3, Ef4, Ef5, Ef6, Ef7⟩⟩ := blk8 E.out
  obtain ⟨⟨Rc0, Rc1, Rc2, Rc3, Rc4, Rc5, Rc6, Rc7⟩, ⟨Rf0, Rf1, Rf2, Rf3, Rf4, Rf5, Rf6, Rf7⟩⟩ := blk8 R.out
  have hE := (Array.getElem?_eq_some_iff.1 E.out).1
  have hR := (Array.getElem?_eq_some_iff.1 R.out).1
  go_wp2_with fail
  refine bodyPost_ret (v := .tuple #[.agg #[.int .i64 0, .string ⟨#[]⟩, .string ⟨#[]⟩, .int .i64 0, .int .i64 0, .int .i64 0, .int .i64 0, .string ⟨#[]⟩], .int .i64 0, .bool false]) (by simp [results, Tryz.results59, go_sem, Rc0, Rc1, Rc2, Rc3, Rc4, Rc5, Rc6, Rc7]) rfl ⟨rfl, ?_⟩
  exact ((((((((HB.out.setCell (Nat.le_succ _) _).setCell (Nat.le_succ _) _).setCell (Nat.le_succ _) _).setCell (Nat.le_succ _) _).setCell (Nat.le_succ _) _).setCell (Nat.le_succ _) _).setCell (Nat.le_succ _) _).setCell (Nat.le_succ _) _)

set_option maxHeartbeats 1600000 in
set_option maxRecDepth 100000 in
theorem tp4_yes (k : Int) (u o st : List UInt8) (id a b c : Int) (l : List UInt8) (hl : l.length ≤ 4294967296) (p : Int) {x y z : Int} {t : List UInt8} {q : Nat} (HT : Hid (vaTake l p = (⟨x, y, z, t⟩, q, 0))) (w : World) :
    Calls Tryz.prog 59 #[.agg #[.int .i64 k, .string ⟨u.toArray⟩, .string ⟨o.toArray⟩, .int .i64 id, .int .i64 a, .int .i64 b, .int .i64 c, .string ⟨st.toArray⟩], .int .i64 4, .string ⟨l.toArray⟩, .int .i64 p] w fun e w' => e = .returned (.tuple #[.agg #[.int .i64 k, .string ⟨u.toArray⟩, .string ⟨o.toArray⟩, .int .i64 id, .int .i64 x, .int .i64 y, .int .i64 z, .string ⟨t.toArray⟩], .int .i64 q, .bool true]) ∧ Below w.heap.size w w' := by
  have ta1 := ta_vs
  have ta2 := ta_vi
  have ta3 := fun v w => ta_same 27 v (by simp) w
  have b0 := bl_newZ w (.cells #[.int .i64 k, .string ⟨u.toArray⟩, .string ⟨o.toArray⟩, .int .i64 id, .int .i64 a, .int .i64 b, .int .i64 c, .string ⟨st.toArray⟩] 29)
  have b1 := bl_newZ (w.alloc (.cells #[.int .i64 k, .string ⟨u.toArray⟩, .string ⟨o.toArray⟩, .int .i64 id, .int .i64 a, .int .i64 b, .int .i64 c, .string ⟨st.toArray⟩] 29)) (.cells #[.int .i64 0, .string ⟨#[]⟩, .string ⟨#[]⟩, .int .i64 0, .int .i64 0, .int .i64 0, .int .i64 0, .string ⟨#[]⟩] 29)
  have HB := Lib.hid (below2Z b0 b1)
  have E := newQ w (.cells #[.int .i64 k, .string ⟨u.toArray⟩, .string ⟨o.toArray⟩, .int .i64 id, .int .i64 a, .int .i64 b, .int .i64 c, .string ⟨st.toArray⟩] 29)
  replace E := upQ E b1
  replace E := Lib.hid E
  have R := newQ (w.alloc (.cells #[.int .i64 k, .string ⟨u.toArray⟩, .string ⟨o.toArray⟩, .int .i64 id, .int .i64 a, .int .i64 b, .int .i64 c, .string ⟨st.toArray⟩] 29)) (.cells #[.int .i64 0, .string ⟨#[]⟩, .string ⟨#[]⟩, .int .i64 0, .int .i64 0, .int .i64 0, .int .i64 0, .string ⟨#[]⟩] 29)
  rw [World.size_alloc] at R
  replace R := Lib.hid R
  clear b0 b1
  go_enter Tryz.func59, Tryz.ntmps59
  go_wp2_with fail
  refine (rp4_yes l hl p HT _).mono ?_
  rintro e w3 ⟨rfl, b3⟩
  replace E := Lib.hid (upQ E.out b3)
  replace R := Lib.hid (upQ R.out b3)
  replace HB := Lib.hid (below2Z HB.out b3)
  clear b3
  obtain ⟨⟨Ec0, Ec1, Ec2, Ec3, Ec4, Ec5, Ec6, Ec7⟩, ⟨Ef0, Ef1, Ef2, Ef3, Ef4, Ef5, Ef6, Ef7⟩⟩ := blk8 E.out
  obtain ⟨⟨Rc0, Rc1, Rc2, Rc3, Rc4, Rc5, Rc6, Rc7⟩, ⟨Rf0, Rf1, Rf2, Rf3, Rf4, Rf5, Rf6, Rf7⟩⟩ := blk8 R.out
  have hE := (Array.getElem?_eq_some_iff.1 E.out).1
  have hR := (Array.getElem?_eq_some_iff.1 R.out).1
  obtain ⟨y0, y1, y2, y3⟩ := four_cells w3 (.int .i64 x) (.int .i64 y) (.int .i64 z) (.string ⟨t.toArray⟩) 27
  have hV : ¬ w3.heap.size = w.heap.size := by omega
  have hV1 : ¬ w3.heap.size = w.heap.size + 1 := by omega
  go_wp2_with fail
  refine bodyPost_ret (v := .tuple #[.agg #[.int .i64 k, .string ⟨u.toArray⟩, .string ⟨o.toArray⟩, .int .i64 id, .int .i64 x, .int .i64 y, .int .i64 z, .string ⟨t.toArray⟩], .int .i64 q, .bool true]) (by simp [results, Tryz.results59, go_sem, Rc0, Rc1, Rc2, Rc3, Rc4, Rc5, Rc6, Rc7, World.cell?_alloc_lt, hR]) rfl ⟨rfl, ?_⟩
  exact (((((((((((((HB.out.setCell (Nat.le_refl _) _).setCell (Nat.le_refl _) _).setCell (Nat.le_refl _) _).setCell (Nat.le_refl _) _).setCell (Nat.le_succ _) _).setCell (Nat.le_succ _) _).setCell (Nat.le_succ _) _).setCell (Nat.le_succ _) _).setCell (Nat.le_succ _) _).setCell (Nat.le_succ _) _).setCell (Nat.le_succ _) _).setCell (Nat.le_succ _) _)).alloc (by simp only [setCell_size]; exact HB.out.size) _

set_option maxHeartbeats 1600000 in
set_option maxRecDepth 100000 in
theorem tp4_no (k : Int) (u o st : List UInt8) (id a b c : Int) (l : List UInt8) (hl : l.length ≤ 4294967296) (p : Int) {x y z : Int} {t : List UInt8} {q er : Nat} (HT : Hid (vaTake l p = (⟨x, y, z, t⟩, q, er))) (he : er ≠ 0) (w : World) :
    Calls Tryz.prog 59 #[.agg #[.int .i64 k, .string ⟨u.toArray⟩, .string ⟨o.toArray⟩, .int .i64 id, .int .i64 a, .int .i64 b, .int .i64 c, .string ⟨st.toArray⟩], .int .i64 4, .string ⟨l.toArray⟩, .int .i64 p] w fun e w' => e = .returned (.tuple #[.agg #[.int .i64 0, .string ⟨#[]⟩, .string ⟨#[]⟩, .int .i64 0, .int .i64 0, .int .i64 0, .int .i64 0, .string ⟨#[]⟩], .int .i64 0, .bool false]) ∧ Below w.heap.size w w' := by
  have ta1 := ta_ns
  have ta2 := ta_ni
  have ta3 := ta_nv
  have b0 := bl_newZ w (.cells #[.int .i64 k, .string ⟨u.toArray⟩, .string ⟨o.toArray⟩, .int .i64 id, .int .i64 a, .int .i64 b, .int .i64 c, .string ⟨st.toArray⟩] 29)
  have b1 := bl_newZ (w.alloc (.cells #[.int .i64 k, .string ⟨u.toArray⟩, .string ⟨o.toArray⟩, .int .i64 id, .int .i64 a, .int .i64 b, .int .i64 c, .string ⟨st.toArray⟩] 29)) (.cells #[.int .i64 0, .string ⟨#[]⟩, .string ⟨#[]⟩, .int .i64 0, .int .i64 0, .int .i64 0, .int .i64 0, .string ⟨#[]⟩] 29)
  have HB := Lib.hid (below2Z b0 b1)
  have E := newQ w (.cells #[.int .i64 k, .string ⟨u.toArray⟩, .string ⟨o.toArray⟩, .int .i64 id, .int .i64 a, .int .i64 b, .int .i64 c, .string ⟨st.toArray⟩] 29)
  replace E := upQ E b1
  replace E := Lib.hid E
  have R := newQ (w.alloc (.cells #[.int .i64 k, .string ⟨u.toArray⟩, .string ⟨o.toArray⟩, .int .i64 id, .int .i64 a, .int .i64 b, .int .i64 c, .string ⟨st.toArray⟩] 29)) (.cells #[.int .i64 0, .string ⟨#[]⟩, .string ⟨#[]⟩, .int .i64 0, .int .i64 0, .int .i64 0, .int .i64 0, .string ⟨#[]⟩] 29)
  rw [World.size_alloc] at R
  replace R := Lib.hid R
  clear b0 b1
  go_enter Tryz.func59, Tryz.ntmps59
  go_wp2_with fail
  refine (rp4_no l hl p HT he _).mono ?_
  rintro e w3 ⟨rfl, b3⟩
  replace E := Lib.hid (upQ E.out b3)
  replace R := Lib.hid (upQ R.out b3)
  replace HB := Lib.hid (below2Z HB.out b3)
  clear b3
  obtain ⟨⟨Ec0, Ec1, Ec2, Ec3, Ec4, Ec5, Ec6, Ec7⟩, ⟨Ef0, Ef1, Ef2, Ef3, Ef4, Ef5, Ef6, Ef7⟩⟩ := blk8 E.out
  obtain ⟨⟨Rc0, Rc1, Rc2, Rc3, Rc4, Rc5, Rc6, Rc7⟩, ⟨Rf0, Rf1, Rf2, Rf3, Rf4, Rf5, Rf6, Rf7⟩⟩ := blk8 R.out
  have hE := (Array.getElem?_eq_some_iff.1 E.out).1
  have hR := (Array.getElem?_eq_some_iff.1 R.out).1
  go_wp2_with fail
  refine bodyPost_ret (v := .tuple #[.agg #[.int .i64 0, .string ⟨#[]⟩, .string ⟨#[]⟩, .int .i64 0, .int .i64 0, .int .i64 0, .int .i64 0, .string ⟨#[]⟩], .int .i64 0, .bool false]) (by simp [results, Tryz.results59, go_sem, Rc0, Rc1, Rc2, Rc3, Rc4, Rc5, Rc6, Rc7]) rfl ⟨rfl, ?_⟩
  exact ((((((((HB.out.setCell (Nat.le_succ _) _).setCell (Nat.le_succ _) _).setCell (Nat.le_succ _) _).setCell (Nat.le_succ _) _).setCell (Nat.le_succ _) _).setCell (Nat.le_succ _) _).setCell (Nat.le_succ _) _).setCell (Nat.le_succ _) _)

end Go.Proofs.YthfkfonfiejbmaaGreat

end
