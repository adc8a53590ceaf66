/-
  THE CONTRACTS OF crc.Sum (with each, and the register's step), AND OF THE DOCUMENT'S ANSWER TO Sum.
-/
import Derived.Test.YthfkfonfiejbmaaCrcStep
namespace Go.Proofs.Ythfkfonfiejbmaa
open Go.RowKit

theorem step_eq (c b : Nat) (hc : c < 4294967296) (hb : b < 256) {d : Nat} (h : Hid (cstep c b = d)) (w : World) :
    Calls Try.prog 72 #[.int .u32 c, .int .u8 b] w fun e w' => e = .returned (.int .u32 d) ∧ w = w' := by
  have := step_any c b hc hb w
  rwa [h.out] at this

set_option maxHeartbeats 400000 in
set_option maxRecDepth 100000 in
theorem rstep_method (B c b : Nat) (hc : c < 4294967296) (hb : b < 256) (w : World) (hcell : w.cell? ⟨B, 0, none⟩ = some (.int .u32 c)) (hfr : w.frozen? ⟨B, 0, none⟩ = false) :
    Calls Try.prog 66 #[.pointer (some ⟨B, 0, none⟩), .int .u8 b] w fun e w' => e = .returned (.tuple #[]) ∧ w.setCell ⟨B, 0, none⟩ (.int .u32 (cstep c b)) = w' := by
  have HS : Hid (cstep c b = cstep c b) := rfl
  go_enter Try.func66, Try.ntmps66
  go_wp2_with fail
  refine (step_any c b hc hb _).mono ?_
  rintro e w' ⟨rfl, rfl⟩
  go_wp2_with fail
  go_end0
  exact ⟨rfl, rfl⟩

set_option maxHeartbeats 400000 in
set_option maxRecDepth 100000 in
theorem each_any (B c : Nat) (l : List UInt8) (hl : l.length ≤ 4294967296) (hc : c < 4294967296) (w : World) (hcell : w.cell? ⟨B, 0, none⟩ = some (.int .u32 c)) (hfr : w.frozen? ⟨B, 0, none⟩ = false) :
    Calls Try.prog 65 #[.string ⟨l.toArray⟩, .func (Fn.func 66) #[.pointer (some ⟨B, 0, none⟩)] #[]] w fun e w' =>
      e = .returned (.tuple #[]) ∧ w'.cell? ⟨B, 0, none⟩ = some (.int .u32 (cfold c l)) ∧ Below B w w' := by
  have HC := Lib.hid hcell
  have HF := Lib.hid hfr
  clear hcell hfr
  go_enter Try.func65, Try.ntmps65
  go_wp2_with fail
  go_loopw [7] (fun i wr => ∃ k : Nat, k ≤ l.length ∧ i = .int .i64 k ∧ Hid (wr.cell? ⟨B, 0, none⟩ = some (.int .u32 (cfold c (l.take k)))) ∧ Hid (wr.frozen? ⟨B, 0, none⟩ = false) ∧ Below B w wr) (fun i _ => l.length - (intOf i).toNat)
  case atStart => exact ⟨0, by omega, rfl, HC, HF, Below.refl _ _⟩
  case round =>
    obtain ⟨k, hk, rfl, HC', HF', hnx⟩ := hrel
    by_cases hlt : k < l.length
    · have hlt' : k < (⟨l.toArray⟩ : ByteArray).size := by rw [size_bytes]; exact hlt
      obtain ⟨b, hb⟩ : ∃ b : UInt8, (⟨l.toArray⟩ : ByteArray)[k]'hlt' = b := ⟨_, rfl⟩
      have HB : Hid (l[k]? = some b) := by rw [← hb]; exact bytes_at l k hlt'
      have hN : Hid (cfold c (l.take (k + 1)) = cstep (cfold c (l.take k)) b.toNat) := by
        show _ = _
        obtain ⟨h1, h2⟩ := List.getElem?_eq_some_iff.1 HB.out
        rw [List.take_succ_eq_append_getElem h1, h2, cfold_append]
        rfl
      have hd := cfold_lt (l.take k) hc
      have h256 := b.toNat_lt
      obtain ⟨d, hd'⟩ : ∃ d, d = cfold c (l.take k) := ⟨_, rfl⟩
      rw [← hd'] at hd hN HC'
      clear hd'
      go_wp2_with fail
      refine (rstep_method B d b.toNat hd (by omega) _ HC'.out HF'.out).mono ?_
      rintro e w1 ⟨rfl, rfl⟩
      go_wp2_with fail
      go_roundw
      case rel => exact ⟨k + 1, by omega, by go_num, by show _ = _; rw [hN.out]; exact World.cell?_setCell_same _ _ _ HC'.out, (World.frozen?_setCell _ _ _ _).trans HF'.out, hnx.setCell (Nat.le_refl _) _⟩
      case measure => simp [intOf]; omega
    · obtain rfl : k = l.length := by omega
      have hfull : l.take l.length = l := List.take_length
      rw [hfull] at HC'
      clear hfull
      go_wp2_with fail
      go_end0
      exact ⟨rfl, HC'.out, hnx⟩

set_option maxHeartbeats 400000 in
set_option maxRecDepth 100000 in
theorem sum_any (l : List UInt8) (hl : l.length ≤ 4294967296) (w : World) :
    Calls Try.prog 46 #[.string ⟨l.toArray⟩] w fun e w' => e = .returned (.int .u32 (csum l)) ∧ Below w.heap.size w w' := by
  have hmf : ∀ (fn : Fn) (first cap : Array Value) (w : World), (Instr.makeFunc fn first cap).run Try.prog w = .ok (.func fn first cap) w := fun _ _ _ _ => rfl
  have hd := cfold_lt l (show 4294967295 < 4294967296 by decide)
  have hx : bits .xor .u32 ((cfold 4294967295 l : Nat) : Int) 4294967295 = ((csum l : Nat) : Int) := xor_u32 _ 4294967295 hd (by decide)
  have hc0 : (w.alloc (.cells #[.int .u32 4294967295] 88)).cell? ⟨w.heap.size, 0, none⟩ = some (.int .u32 4294967295) := by
    rw [World.cell?_alloc_at _ _ _ _ rfl]; rfl
  have hf0 : (w.alloc (.cells #[.int .u32 4294967295] 88)).frozen? ⟨w.heap.size, 0, none⟩ = false := World.frozen?_alloc_at _ _ _ _ rfl
  go_enter Try.func46, Try.ntmps46
  go_wp2_with fail
  refine (each_any w.heap.size 4294967295 l hl (by decide) _ hc0 hf0).mono ?_
  rintro e w1 ⟨rfl, hc1, hb1⟩
  go_wp2_with fail
  go_ret
  exact ⟨rfl, ((Below.refl _ _).alloc (Nat.le_refl _) _).trans hb1⟩

set_option maxHeartbeats 400000 in
set_option maxRecDepth 100000 in
theorem rsum_any (l : List UInt8) (hl : l.length ≤ 4294967296) (w : World) :
    Calls Try.prog 28 #[.string ⟨l.toArray⟩] w fun e w' => e = .returned (.int .u32 (csum l)) ∧ w = w' := by
  have hd := cfold_lt l (show 4294967295 < 4294967296 by decide)
  have hx : bits .xor .u32 ((cfold 4294967295 l : Nat) : Int) 4294967295 = ((csum l : Nat) : Int) := xor_u32 _ 4294967295 hd (by decide)
  have HX := Lib.hid hx
  clear hx hd
  go_enter Try.func28, Try.ntmps28
  go_wp2_with fail
  go_loop [3, 4] (fun v i => ∃ k d : Nat, k ≤ l.length ∧ d < 4294967296 ∧ i = .int .i64 k ∧ v = .int .u32 d ∧ Hid (d = cfold 4294967295 (l.take k))) (fun _ i => l.length - (intOf i).toNat)
  case atStart => exact ⟨0, 4294967295, by omega, by decide, rfl, rfl, rfl⟩
  case round =>
    obtain ⟨k, d, hk, hd, rfl, rfl, HD⟩ := hrel
    by_cases hlt : k < l.length
    · have hlt' : k < (⟨l.toArray⟩ : ByteArray).size := by rw [size_bytes]; exact hlt
      obtain ⟨b, hb⟩ : ∃ b : UInt8, (⟨l.toArray⟩ : ByteArray)[k]'hlt' = b := ⟨_, rfl⟩
      have HB : Hid (l[k]? = some b) := by rw [← hb]; exact bytes_at l k hlt'
      have hN : Hid (cstep d b.toNat = cfold 4294967295 (l.take (k + 1))) := by
        show _ = _
        obtain ⟨h1, h2⟩ := List.getElem?_eq_some_iff.1 HB.out
        rw [List.take_succ_eq_append_getElem h1, h2, cfold_append, HD.out]
        rfl
      have h256 := b.toNat_lt
      have hl2 := cstep_lt hd (show b.toNat < 4294967296 by omega)
      go_wp2_with fail
      refine (rstep_any d b.toNat hd (by omega) _).mono ?_
      rintro e w1 ⟨rfl, rfl⟩
      go_wp2_with fail
      go_round
      case rel => exact ⟨k + 1, cstep d b.toNat, by omega, hl2, by go_num, rfl, hN⟩
      case measure => simp [intOf]; omega
    · obtain rfl : k = l.length := by omega
      have hx2 : bits .xor .u32 (d : Int) 4294967295 = ((csum l : Nat) : Int) := by
        have h1 := HX.out
        have h2 := HD.out
        rw [List.take_length] at h2
        rwa [← h2] at h1
      clear HX
      go_wp2_with fail
      go_ret
      exact ⟨rfl, rfl⟩

end Go.Proofs.Ythfkfonfiejbmaa
