/-
  THE CONTRACTS OF varint.Get, Take AND OF THE DOCUMENT'S ANSWERS TO THEM.
-/
import Derived.Test.YthfkfonfiejbmaaVarPut
namespace Go.Proofs.Ythfkfonfiejbmaa
open Go.RowKit

/-- Three results: number, place, error. -/
def triple (r : Nat × Nat × Nat) : Value := .tuple #[.int .u64 r.1, .int .i64 r.2.1, .int .i64 r.2.2]

/-- What holds at each jump back. -/
def GetJ (l : List UInt8) (q : Nat) (w : World) (a' : Act) (w' : World) : Prop := w' = w ∧ ∃ (i acc p sh : Nat) (u10 u11 u12 u13 u14 u15 u16 u17 u18 u19 u20 u21 u22 u23 u24 u25 u26 u27 u28 u29 u30 u31 u32 u33 u34 u35 u36 u37 u38 u39 u40 u41 u42 u43 u44 u45 u46 u47 u48 u49 u50 u51 u52 u53 u54 u55 u56 : Value), i ≤ 9 ∧ 1 ≤ i ∧ p ≤ l.length ∧ Hid (GetAt l q i acc p sh) ∧
      a' = { tmps := #[.string ⟨l.toArray⟩, .int .i64 q, undef, undef, .int .u64 0, .int .i64 0, .int .i64 0, .int .u64 acc, .int .u64 sh, .int .i64 p, u10, u11, u12, u13, u14, u15, u16, u17, u18, u19, u20, u21, u22, u23, u24, u25, u26, u27, u28, u29, u30, u31, u32, u33, u34, u35, u36, u37, u38, u39, u40, u41, u42, u43, u44, u45, u46, u47, u48, u49, u50, u51, u52, u53, u54, u55, u56], defers := [] }

def GetM (l : List UInt8) (a' : Act) (_ : World) : Nat := l.length - (intOf (a'.tmps.getD 9 undef)).toNat

set_option maxHeartbeats 400000 in
set_option maxRecDepth 1000000 in
theorem get_in (l : List UInt8) (hl : l.length ≤ 4294967296) (q : Nat) (hq : q ≤ l.length) (w : World) :
    Calls Try.prog 68 #[.string ⟨l.toArray⟩, .int .i64 q] w fun e w' => e = .returned (triple (vget l q)) ∧ w = w' := by
  go_enter Try.func68, Try.ntmps68
  go_wp2
  refine wp_scope_jumps 0 (GetJ l q w) (GetM l) rfl ?_ ?_
  · have Hall := Lib.hid (getAt_start l q)
    by_cases hend : q = l.length
    · have t1 : ((q : Int) == (l.length : Int)) = true := by rw [hend]; simp
      have HR := Lib.hid (getAt_end Hall.out hq hend)
      clear hend
      go_wp2
      go_step3
      go_wp2
      simp only [Exit.jump]
      go_ret3
      exact ⟨by rw [HR.out]; rfl, rfl⟩
    · have t1 : ((q : Int) == (l.length : Int)) = false := by simp; omega
      have hlt : q < l.length := by omega
      have hlt' : q < (⟨l.toArray⟩ : ByteArray).size := by show _ < l.toArray.size; simpa using hlt
      obtain ⟨b, hb⟩ : ∃ b : UInt8, (⟨l.toArray⟩ : ByteArray)[q]'hlt' = b := ⟨_, rfl⟩
      have HB : Hid (l[q]? = some b) := by rw [← hb]; exact bytes_at l q hlt'
      have h256 := b.toNat_lt
      have t5 := andNot128 b.toNat (by omega)
      have t6 := or0 (b.toNat % 128) (by omega)
      obtain ⟨x, hx⟩ : ∃ x, x = b.toNat % 128 := ⟨_, rfl⟩
      have hxl : x < 128 := by omega
      rw [← hx] at t5 t6
      have HX := Lib.hid hx
      clear hx hend
      by_cases h0 : b.toNat < 128
      · have t4 := and128_no (by omega) h0
        have HR := Lib.hid (getAt_last Hall.out hq HB.out (by omega) h0 (by omega))
        have Hf : Hid (0 + b.toNat % 128 * 128 ^ 0 = x) := by show _ = _; rw [← HX.out]; simp
        clear h0
        by_cases hz : b.toNat = 0
        · have t7 : ((b.toNat : Int) == 0) = true := by simp; omega
          clear hz
          go_wp2
          go_step3
          go_wp2
          simp only [Exit.jump]
          go_ret3
          exact ⟨by rw [HR.out, Hf.out]; rfl, rfl⟩
        · have t7 : ((b.toNat : Int) == 0) = false := by simp; omega
          clear hz
          go_wp2
          go_step3
          go_wp2
          simp only [Exit.jump]
          go_ret3
          exact ⟨by rw [HR.out, Hf.out]; rfl, rfl⟩
      · have t4 := and128_yes (by omega) h0
        have HN := Lib.hid (getAt_next Hall.out HB.out (by omega) h0)
        have Hf : Hid (0 + b.toNat % 128 * 128 ^ 0 = x) := by show _ = _; rw [← HX.out]; simp
        clear h0
        go_wp2
        go_step3
        go_wp2
        go_step3
        exact ⟨rfl, rfl, 1, x, q + 1, 7, _, _, _, _, _, _, _, _, _, _, _, _, _, _, _, _, _, _, _, _, _, _, _, _, _, _, _, _, _, _, _, _, _, _, _, _, _, _, _, _, _, _, _, _, _, _, _, by omega, by omega, by omega, by rw [← Hf.out]; exact HN.out, rfl⟩
  · rintro a' w' ⟨rfl, i, acc, p, sh, u10, u11, u12, u13, u14, u15, u16, u17, u18, u19, u20, u21, u22, u23, u24, u25, u26, u27, u28, u29, u30, u31, u32, u33, u34, u35, u36, u37, u38, u39, u40, u41, u42, u43, u44, u45, u46, u47, u48, u49, u50, u51, u52, u53, u54, u55, u56, hi9, hi1, hpl, Hall, rfl⟩
    by_cases hend : p = l.length
    · have t1 : ((p : Int) == (l.length : Int)) = true := by rw [hend]; simp
      have R := getAt_end Hall.out hq hend
      have HR := Lib.hid R
      clear hend R
      go_wp2
      simp only [Exit.jump]
      go_ret3
      exact ⟨by rw [HR.out]; rfl, rfl⟩
    · have t1 : ((p : Int) == (l.length : Int)) = false := by simp; omega
      have hlt : p < l.length := by omega
      have hlt' : p < (⟨l.toArray⟩ : ByteArray).size := by show _ < l.toArray.size; simpa using hlt
      obtain ⟨b, hb⟩ : ∃ b : UInt8, (⟨l.toArray⟩ : ByteArray)[p]'hlt' = b := ⟨_, rfl⟩
      have HB : Hid (l[p]? = some b) := by rw [← hb]; exact bytes_at l p hlt'
      have h256 := b.toNat_lt
      clear hend
      by_cases h91 : i = 9 ∧ 1 < b.toNat
      · have t2 : ((sh : Int) == 63) = true := by have := Hall.out.2.2.1; simp; omega
        have t3 : (1 : Int) < b.toNat := by omega
        have HR := Lib.hid (getAt_form Hall.out hq HB.out (.inl h91))
        clear h91
        go_wp2
        simp only [Exit.jump]
        go_ret3
        exact ⟨by rw [HR.out]; rfl, rfl⟩
      · have H91 := Lib.hid h91
        clear h91
        have t5 := andNot128 b.toNat (by omega)
        have t6 := orShift' acc (b.toNat % 128) i sh Hall.out.2.2.1 Hall.out.1 (by omega) hi9 (fun h => by have := H91.out; omega)
        have hs := sum_lt acc (b.toNat % 128) i Hall.out.1 (by omega) hi9 (fun h => by have := H91.out; omega)
        obtain ⟨acc', Hacc'⟩ : ∃ acc', Hid (acc' = acc + b.toNat % 128 * 128 ^ i) := ⟨_, rfl⟩
        rw [← Hacc'.out] at t6 hs
        obtain ⟨x, hx⟩ : ∃ x, x = b.toNat % 128 := ⟨_, rfl⟩
        rw [← hx] at t5 t6
        have HX := Lib.hid hx
        clear hx
        have hsh : sh ≤ 63 := by have := Hall.out.2.2.1; omega
        by_cases h0 : b.toNat < 128
        · have t4 := and128_no (by omega) h0
          by_cases hz : b.toNat = 0
          · have t7 : ((b.toNat : Int) == 0) = true := by simp; omega
            have t8 : ((p : Int) + 1 != (q : Int) + 1) = true := by have := Hall.out.2.1; simp; omega
            have HR := Lib.hid (getAt_form Hall.out hq HB.out (.inr ⟨h0, hz, by omega⟩))
            clear hz h0
            by_cases h9 : i = 9
            · have t2 : ((sh : Int) == 63) = true := by have := Hall.out.2.2.1; simp; omega
              have t3 : ¬ (1 : Int) < b.toNat := by have := H91.out; omega
              clear h9
              go_wp2
              simp only [Exit.jump]
              go_ret3
              exact ⟨by rw [HR.out]; rfl, rfl⟩
            · have t2 : ((sh : Int) == 63) = false := by have := Hall.out.2.2.1; simp; omega
              clear h9
              go_wp2
              simp only [Exit.jump]
              go_ret3
              exact ⟨by rw [HR.out]; rfl, rfl⟩
          · have t7 : ((b.toNat : Int) == 0) = false := by simp; omega
            have HR := Lib.hid (getAt_last Hall.out hq HB.out H91.out h0 (by omega))
            clear hz h0
            by_cases h9 : i = 9
            · have t2 : ((sh : Int) == 63) = true := by have := Hall.out.2.2.1; simp; omega
              have t3 : ¬ (1 : Int) < b.toNat := by have := H91.out; omega
              clear h9
              go_wp2
              simp only [Exit.jump]
              go_ret3
              exact ⟨by rw [HR.out, ← Hacc'.out]; rfl, rfl⟩
            · have t2 : ((sh : Int) == 63) = false := by have := Hall.out.2.2.1; simp; omega
              clear h9
              go_wp2
              simp only [Exit.jump]
              go_ret3
              exact ⟨by rw [HR.out, ← Hacc'.out]; rfl, rfl⟩
        · have t4 := and128_yes (by omega) h0
          have hi8 : i ≤ 8 := by have := H91.out; omega
          have t2 : ((sh : Int) == 63) = false := by have := Hall.out.2.2.1; simp; omega
          have HN := Lib.hid (getAt_next Hall.out HB.out H91.out h0)
          clear h0
          go_wp2
          go_step3
          refine ⟨rfl, ⟨rfl, i + 1, acc', p + 1, sh + 7, _, _, _, _, _, _, _, _, _, _, _, _, _, _, _, _, _, _, _, _, _, _, _, _, _, _, _, _, _, _, _, _, _, _, _, _, _, _, _, _, _, _, _, _, _, _, _, by omega, by omega, by omega, by rw [Hacc'.out]; exact HN.out, rfl⟩, ?_⟩
          simp [GetM, intOf]
          omega

theorem vget_out {l : List UInt8} {p : Int} (h : p < 0 ∨ (l.length : Int) < p) : vget l p = (0, 0, 1) := by
  unfold vget
  rw [if_pos h]

set_option maxHeartbeats 400000 in
set_option maxRecDepth 1000000 in
theorem get_any (l : List UInt8) (hl : l.length ≤ 4294967296) (p : Int) (w : World) :
    Calls Try.prog 68 #[.string ⟨l.toArray⟩, .int .i64 p] w fun e w' => e = .returned (triple (vget l p)) ∧ w = w' := by
  by_cases h : p < 0 ∨ (l.length : Int) < p
  · rw [vget_out h]
    by_cases h1 : p < 0
    · clear h
      go_enter Try.func68, Try.ntmps68
      go_wp2
      go_step3
      go_wp2
      rw [Exit.noGoto_ret]
      go_ret3
      exact ⟨rfl, rfl⟩
    · have h2 : (l.length : Int) < p := by omega
      clear h
      go_enter Try.func68, Try.ntmps68
      go_wp2
      go_step3
      go_wp2
      rw [Exit.noGoto_ret]
      go_ret3
      exact ⟨rfl, rfl⟩
  · obtain ⟨q, rfl⟩ := Int.eq_ofNat_of_zero_le (show 0 ≤ p by omega)
    exact get_in l hl q (by omega) w

end Go.Proofs.Ythfkfonfiejbmaa
