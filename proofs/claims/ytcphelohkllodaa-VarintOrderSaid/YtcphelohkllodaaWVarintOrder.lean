/-
  THE WALK OF VarintOrder, out of the contracts.
-/
import Derived.Test.YtcphelohkllodaaVarLive
import Derived.OpenShut
namespace Go.Proofs.Ytcphelohkllodaa
open Go.RowKit

set_option maxHeartbeats 400000 in
set_option maxRecDepth 1000000 in
theorem walkVarintOrder (a : Int) (ha : (Lit.int .u64 a).wf = true) (b : Int) (hb : (Lit.int .u64 b).wf = true) (w : World) :
    Calls Try.prog 7 #[.int .u64 a, .int .u64 b] w fun e w' => e = .returned (.bool true) ∧ Below w.heap.size w w' := by
  have ha' := bounds_u64 ha
  have hb' := bounds_u64 hb
  obtain ⟨x, rfl⟩ := Int.eq_ofNat_of_zero_le ha'.1
  obtain ⟨y, rfl⟩ := Int.eq_ofNat_of_zero_le hb'.1
  have hx : x < 18446744073709551616 := by omega
  have hy : y < 18446744073709551616 := by omega
  clear ha' hb' ha hb
  have lx := vput_len_le x
  have ly := vput_len_le y
  have px := vput_len_pos x
  have py := vput_len_pos y
  have hmono1 : x < y → (vput x).length ≤ (vput y).length := fun h => vput_mono (Nat.le_of_lt h)
  have hmono2 : y < x → (vput y).length ≤ (vput x).length := fun h => vput_mono (Nat.le_of_lt h)
  have hinj : x ≠ y → vput x ≠ vput y := fun h h' => h (vput_inj hx hy h')
  have hpre : x ≠ y → (vput y).take (vput x).length ≠ vput x := fun h h' => h (vput_prefix hx hy (r := (vput y).drop (vput x).length) (by
    conv => rhs; lhs; rw [← h']
    rw [List.take_append_drop]))
  have hp := put_any x hx
  have hq := put_any y hy
  generalize hs : vput x = s at *
  generalize ht : vput y = t at *
  have HP := Lib.hid hp
  have HQ := Lib.hid hq
  have HS := Lib.hid hs
  have HT := Lib.hid ht
  clear hp hq hs ht
  by_cases hxy : x = y
  · have hst : s = t := by rw [← HS.out, ← HT.out, hxy]
    subst hst
    subst hxy
    clear HS HT hmono1 hmono2 hinj hpre
    go_enter Try.func7, Try.ntmps7
    go_wp2_with fail
    refine (HP.out _).mono ?_
    rintro e w1 ⟨rfl, hb1⟩
    go_wp2_with fail
    refine (HQ.out _).mono ?_
    rintro e w2 ⟨rfl, hb2⟩
    go_wp2_with fail
    refine (live1 _).mono ?_
    rintro e w3 ⟨rfl, hb3⟩
    go_wp2_with fail
    go_ret
    exact ⟨rfl, below3 hb1 hb2 hb3⟩
  · have t1 : ((x : Int) == (y : Int)) = false := by simp; omega
    have t2 : (s == t) = false := by simpa using hinj hxy
    have hpre' := hpre hxy
    clear HS HT hinj hpre
    by_cases hlt : x < y
    · have hle := hmono1 hlt
      have t3 : ((x : Int) < (y : Int)) := by omega
      clear hmono1 hmono2 hxy hlt
      by_cases hl : s.length < t.length
      · have t4 : ¬ t.length ≤ s.length := by omega
        have t5 : (t.take s.length == s) = false := by simpa using hpre'
        have hsl := fun w => run_slice_bytes_to (P := Try.prog) w 9 t s.length s.length rfl Try.underlying9 (by omega)
        clear hpre'
        go_enter Try.func7, Try.ntmps7
        go_wp2_with fail
        refine (HP.out _).mono ?_
        rintro e w1 ⟨rfl, hb1⟩
        go_wp2_with fail
        refine (HQ.out _).mono ?_
        rintro e w2 ⟨rfl, hb2⟩
        go_wp2_with fail
        refine (live1 _).mono ?_
        rintro e w3 ⟨rfl, hb3⟩
        go_wp2_with fail
        go_ret
        exact ⟨rfl, below3 hb1 hb2 hb3⟩
      · have t4 : t.length ≤ s.length := by omega
        clear hpre'
        go_enter Try.func7, Try.ntmps7
        go_wp2_with fail
        refine (HP.out _).mono ?_
        rintro e w1 ⟨rfl, hb1⟩
        go_wp2_with fail
        refine (HQ.out _).mono ?_
        rintro e w2 ⟨rfl, hb2⟩
        go_wp2_with fail
        refine (live1 _).mono ?_
        rintro e w3 ⟨rfl, hb3⟩
        go_wp2_with fail
        go_ret
        exact ⟨rfl, below3 hb1 hb2 hb3⟩
    · have t4 := hmono2 (by omega)
      have t3 : ¬ ((x : Int) < (y : Int)) := by omega
      clear hmono1 hmono2 hxy hlt hpre'
      go_enter Try.func7, Try.ntmps7
      go_wp2_with fail
      refine (HP.out _).mono ?_
      rintro e w1 ⟨rfl, hb1⟩
      go_wp2_with fail
      refine (HQ.out _).mono ?_
      rintro e w2 ⟨rfl, hb2⟩
      go_wp2_with fail
      refine (live1 _).mono ?_
      rintro e w3 ⟨rfl, hb3⟩
      go_wp2_with fail
      go_ret
      exact ⟨rfl, below3 hb1 hb2 hb3⟩

end Go.Proofs.Ytcphelohkllodaa
