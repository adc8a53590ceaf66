/-
  THE WALK OF VarintLists, out of the contracts.
-/
import Derived.Test.YtcphelohkllodaaVarLive
import Derived.OpenShut
namespace Go.Proofs.Ytcphelohkllodaa
open Go.RowKit
attribute [local go_sem] ByteArray.mk_append_mk

set_option maxHeartbeats 800000 in
set_option maxRecDepth 1000000 in
theorem listsSome (b off len cap : Nat) (ns : List Nat) (hl : ns.length = len) (h50 : len ≤ 50) (h0 : 0 < len) (hns : ∀ i, i < len → ns.getD i 0 < 18446744073709551616) (w : World) (hbw : b < w.heap.size)
    (hcell : ∀ i, i < len → w.cell? ⟨b, off + i, none⟩ = some (.int .u64 (ns.getD i 0))) :
    Calls Try.prog 8 #[.slice (some ⟨b, off, none⟩) len cap] w fun e w' => e = .returned (.bool true) ∧ Below w.heap.size w w' := by
  have HC := Lib.hid hcell
  have HN := Lib.hid hns
  have HL := Lib.hid hl
  clear hcell hns hl
  go_enter Try.func8, Try.ntmps8
  go_wp2_with fail
  go_loopw [3, 4] (fun s i wr => ∃ k : Nat, k ≤ len ∧ i = .int .i64 k ∧ s = .string ⟨(vflat (ns.take k)).toArray⟩ ∧ Below w.heap.size w wr) (fun _ i _ => len - (intOf i).toNat)
  case atStart => exact ⟨0, by omega, rfl, rfl, Below.refl _ _⟩
  case round =>
    obtain ⟨k, hk, rfl, rfl, hnx⟩ := hrel
    by_cases hlt : k < len
    · have hc := (hnx.cell (p := ⟨b, off + k, none⟩) hbw).trans (HC.out k hlt)
      have hn := HN.out k hlt
      have hlen := vflat_len (ns.take k)
      have hlen2 : (ns.take k).length ≤ 50 := by simp; omega
      have hvl := vput_len_le (ns.getD k 0)
      have HS := Lib.hid (vflat_succ ns k (by rw [HL.out]; exact hlt))
      obtain ⟨n, hn'⟩ : ∃ n, n = ns.getD k 0 := ⟨_, rfl⟩
      rw [← hn'] at hc hn hvl HS
      obtain ⟨t, ht⟩ : ∃ t, t = vflat (ns.take k) := ⟨_, rfl⟩
      rw [← ht] at hlen HS
      have HT := Lib.hid ht
      have HN' := Lib.hid hn'
      rw [← ht]
      clear ht hn'
      go_wp2_with fail
      refine (put_any n hn _).mono ?_
      rintro e w1 ⟨rfl, hb1⟩
      go_wp2_with fail
      go_roundw
      case rel => exact ⟨k + 1, by omega, by go_num, by rw [HS.out], below2' hnx hb1⟩
      case measure => simp [intOf]; omega
    · have hkl : len ≤ k := by omega
      obtain rfl : k = len := by omega
      have hfull : ns.take k = ns := List.take_of_length_le (by rw [HL.out]; exact Nat.le_refl _)
      rw [hfull]
      have hfl := vflat_len ns
      rw [HL.out] at hfl
      clear hfull hlt hk
      go_wp2_with fail
      obtain ⟨wo, hwo⟩ : ∃ wo : World, wo = wr := ⟨_, rfl⟩
      subst hwo
      go_loop [5, 6] (fun p i => ∃ j : Nat, j ≤ k ∧ i = .int .i64 j ∧ p = .int .i64 (vflat (ns.take j)).length) (fun _ i => k - (intOf i).toNat)
      case atStart => exact ⟨0, by omega, rfl, rfl⟩
      case round =>
        obtain ⟨j, hj, rfl, rfl⟩ := hrel
        by_cases hlt : j < k
        · have hc := (hnx.cell (p := ⟨b, off + j, none⟩) hbw).trans (HC.out j hlt)
          have hn := HN.out j hlt
          have HG := Lib.hid (vget_flat ns j (by rw [HL.out]; exact hlt) hn)
          have hsz : Hid ((vflat (ns.take (j + 1))).length = (vflat (ns.take j)).length + (vput (ns.getD j 0)).length) := by
            show _ = _
            rw [vflat_succ ns j (by rw [HL.out]; exact hlt)]; simp
          have hle : (vflat (ns.take (j + 1))).length ≤ (vflat ns).length := by
            rw [vflat_split ns j (by rw [HL.out]; exact hlt), vflat_succ ns j (by rw [HL.out]; exact hlt)]; simp
          have HZ := size_any (ns.getD j 0) hn
          obtain ⟨n, hn'⟩ : ∃ n, n = ns.getD j 0 := ⟨_, rfl⟩
          obtain ⟨p, hp⟩ : ∃ p, p = (vflat (ns.take j)).length := ⟨_, rfl⟩
          obtain ⟨q, hq⟩ : ∃ q, q = (vflat (ns.take (j + 1))).length := ⟨_, rfl⟩
          obtain ⟨z, hz⟩ : ∃ z, z = (vput (ns.getD j 0)).length := ⟨_, rfl⟩
          rw [← hz, ← hn'] at HZ
          rw [← hn'] at hc hn HG
          rw [← hp, ← hq, ← hz] at hsz
          rw [← hp, ← hq] at HG
          rw [← hq] at hle
          have HZ' := Lib.hid HZ
          have HQ := Lib.hid hq
          rw [← hp]
          have hqz : (q : Int) - (p : Int) = (z : Int) := by have := hsz.out; omega
          clear hp hz hn' hq HZ
          go_wp2_with fail
          refine (get_eq (vflat ns) (by omega) p _ HG).mono ?_
          rintro e w' ⟨rfl, rfl⟩
          go_wp2_with fail
          refine (HZ'.out _).mono ?_
          rintro e w' ⟨rfl, rfl⟩
          go_wp2_with fail
          go_round
          case rel => exact ⟨j + 1, by omega, by go_num, by rw [HQ.out]⟩
          case measure => simp [intOf]; omega
        · have hkl : k ≤ j := by omega
          obtain rfl : j = k := by omega
          have hfull : ns.take j = ns := List.take_of_length_le (by rw [HL.out]; exact Nat.le_refl _)
          rw [hfull]
          clear hfull hlt
          go_wp2_with fail
          refine (get_eq (vflat ns) (by omega) _ _ (vget_end _)).mono ?_
          rintro e w' ⟨rfl, rfl⟩
          go_wp2_with fail
          refine (live1 _).mono ?_
          rintro e w3 ⟨rfl, hb3⟩
          go_wp2_with fail
          go_ret
          exact ⟨rfl, below2' hnx hb3⟩

set_option maxHeartbeats 800000 in
set_option maxRecDepth 1000000 in
theorem listsNone (a : Option Addr) (cap : Nat) (w : World) :
    Calls Try.prog 8 #[.slice a 0 cap] w fun e w' => e = .returned (.bool true) ∧ Below w.heap.size w w' := by
  go_enter Try.func8, Try.ntmps8
  go_wp2_with fail
  refine wp_loop_rounds 1 ?_
  rw [rounds_succ]
  go_wp2_with fail
  refine wp_loop_rounds 1 ?_
  rw [rounds_succ]
  go_wp2_with fail
  refine (get_eq [] (by decide) _ _ (vget_end _)).mono ?_
  rintro e w' ⟨rfl, rfl⟩
  go_wp2_with fail
  refine (live1 _).mono ?_
  rintro e w3 ⟨rfl, hb3⟩
  go_wp2_with fail
  go_ret
  exact ⟨rfl, hb3⟩

set_option maxHeartbeats 800000 in
set_option maxRecDepth 1000000 in
theorem walkVarintLists {w : World} (a : Option Addr) (len cap : Nat) (zs : List Int) (hz : IsRow .u64 w a len cap zs) :
    Calls Try.prog 8 #[.slice a len cap] w fun e w' => e = .returned (.bool true) ∧ Below w.heap.size w w' := by
  obtain ⟨hlz, hmax, hform, hwf⟩ := hz.form
  unfold maxLen at hmax
  by_cases h : 50 < len
  · clear hform hwf hz
    go_enter Try.func8, Try.ntmps8
    go_wp2_with fail
    refine (live1 _).mono ?_
    rintro e w3 ⟨rfl, hb3⟩
    go_wp2_with fail
    go_ret
    exact ⟨rfl, hb3⟩
  · rcases hform with rfl | ⟨b, off, rfl, hbw, hcell⟩
    · exact listsNone a cap w
    · by_cases h0 : len = 0
      · subst h0
        exact listsNone _ cap w
      · have hval : ∀ i, i < len → ((zs.take len).map Int.toNat).getD i 0 = (zs.getD i 0).toNat ∧ 0 ≤ zs.getD i 0 ∧ zs.getD i 0 ≤ 18446744073709551615 := by
          intro i hi
          have h1 : i < zs.length := by omega
          have h2 := bounds_u64 (hwf zs[i] (List.getElem_mem h1))
          have e : zs.getD i 0 = zs[i] := by simp [List.getD, List.getElem?_eq_getElem h1]
          refine ⟨?_, by rw [e]; exact h2.1, by rw [e]; exact h2.2⟩
          simp [List.getD, hi, List.getElem?_eq_getElem h1]
        refine listsSome b off len cap ((zs.take len).map Int.toNat) (by simp; omega) (by omega) (by omega) (fun i hi => ?_) w hbw (fun i hi => ?_)
        · obtain ⟨e1, e2, e3⟩ := hval i hi
          rw [e1]
          omega
        · obtain ⟨e1, e2, e3⟩ := hval i hi
          rw [hcell i hi, e1, Int.toNat_of_nonneg e2]

end Go.Proofs.Ytcphelohkllodaa
