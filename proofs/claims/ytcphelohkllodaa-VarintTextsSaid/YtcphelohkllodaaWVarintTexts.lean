/-
  THE WALK OF VarintTexts, out of the contracts.
-/
import Derived.Test.YtcphelohkllodaaVarLive
import Derived.OpenShut
namespace Go.Proofs.Ytcphelohkllodaa
open Go.RowKit
attribute [local go_sem] ByteArray.mk_append_mk

set_option maxHeartbeats 1600000 in
set_option maxRecDepth 1000000 in
theorem textsSome (b off len cap : Nat) (ts : List (List UInt8)) (cut : Int) (hl : ts.length = len) (h20 : len ≤ 20) (h0 : 0 < len) (hmax : ∀ i, i < len → (ts.getD i []).length ≤ 9223372036854775807) (w : World) (hbw : b < w.heap.size)
    (hcell : ∀ i, i < len → w.cell? ⟨b, off + i, none⟩ = some (.string ⟨(ts.getD i []).toArray⟩)) :
    Calls Try.prog 6 #[.slice (some ⟨b, off, none⟩) len cap, .int .i64 cut] w fun e w' => e = .returned (.bool true) ∧ Below w.heap.size w w' := by
  have HC := Lib.hid hcell
  have HM := Lib.hid hmax
  have HL := Lib.hid hl
  clear hcell hmax hl
  go_enter Try.func6, Try.ntmps6
  go_wp2_with fail
  go_loopw [5, 6] (fun s i wr => ∃ k : Nat, k ≤ len ∧ i = .int .i64 k ∧ s = .string ⟨(tflat (ts.take k)).toArray⟩ ∧ Hid (∀ t ∈ ts.take k, t.length ≤ 300) ∧ Below w.heap.size w wr) (fun _ i _ => len - (intOf i).toNat)
  case atStart => exact ⟨0, by omega, rfl, rfl, by show ∀ t ∈ ts.take 0, _; simp, Below.refl _ _⟩
  case round =>
    obtain ⟨k, hk, rfl, rfl, HT, hnx⟩ := hrel
    by_cases hlt : k < len
    · have hc := (hnx.cell (p := ⟨b, off + k, none⟩) hbw).trans (HC.out k hlt)
      have hm := HM.out k hlt
      have hlen := tflat_len (ts.take k) HT.out
      have hlen2 : (ts.take k).length ≤ 20 := by simp; omega
      have HS := Lib.hid (tflat_succ ts k (by rw [HL.out]; exact hlt))
      have HT' : Hid ((ts.getD k []).length ≤ 300 → ∀ t ∈ ts.take (k + 1), t.length ≤ 300) := by
        show _ → _
        intro h t ht
        rw [List.take_succ_eq_append_getElem (by rw [HL.out]; exact hlt)] at ht
        rcases List.mem_append.1 ht with h1 | h1
        · exact HT.out t h1
        · simp at h1
          subst h1
          simpa [List.getD, List.getElem?_eq_getElem (show k < ts.length by rw [HL.out]; exact hlt)] using h
      obtain ⟨t, ht⟩ : ∃ t, t = ts.getD k [] := ⟨_, rfl⟩
      rw [← ht] at hc hm HS HT'
      obtain ⟨s, hs⟩ : ∃ s, s = tflat (ts.take k) := ⟨_, rfl⟩
      rw [← hs] at hlen HS
      have HS' := Lib.hid hs
      have HN' := Lib.hid ht
      have hv := vput_len_le t.length
      rw [← hs]
      clear hs ht
      by_cases h300 : 300 < t.length
      · go_wp2_with fail
        refine (live1 _).mono ?_
        rintro e w3 ⟨rfl, hb3⟩
        go_wp2_with fail
        go_ret
        exact ⟨rfl, below2' hnx hb3⟩
      · go_wp2_with fail
        refine (text_any t (by omega) _).mono ?_
        rintro e w1 ⟨rfl, hb1⟩
        go_wp2_with fail
        go_roundw
        case rel => exact ⟨k + 1, by omega, by go_num, by rw [HS.out], HT'.out (by omega), below2' hnx hb1⟩
        case measure => simp [intOf]; omega
    · have hkl : len ≤ k := by omega
      obtain rfl : k = len := by omega
      have hfull : ts.take k = ts := List.take_of_length_le (by rw [HL.out]; exact Nat.le_refl _)
      rw [hfull] at HT ⊢
      have hfl := tflat_len ts HT.out
      rw [HL.out] at hfl
      clear hfull hlt hk
      go_wp2_with fail
      obtain ⟨wo, hwo⟩ : ∃ wo : World, wo = wr := ⟨_, rfl⟩
      subst hwo
      go_loop [7, 8] (fun p i => ∃ j : Nat, j ≤ k ∧ i = .int .i64 j ∧ p = .int .i64 (tflat (ts.take j)).length) (fun _ i => k - (intOf i).toNat)
      case atStart => exact ⟨0, by omega, rfl, rfl⟩
      case round =>
        obtain ⟨j, hj, rfl, rfl⟩ := hrel
        by_cases hlt : j < k
        · have hc := (hnx.cell (p := ⟨b, off + j, none⟩) hbw).trans (HC.out j hlt)
          have hjl : j < ts.length := by rw [HL.out]; exact hlt
          have h300 : (ts.getD j []).length ≤ 300 := by
            have := HT.out ts[j] (List.getElem_mem hjl)
            simpa [List.getD, List.getElem?_eq_getElem hjl] using this
          have hsplit := tflat_split ts j hjl
          have hsz : (tflat (ts.take (j + 1))).length = (tflat (ts.take j)).length + ((vput (ts.getD j []).length).length + (ts.getD j []).length) := by
            rw [tflat_succ ts j hjl]; simp
          have hpos := vput_len_pos (ts.getD j []).length
          have hle : (tflat (ts.take (j + 1))).length ≤ (tflat ts).length := by
            rw [hsz, hsplit]; simp
          have HG : Hid (vtake (tflat ts) ((tflat (ts.take j)).length : Int) 300 = (ts.getD j [], (tflat (ts.take (j + 1))).length, 0)) := by
            show _ = _
            rw [hsplit, vtake_text _ _ _ 300 (by omega) (by omega), hsz]
            simp; omega
          have HU : Hid (∀ c : Nat, (tflat (ts.take j)).length ≤ c → c < (tflat (ts.take (j + 1))).length → vtake ((tflat ts).take c) ((tflat (ts.take j)).length : Int) 300 = ([], 0, 2)) := by
            show ∀ c : Nat, _
            intro c h1 h2
            rw [hsplit]
            exact vtake_cut _ _ _ 300 (by omega) (by omega) c h1 (by omega)
          have hjp : j ≤ (tflat (ts.take j)).length := by
            have := tflat_pos (ts.take j)
            simp at this; omega
          clear hsplit
          obtain ⟨t, ht⟩ : ∃ t, t = ts.getD j [] := ⟨_, rfl⟩
          obtain ⟨p, hp⟩ : ∃ p, p = (tflat (ts.take j)).length := ⟨_, rfl⟩
          obtain ⟨q, hq⟩ : ∃ q, q = (tflat (ts.take (j + 1))).length := ⟨_, rfl⟩
          rw [← ht] at hc h300 HG hsz hpos
          rw [← hp] at HG HU hjp hsz
          rw [← hq] at HG HU hle hsz
          have HQ := Lib.hid hq
          have hpq : p < q := by omega
          rw [← hp]
          have g1 : decide ((0 : Int) < (j : Int)) = true → ((p : Int) == 0) = false := by intro h; simp at h ⊢; omega
          have G1 := Lib.hid g1
          clear hp ht hq g1 hsz
          have h0 : ((0 : Int) < (j : Int) ∧ ((p : Int) == 0) = false) ∨ ¬ (0 : Int) < (j : Int) := by
            by_cases h : (0 : Int) < (j : Int)
            · exact .inl ⟨h, G1.out (by simpa using h)⟩
            · exact .inr h
          have hcut : (cut < (p : Int)) ∨ ((p : Int) ≤ cut ∧ (q : Int) ≤ cut) ∨ ((p : Int) ≤ cut ∧ cut < (q : Int)) := by omega
          have H0 := Lib.hid h0
          have HCut := Lib.hid hcut
          clear h0 hcut
          rcases H0.out with ⟨g2, g3⟩ | g2
          all_goals
            clear H0
            rcases HCut.out with c1 | ⟨c1, c2⟩ | ⟨c1, c2⟩
            all_goals clear HCut
            · go_wp2_with fail
              refine (take_eq (tflat ts) (by omega) p 300 (by decide) _ HG).mono ?_
              rintro e w' ⟨rfl, rfl⟩
              go_wp2_with fail
              go_round
              case rel => exact ⟨j + 1, by omega, by go_num, by rw [HQ.out]⟩
              case measure => simp [intOf]; omega
            · go_wp2_with fail
              refine (take_eq (tflat ts) (by omega) p 300 (by decide) _ HG).mono ?_
              rintro e w' ⟨rfl, rfl⟩
              go_wp2_with fail
              go_round
              case rel => exact ⟨j + 1, by omega, by go_num, by rw [HQ.out]⟩
              case measure => simp [intOf]; omega
            · obtain ⟨c, hc'⟩ := Int.eq_ofNat_of_zero_le (show 0 ≤ cut by omega)
              subst hc'
              have hsl := fun w => run_slice_bytes_to (P := Try.prog) w 9 (tflat ts) c c rfl Try.underlying9 (by omega)
              have HX := Lib.hid (HU.out c (by omega) (by omega))
              have hX : ((tflat ts).take c).length ≤ 4294967296 := by simp; omega
              have HX' := Lib.hid hX
              clear hX
              go_wp2_with fail
              refine (take_eq (tflat ts) (by omega) p 300 (by decide) _ HG).mono ?_
              rintro e w' ⟨rfl, rfl⟩
              go_wp2_with fail
              refine (take_eq ((tflat ts).take c) HX'.out p 300 (by decide) _ HX).mono ?_
              rintro e w' ⟨rfl, rfl⟩
              go_wp2_with fail
              go_round
              case rel => exact ⟨j + 1, by omega, by go_num, by rw [HQ.out]⟩
              case measure => simp [intOf]; omega
        · have hkl : k ≤ j := by omega
          obtain rfl : j = k := by omega
          have hfull : ts.take j = ts := List.take_of_length_le (by rw [HL.out]; exact Nat.le_refl _)
          rw [hfull]
          clear hfull hlt
          go_wp2_with fail
          refine (live1 _).mono ?_
          rintro e w3 ⟨rfl, hb3⟩
          go_wp2_with fail
          go_ret
          exact ⟨rfl, below2' hnx hb3⟩

set_option maxHeartbeats 800000 in
set_option maxRecDepth 1000000 in
theorem textsNone (a : Option Addr) (cap : Nat) (cut : Int) (w : World) :
    Calls Try.prog 6 #[.slice a 0 cap, .int .i64 cut] w fun e w' => e = .returned (.bool true) ∧ Below w.heap.size w w' := by
  go_enter Try.func6, Try.ntmps6
  go_wp2_with fail
  refine wp_loop_rounds 1 ?_
  rw [rounds_succ]
  go_wp2_with fail
  refine wp_loop_rounds 1 ?_
  rw [rounds_succ]
  go_wp2_with fail
  refine (live1 _).mono ?_
  rintro e w3 ⟨rfl, hb3⟩
  go_wp2_with fail
  go_ret
  exact ⟨rfl, hb3⟩

set_option maxHeartbeats 800000 in
set_option maxRecDepth 1000000 in
theorem walkVarintTexts {w : World} (a : Option Addr) (len cap : Nat) (ss : List ByteArray) (hz : IsStrs w a len cap ss) (cut : Int) (_ : (Lit.int .i64 cut).wf = true) :
    Calls Try.prog 6 #[.slice a len cap, .int .i64 cut] w fun e w' => e = .returned (.bool true) ∧ Below w.heap.size w w' := by
  obtain ⟨ts, hts, hmax, hform, hwf⟩ := hz.form
  unfold maxLen at hmax hwf
  by_cases h : 20 < len
  · clear hform hwf hz
    go_enter Try.func6, Try.ntmps6
    go_wp2_with fail
    refine (live1 _).mono ?_
    rintro e w3 ⟨rfl, hb3⟩
    go_wp2_with fail
    go_ret
    exact ⟨rfl, hb3⟩
  · rcases hform with h0 | ⟨b, off, rfl, hbw, hcell⟩
    · subst h0
      exact textsNone a cap cut w
    · by_cases h0 : len = 0
      · subst h0
        exact textsNone _ cap cut w
      · refine textsSome b off len cap ts cut hts (by omega) (by omega) (fun i hi => ?_) w hbw hcell
        have hi' : i < ts.length := by omega
        have := hwf ts[i] (List.getElem_mem hi')
        simpa [List.getD, List.getElem?_eq_getElem hi'] using this

end Go.Proofs.Ytcphelohkllodaa
