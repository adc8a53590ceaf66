/-
  TEXTS OF THE PROOF, one behind the other: SesIns, SesSame, SesMayC, StaMay, BesWor.
-/
import Derived.Test.YthfkfonfiejbmaaGreatC08
import Derived.Lib.Hide
import Derived.Maps.OwnSet
import Derived.Deep.RegionHeld
import Derived.Deep.AppendLies
import Derived.WalkSpells
import Derived.StillTailTactics
import Derived.Test.YthfkfonfiejbmaaGreatC01
import Derived.Deep.QuietTactic
import Derived.BigQuiet
import Derived.Test.YthfkfonfiejbmaaGreatC17
import Derived.Test.YthfkfonfiejbmaaGreatC09
import Derived.Test.YthfkfonfiejbmaaGreatC15

section

/-
  slices.Clone, slices.Insert AND slices.Delete of one element, at elements of 6 cells.
-/
namespace Go.Proofs.YthfkfonfiejbmaaGreat
open Go.RowKit

set_option maxHeartbeats 800000 in
set_option maxRecDepth 100000 in
theorem ses_clone {w : World} {v : Value} {t : List Ses} (hv : RdS sesVals 6 Ses.zero w v t) (hl : t.length ≤ 4294967) :
    Calls Tryz.prog 72 #[v] w fun e w' => ∃ u, e = .returned u ∧ OwnS sesVals 6 62 w' w.heap.size u t ∧ Below w.heap.size w w' := by
  have HV := Lib.hid hv
  obtain ⟨a, cap, rfl, h1, h2, h3, h4⟩ := hv
  cases a with
  | none =>
    obtain rfl : cap = 0 := h3 rfl
    obtain rfl : t = [] := List.length_eq_zero_iff.1 (by omega)
    have heq := fun w => eqlS_nil_nil sesOK w 0 0
    clear h4
    go_enter Tryz.func72, Tryz.ntmps72
    go_wp2_with fail
    go_ret
    exact ⟨_, rfl, ownS_nil _ _, Below.refl _ _⟩
  | some x =>
    have HS := Lib.hid ((HV.out.later ((Below.refl _ _).alloc (Nat.le_refl _) (.cells #[] 62))).src sesOK)
    have heq := fun w => eqlS_nil_some sesOK w x t.length cap
    clear h4 h3
    go_enter Tryz.func72, Tryz.ntmps72
    go_wp2_with (at_builtin; go_must (refine wpList_append_S sesOK rfl _ _ rfl w.heap.size _ [] rfl (by exact ownS_made w) (some x) t.length cap t rfl rfl (fun e => nomatch e) ?c1 (by simp only [List.length_nil]; omega) (by simp) ?_))
    case c1 => intro ad had; obtain rfl := Option.some.inj had; exact HS.out
    intro v' w' ho' hb'
    have O := Lib.hid ho'
    have hbB : Hid (Below w.heap.size w w') := ((Below.refl w.heap.size w).alloc (Nat.le_refl _) _).trans hb'
    clear ho' hb'
    go_wp2_with fail
    go_ret
    exact ⟨_, rfl, by have := O.out; simpa using this, hbB.out⟩

theorem putS_last {β : Type} (t : List β) (r : β) : putS t t.length r = t ++ [r] := by simp [putS]

set_option maxHeartbeats 1600000 in
set_option maxRecDepth 100000 in
theorem ses_ins_end {w : World} {base : Nat} {v : Value} {t : List Ses} (ho : OwnS sesVals 6 62 w base v t) (hbase : base ≤ w.heap.size) (hl : t.length ≤ 1000) {B : Nat} {r : Ses} (hr : LoneS sesVals 62 w B r) :
    Calls Tryz.prog 73 #[v, .int .i64 t.length, .slice (some ⟨B, 0, none⟩) 1 1] w fun e w' => ∃ u, e = .returned u ∧ OwnS sesVals 6 62 w' base u (putS t t.length r) ∧ Below base w w' := by
  have HO := Lib.hid ho
  have HS := Lib.hid hr.src
  have HE := Lib.hid (putS_last t r)
  have t0 : ((t.length : Int) == (t.length : Int)) = true := by simp
  rcases ho.2 with ⟨rfl, h0⟩ | ⟨g, cap, cur, rfl, _, _, hnc, hcm, _⟩
  · obtain rfl : t = [] := List.length_eq_zero_iff.1 h0
    clear ho hr h0
    go_enter Tryz.func73, Tryz.ntmps73
    go_wp2_with (at_builtin; go_must (refine wpList_append_S sesOK rfl _ _ rfl base _ [] rfl (by exact HO.out) (some ⟨B, 0, none⟩) 1 1 [r] rfl rfl (fun e => nomatch e) ?c1 (by simp) hbase ?_))
    case c1 => intro ad had; obtain rfl := Option.some.inj had; exact HS.out
    intro v' w' ho' hb'
    have O := Lib.hid ho'
    have HB := Lib.hid hb'
    clear ho' hb'
    go_wp2_with fail
    go_ret
    exact ⟨_, rfl, O.out, HB.out⟩
  · unfold maxLen at hcm
    clear ho hr
    by_cases hc : cap = t.length
    · subst hc
      go_enter Tryz.func73, Tryz.ntmps73
      go_wp2_with (at_builtin; go_must (refine wpList_append_S sesOK rfl _ _ rfl base _ t rfl (by exact HO.out) (some ⟨B, 0, none⟩) 1 1 [r] rfl rfl (fun e => nomatch e) ?c1 (by simp only [List.length_cons, List.length_nil]; omega) hbase ?_))
      case c1 => intro ad had; obtain rfl := Option.some.inj had; exact HS.out
      intro v' w' ho' hb'
      have O := Lib.hid ho'
      have HB := Lib.hid hb'
      clear ho' hb'
      go_wp2_with fail
      go_ret
      exact ⟨_, rfl, by rw [HE.out]; exact O.out, HB.out⟩
    · go_enter Tryz.func73, Tryz.ntmps73
      go_wp2_with (at_builtin; go_must (refine wpList_append_S sesOK rfl _ _ rfl base _ t rfl (by exact HO.out) (some ⟨B, 0, none⟩) 1 1 [r] rfl rfl (fun e => nomatch e) ?c1 (by simp only [List.length_cons, List.length_nil]; omega) hbase ?_))
      case c1 => intro ad had; obtain rfl := Option.some.inj had; exact HS.out
      intro v' w' ho' hb'
      have O := Lib.hid ho'
      have HB := Lib.hid hb'
      clear ho' hb'
      go_wp2_with fail
      go_ret
      exact ⟨_, rfl, by rw [HE.out]; exact O.out, HB.out⟩

set_option maxHeartbeats 3200000 in
set_option maxRecDepth 100000 in
theorem ses_ins_grow {w : World} {base g cap : Nat} {t : List Ses} (ho : OwnS sesVals 6 62 w base (.slice (some ⟨g, 0, none⟩) t.length cap) t) (hbase : base ≤ w.heap.size) (hl : t.length ≤ 1000) {i : Nat} (hi : i < t.length) (hc : cap = t.length) {B : Nat} {r : Ses} (hr : LoneS sesVals 62 w B r) :
    Calls Tryz.prog 73 #[.slice (some ⟨g, 0, none⟩) t.length cap, .int .i64 i, .slice (some ⟨B, 0, none⟩) 1 1] w fun e w' => ∃ u, e = .returned u ∧ OwnS sesVals 6 62 w' base u (putS t i r) ∧ Below base w w' := by
  subst hc
  have HO := Lib.hid ho
  have HR := Lib.hid hr
  have HE := Lib.hid (layS_grow Ses.zero hi r)
  have t0 : ((i : Int) == (t.length : Int)) = false := by simp; omega
  have t1 : ¬ t.length = i := by omega
  have hw1 : IntKind.i64.wrap ((i : Int) + 1) = (i : Int) + 1 := IntWalk.i64_in _ (by omega)
  have htn : ((i : Int) + 1).toNat = i + 1 := by omega
  have hb0 : (0 : Int) ≤ (i : Int) + 1 := by omega
  have hin : i ≤ t.length := by omega
  have hgw := ho.head.2.2.1
  have hBw := hr.lt
  clear ho hr
  go_enter Tryz.func73, Tryz.ntmps73
  go_wp2_with (with_reducible refine wpList_append_zero_S sesOK Tryz.underlying3 rfl (.tmp 34) (.tmp 39) rfl base g t.length t.length t HO.out i (t.length + 1 - i) (t.length + 1) ((t.length : Int) + 1 - (i : Int)) rfl rfl (by omega) (by omega) (by omega) (by omega) (by omega) (by omega) ?_)
  intro w1 G h1 hG hGm hb1
  have O1 := Lib.hid h1
  have B1 := Lib.hid hb1
  have S1 := Lib.hid (HR.out.later hb1).src
  have P1 := Lib.hid (HO.out.later hb1)
  have hsz := hb1.size
  have hlen : (t.take i ++ List.replicate (t.length + 1 - i) Ses.zero).length = t.length + 1 := by rw [List.length_append, List.length_take, List.length_replicate]; omega
  have t2 : ¬ G = i := by omega
  have t3 : ¬ G = i + 1 := by omega
  have O1r : Hid (OwnCS 6 62 w1 w.heap.size w.heap.size (t.length + 1) G (cellsS sesVals (t.take i ++ List.replicate (t.length + 1 - i) Ses.zero))) := h1.raw
  clear h1 hb1
  go_wp2_with (with_reducible refine wpList_copy_C sesOK rfl (.tmp 43) (.tmp 44) rfl w.heap.size w.heap.size (t.length + 1) G _ O1r.out i (t.length + 1 - i) (G - i) ⟨B, 0, none⟩ 1 1 rfl rfl [r] (by simp only [List.length_singleton, Nat.min_def]; split <;> omega) S1.out (by simp only [List.length_singleton]; omega) ?_)
  intro w2 h2 hb2 hk2
  rw [cellsS_lay sesOK.len] at h2
  have O2 := Lib.hid h2
  have B2 := Lib.hid (B1.out.trans (hb2.mono (Nat.le_refl _)))
  have P2 : Hid (SrcS sesVals w2.drew ⟨g, i * 6, none⟩ (t.drop i)) := by
    show SrcS sesVals _ _ _
    intro j x hx
    have := P1.out.src sesOK i (t.length - i) (by omega) j x (by rw [List.take_of_length_le (by rw [List.length_drop]; omega)]; exact hx)
    exact (hk2 _ (by rw [Addr.add_lit]; show g ≠ w.heap.size; omega)).trans this
  clear h2 hb2 hk2 O1 O1r B1 S1
  go_wp2_with fail
  go_region_law (refine step_copy_C sesOK rfl (.tmp 50) (.tmp 53) rfl w.heap.size w.heap.size (t.length + 1) G _ O2.out.drew (i + 1) (t.length - i) (G - (i + 1)) ⟨g, i * 6, none⟩ (t.length - i) (t.length - i) (by simp [Act.eval, Act.put]) (by simp [Act.eval, Act.put]) (t.drop i) (by simp only [List.length_drop, Nat.min_def]; split <;> omega) P2.out (by rw [List.length_drop]; omega) ?_; intro w3 h3 hb3 hk3)
  all_goals
    rw [cellsS_lay sesOK.len, HE.out] at h3
    have O3 := Lib.hid (h3.rows (putS_len t i r).symm)
    have B3 := Lib.hid ((B2.out.mono hbase).drew.trans (hb3.mono hbase))
    clear h3 hb3 hk3
    go_wp2_with fail
    go_ret
    exact ⟨_, rfl, ownS_low O3.out hbase, B3.out⟩

set_option maxHeartbeats 3200000 in
set_option maxRecDepth 100000 in
theorem ses_ins_room {w : World} {base g cap : Nat} {t : List Ses} (ho : OwnS sesVals 6 62 w base (.slice (some ⟨g, 0, none⟩) t.length cap) t) (hl : t.length ≤ 1000) {i : Nat} (hi : i < t.length) (hc : t.length < cap) (hcm : cap ≤ 9223372036854775807) {B : Nat} {r : Ses} (hr : LoneS sesVals 62 w B r) (hne : B ≠ g) :
    Calls Tryz.prog 73 #[.slice (some ⟨g, 0, none⟩) t.length cap, .int .i64 i, .slice (some ⟨B, 0, none⟩) 1 1] w fun e w' => ∃ u, e = .returned u ∧ OwnS sesVals 6 62 w' base u (putS t i r) ∧ Below base w w' := by
  obtain ⟨z, hz, hw⟩ := ownS_wider ho hc
  have HO := Lib.hid hw
  have HS := Lib.hid hr.src
  have hin2 : (i : Int) ≤ (t.length : Int) + 1 := by omega
  have S0 : Hid (SrcS sesVals w.drew ⟨g, i * 6, none⟩ (t.drop i)) := by
    show SrcS sesVals _ _ _
    intro j x hx
    exact ho.src sesOK i (t.length - i) (by omega) j x (by rw [List.take_of_length_le (by rw [List.length_drop]; omega)]; exact hx)
  have HE := Lib.hid (layS_room sesOK.len hi r z hz)
  have HG := Lib.hid ho.head.2.1
  have t0 : ((i : Int) == (t.length : Int)) = false := by simp; omega
  have t1 : ¬ cap = i := by omega
  have t2 : ¬ cap = i + 1 := by omega
  have hw1 : IntKind.i64.wrap ((i : Int) + 1) = (i : Int) + 1 := IntWalk.i64_in _ (by omega)
  have htn : ((i : Int) + 1).toNat = i + 1 := by omega
  have hb0 : (0 : Int) ≤ (i : Int) + 1 := by omega
  have hin : i ≤ t.length := by omega
  have hov : ∀ lb cb, (callFunc 102 #[.slice (some ⟨B, 0, none⟩) 1 1, .slice (some ⟨g, (i + 1) * 6, none⟩) lb cb]).run Tryz.prog w = .ok (.value (.bool false)) w := fun lb cb => by
    obtain ⟨_, _, _, _, _, cur, hg, hcs⟩ := ho.head
    rw [run_callFunc_extern Tryz.func102 (by kernel_rfl) (by kernel_rfl) (by kernel_rfl) (e := Extern.SlicesOverlaps.overlaps #[23, 23] #[4]) (by kernel_rfl),
      Lib.run_overlaps_apart w 23 4 62 Tryz.underlying23 6 (sizeS sesOK) ⟨B, 0, none⟩ ⟨g, (i + 1) * 6, none⟩ 1 1 lb cb hne _ _ _ _ (hr.shape sesOK.len) (ownS_shape hg) (by omega) (hr.free _) (hr.free _)]
    rfl
  clear ho hr hw
  go_enter Tryz.func73, Tryz.ntmps73
  go_wp2_with (simp only [hov])
  go_region_law (refine step_copy_C sesOK rfl (.tmp 73) (.tmp 76) rfl base g (t.length + 1) cap _ HO.out.drew (i + 1) (t.length - i) (cap - (i + 1)) ⟨g, i * 6, none⟩ (t.length + 1 - i) (cap - i) (by simp [Act.eval, Act.put]) (by simp [Act.eval, Act.put]) (t.drop i) (by simp only [List.length_drop, Nat.min_def]; split <;> omega) S0.out (by rw [List.length_drop]; omega) ?_; intro w1 h1 hb1 hk1)
  all_goals
    have O1 := Lib.hid h1
    have B1 := Lib.hid ((Below.refl base w).drew.trans (hb1.mono HG.out))
    have S1 : Hid (SrcS sesVals w1 ⟨B, 0, none⟩ [r]) := by
      show SrcS sesVals _ _ _
      intro j x hx
      exact (hk1 _ (by rw [Addr.add_lit]; exact hne)).trans (HS.out j x hx)
    clear h1 hb1 hk1
    go_wp2_with (with_reducible refine wpList_copy_C sesOK rfl (.tmp 80) (.tmp 81) rfl base g (t.length + 1) cap _ O1.out i (t.length + 1 - i) (cap - i) ⟨B, 0, none⟩ 1 1 rfl rfl [r] (by simp only [List.length_singleton, Nat.min_def]; split <;> omega) S1.out (by simp only [List.length_singleton]; omega) ?_)
    intro w2 h2 hb2 hk2
    rw [HE.out] at h2
    have O2 := Lib.hid (h2.rows (putS_len t i r).symm)
    have B2 := Lib.hid (B1.out.trans (hb2.mono HG.out))
    clear h2 hb2 hk2
    go_wp2_with fail
    go_ret
    exact ⟨_, rfl, O2.out, B2.out⟩

theorem ses_insert {w : World} {base : Nat} {v : Value} {t : List Ses} (ho : OwnS sesVals 6 62 w base v t) (hbase : base ≤ w.heap.size) (hl : t.length ≤ 1000) {i : Nat} (hi : i ≤ t.length) {B : Nat} {r : Ses} (hr : LoneS sesVals 62 w B r) (hne : ∀ g n c, v = .slice (some ⟨g, 0, none⟩) n c → B ≠ g) :
    Calls Tryz.prog 73 #[v, .int .i64 i, .slice (some ⟨B, 0, none⟩) 1 1] w fun e w' => ∃ u, e = .returned u ∧ OwnS sesVals 6 62 w' base u (putS t i r) ∧ Below base w w' := by
  by_cases h : i = t.length
  · subst h
    exact ses_ins_end ho hbase hl hr
  · have hi' : i < t.length := by omega
    rcases ho.2 with ⟨rfl, h0⟩ | ⟨g, cap, cur, rfl, _, _, hnc, hcm, _⟩
    · omega
    · by_cases hc : cap = t.length
      · exact ses_ins_grow ho hbase hl hi' hc hr
      · unfold maxLen at hcm
        exact ses_ins_room ho hl hi' (by omega) (by omega) hr (hne _ _ _ rfl)

theorem layS_del {β : Type} {t : List β} {i : Nat} (hi : i < t.length) : (layS t i (t.drop (i + 1))).take (i + (t.length - (i + 1))) = t.take i ++ t.drop (i + 1) := by
  unfold layS
  rw [← List.append_assoc]
  exact List.take_left' (by rw [List.length_append, List.length_take, List.length_drop]; omega)

set_option maxHeartbeats 3200000 in
set_option maxRecDepth 100000 in
theorem ses_delete {w : World} {base g cap : Nat} {t : List Ses} (ho : OwnS sesVals 6 62 w base (.slice (some ⟨g, 0, none⟩) t.length cap) t) (hcm : cap ≤ 9223372036854775807) {i : Nat} (hi : i < t.length) (hl : t.length ≤ 1000) :
    Calls Tryz.prog 75 #[.slice (some ⟨g, 0, none⟩) t.length cap, .int .i64 i, .int .i64 ((i : Int) + 1)] w fun e w' => ∃ u, e = .returned u ∧ OwnS sesVals 6 62 w' base u (t.take i ++ t.drop (i + 1)) ∧ Below base w w' := by
  have HO := Lib.hid ho
  have hcap := ho.head.2.2.2.1
  have HG := Lib.hid ho.head.2.1
  have t0 : ((i : Int) == (i : Int) + 1) = false := by simp; omega
  have hw1 : IntKind.i64.wrap ((i : Int) + 1) = (i : Int) + 1 := IntWalk.i64_in _ (by omega)
  have htn : ((i : Int) + 1).toNat = i + 1 := by omega
  have hb0 : (0 : Int) ≤ (i : Int) + 1 := by omega
  have hin : i ≤ t.length := by omega
  have hin2 : (i : Int) + 1 ≤ (t.length : Int) := by omega
  have HE := Lib.hid (layS_del hi)
  have hii : (i : Int) ≤ (i : Int) + 1 := by omega
  have hic : i ≤ cap := by omega
  have HSL : Hid ((layS t i (t.drop (i + 1))).length = t.length) := by show _ = _; exact layS_len (by rw [List.length_drop]; omega)
  have z1 : i + (t.length - (i + 1)) ≤ t.length := by omega
  have z2 : i + (t.length - (i + 1)) + (t.length - (i + (t.length - (i + 1)))) = t.length := by omega
  have t4 : ¬ cap = i + (t.length - (i + 1)) := by omega
  by_cases hc : cap = i + 1
  · subst hc
    have hlen : t.length = i + 1 := by omega
    have HN : Hid (t.take i ++ t.drop (i + 1) = t.take i) := by
      show _ = _
      rw [List.drop_of_length_le (by omega), List.append_nil]
    have HL := Lib.hid hlen
    clear z1 z2 t4 HSL HE hin hin2 hcap ho hi hl
    rw [hlen] at HO
    rw [hlen]
    clear hlen
    have t1 : ¬ i + 1 = i := by omega
    have t3 : (i : Int) ≤ ((i + 1 : Nat) : Int) := by omega
    have t5 : (i : Int) + 1 ≤ ((i + 1 : Nat) : Int) := by omega
    have t6 : i ≤ i + 1 := by omega
    have HT := Lib.hid (World.ownsRow.drew HO.out)
    go_enter Tryz.func75, Tryz.ntmps75
    go_wp2_with fail
    go_region_law (refine step_append_in_S sesOK rfl (.tmp 22) (.tmp 25) rfl base g (i + 1) (i + 1) t HO.out.drew i 0 0 ⟨g, 0, none⟩ (by simp [Act.eval, Act.put]) (by simp [Act.eval, Act.put]) [] rfl (fun j x hx => by simp [cellsS] at hx) (by simp) ?_; intro w1 h1 hb1 hk1)
    all_goals
      rw [layS_nil] at h1
      have O1 := Lib.hid h1
      have B1 := Lib.hid ((Below.refl base w).drew.trans (hb1.mono HG.out))
      clear h1 hb1 hk1
      go_wp2_with (with_reducible refine wpList_clear_S sesOK rfl (.tmp 31) rfl base g (i + 1) (i + 1) _ O1.out i (some ⟨g, i * 6, none⟩) 1 1 rfl (fun _ => rfl) HL.out.symm ?_)
      intro w2 h2 hb2
      have O2 := Lib.hid (ownS_cut sesOK h2 (i := i) (by simp [HL.out]))
      have B2 := Lib.hid (B1.out.trans (hb2.mono HG.out))
      clear h2 hb2
      go_wp2_with fail
      go_ret
      refine ⟨_, rfl, ?_, B2.out⟩
      have := O2.out
      rw [List.take_append_of_le_length (by rw [List.length_take, HL.out]; omega), List.take_take, Nat.min_self] at this
      rw [HN.out]
      exact this
  · have HS : Hid (SrcS sesVals w.drew ⟨g, (i + 1) * 6, none⟩ (t.drop (i + 1))) := by
      show SrcS sesVals _ _ _
      intro j x hx
      exact ho.src sesOK (i + 1) (t.length - (i + 1)) (by omega) j x (by rw [List.take_of_length_le (by rw [List.length_drop]; omega)]; exact hx)
    have t1 : ¬ cap = i := by omega
    clear ho
    go_enter Tryz.func75, Tryz.ntmps75
    go_wp2_with fail
    go_region_law (refine step_append_in_S sesOK rfl (.tmp 22) (.tmp 25) rfl base g t.length cap t HO.out.drew i (t.length - (i + 1)) (cap - (i + 1)) ⟨g, (i + 1) * 6, none⟩ (by simp [Act.eval, Act.put]) (by simp [Act.eval, Act.put]) (t.drop (i + 1)) (by rw [List.length_drop]) HS.out (by rw [List.length_drop]; omega) ?_; intro w1 h1 hb1 hk1)
    all_goals
      have O1 := Lib.hid h1
      have B1 := Lib.hid ((Below.refl base w).drew.trans (hb1.mono HG.out))
      clear h1 hb1 hk1
      go_wp2_with (with_reducible refine wpList_clear_S sesOK rfl (.tmp 31) rfl base g t.length cap _ O1.out (i + (t.length - (i + 1))) (some ⟨g, (i + (t.length - (i + 1))) * 6, none⟩) (t.length - (i + (t.length - (i + 1)))) (cap - (i + (t.length - (i + 1)))) rfl (fun _ => rfl) (z2.trans HSL.out.symm) ?_)
      intro w2 h2 hb2
      have O2 := Lib.hid (ownS_cut sesOK h2 (i := i + (t.length - (i + 1))) (by rw [List.length_append, List.length_take, List.length_replicate, HSL.out]; omega))
      have B2 := Lib.hid (B1.out.trans (hb2.mono HG.out))
      clear h2 hb2
      go_wp2_with fail
      go_ret
      refine ⟨_, rfl, ?_, B2.out⟩
      have := O2.out
      rw [List.take_append_of_le_length (by rw [List.length_take, HSL.out]; omega), List.take_take, Nat.min_self, HE.out] at this
      exact this

end Go.Proofs.YthfkfonfiejbmaaGreat

end

section

/-
  LAYER 9: the document's Same; its place.
-/
namespace Go.Proofs.YthfkfonfiejbmaaGreat
open Go.RowKit

/-- Two lists of sessions are the same. -/
def sessSame (a b : List Ses) : Bool := decide (a.length = b.length) && (List.range a.length).all fun i => sesSame (a.getD i Ses.zero) (b.getD i Ses.zero)

theorem sessSame_self (a : List Ses) : sessSame a a = true := by
  unfold sessSame
  simp [sesSame_self]

end Go.Proofs.YthfkfonfiejbmaaGreat

end

section

/-
  LAYER 9: One, Ahead (the document's); May, the code's and the document's.
-/
namespace Go.Proofs.YthfkfonfiejbmaaGreat
open Go.RowKit

/-- Texts of no more bytes than a walk can count. -/
def ShortS (l : List Ses) : Prop := ∀ s ∈ l, s.u.length ≤ 4294967296 ∧ s.v.st.length ≤ 4294967296

theorem ShortS.get {l : List Ses} (h : ShortS l) {k : Nat} (hk : k < l.length) : (l.getD k Ses.zero).u.length ≤ 4294967296 ∧ (l.getD k Ses.zero).v.st.length ≤ 4294967296 := by
  rw [sgetD hk]
  exact h _ (List.getElem_mem hk)

set_option maxHeartbeats 1600000 in
set_option maxRecDepth 100000 in
theorem rone_any (u st : List UInt8) (id a b c : Int) (hu : u.length ≤ 4294967296) (hst : st.length ≤ 4294967296) {r : Bool} (h : Hid (seOne ⟨u, id, ⟨a, b, c, st⟩⟩ = r)) (w : World) :
    Calls Tryz.prog 40 #[.agg #[.string ⟨u.toArray⟩, .int .i64 id, .int .i64 a, .int .i64 b, .int .i64 c, .string ⟨st.toArray⟩]] w fun e w' => e = .returned (.bool r) ∧ Below w.heap.size w w' := by
  have B0 := Lib.hid (bl_newZ w (.cells #[.string ⟨u.toArray⟩, .int .i64 id, .int .i64 a, .int .i64 b, .int .i64 c, .string ⟨st.toArray⟩] 62))
  rcases seOne_cases u st id a b c with ⟨h1, h2⟩ | ⟨h1, h3, h2⟩ | ⟨h1, h3, h4, h2⟩ | ⟨h1, h3, h4, h2⟩
  · have hI := Lib.hid (ris_any u hu)
    rw [h1] at hI
    rw [h.out] at h2
    subst h2
    clear h h1
    go_enter Tryz.func40, Tryz.ntmps40
    go_wp2_with fail
    refine (hI.out _).mono ?_
    rintro e w1 ⟨rfl, rfl⟩
    go_wp2_with fail
    go_ret
    exact ⟨rfl, B0.out⟩
  · have hI := Lib.hid (ris_any u hu)
    rw [h1] at hI
    rw [h.out] at h2
    subst h2
    have t1 : decide (0 ≤ id) = false := by simpa using h3
    clear h h1
    go_enter Tryz.func40, Tryz.ntmps40
    go_wp2_with fail
    refine (hI.out _).mono ?_
    rintro e w1 ⟨rfl, rfl⟩
    go_wp2_with fail
    go_ret
    exact ⟨rfl, B0.out⟩
  · have hI := Lib.hid (ris_any u hu)
    rw [h1] at hI
    rw [h.out] at h2
    subst h2
    have t1 : decide (0 ≤ id) = true := by simpa using h3
    have t2 : decide (id < 4) = false := by simpa using h4
    clear h h1
    go_enter Tryz.func40, Tryz.ntmps40
    go_wp2_with fail
    refine (hI.out _).mono ?_
    rintro e w1 ⟨rfl, rfl⟩
    go_wp2_with fail
    go_ret
    exact ⟨rfl, B0.out⟩
  · have hI := Lib.hid (ris_any u hu)
    rw [h1] at hI
    rw [h.out] at h2
    have hV := Lib.hid (rmay_any a b c st hst)
    rw [← h2] at hV
    have t1 : decide (0 ≤ id) = true := by simpa using h3
    have t2 : decide (id < 4) = true := by simpa using h4
    clear h h1 h2
    go_enter Tryz.func40, Tryz.ntmps40
    go_wp2_with fail
    refine (hI.out _).mono ?_
    rintro e w1 ⟨rfl, rfl⟩
    go_wp2_with fail
    refine (hV.out _).mono ?_
    rintro e w2 ⟨rfl, b⟩
    have B2 := Lib.hid (below2Z B0.out b)
    clear b
    go_wp2_with fail
    go_ret
    exact ⟨rfl, B2.out⟩

theorem seLt_cases (eu fu : List UInt8) (ei fi : Int) (v v' : Val) :
    (idLess eu fu = true ∧ seLt ⟨eu, ei, v⟩ ⟨fu, fi, v'⟩ = true) ∨ (idLess eu fu = false ∧ (eu == fu) = false ∧ seLt ⟨eu, ei, v⟩ ⟨fu, fi, v'⟩ = false) ∨ (idLess eu fu = false ∧ (eu == fu) = true ∧ seLt ⟨eu, ei, v⟩ ⟨fu, fi, v'⟩ = decide (ei < fi)) := by
  unfold seLt
  cases h : idLess eu fu with
  | true => exact .inl ⟨rfl, rfl⟩
  | false =>
    by_cases he : eu = fu
    · exact .inr (.inr ⟨rfl, by simpa using he, by simp [he]⟩)
    · exact .inr (.inl ⟨rfl, by rw [beq_eq_false_iff_ne]; exact he, by simp [he]⟩)

set_option maxHeartbeats 1600000 in
set_option maxRecDepth 100000 in
theorem rahead_any (eu es fu fs : List UInt8) (ei ea eb ec fi fa fb fc : Int) {r : Bool} (h : Hid (seLt ⟨eu, ei, ⟨ea, eb, ec, es⟩⟩ ⟨fu, fi, ⟨fa, fb, fc, fs⟩⟩ = r)) (w : World) :
    Calls Tryz.prog 41 #[.agg #[.string ⟨eu.toArray⟩, .int .i64 ei, .int .i64 ea, .int .i64 eb, .int .i64 ec, .string ⟨es.toArray⟩], .agg #[.string ⟨fu.toArray⟩, .int .i64 fi, .int .i64 fa, .int .i64 fb, .int .i64 fc, .string ⟨fs.toArray⟩]] w fun e w' => e = .returned (.bool r) ∧ Below w.heap.size w w' := by
  have B0 : Hid (Below w.heap.size w ((w.alloc (.cells #[.string ⟨eu.toArray⟩, .int .i64 ei, .int .i64 ea, .int .i64 eb, .int .i64 ec, .string ⟨es.toArray⟩] 62)).alloc (.cells #[.string ⟨fu.toArray⟩, .int .i64 fi, .int .i64 fa, .int .i64 fb, .int .i64 fc, .string ⟨fs.toArray⟩] 62))) := Lib.hid (((Below.refl _ _).alloc (Nat.le_refl _) _).alloc (by simp) _)
  rcases seLt_cases eu fu ei fi ⟨ea, eb, ec, es⟩ ⟨fa, fb, fc, fs⟩ with ⟨h1, h2⟩ | ⟨h1, t1, h2⟩ | ⟨h1, t1, h2⟩
  · have HL : Hid (∀ w, Calls Tryz.prog 76 #[.string ⟨eu.toArray⟩, .string ⟨fu.toArray⟩] w fun e w' => e = .returned (.bool true) ∧ w = w') := Lib.hid (rless_eq eu fu (Lib.hid h1))
    rw [h.out] at h2
    subst h2
    clear h h1
    go_enter Tryz.func41, Tryz.ntmps41
    go_wp2_with fail
    refine (HL.out _).mono ?_
    rintro e w1 ⟨rfl, rfl⟩
    go_wp2_with fail
    go_ret
    exact ⟨rfl, B0.out⟩
  · have HL : Hid (∀ w, Calls Tryz.prog 76 #[.string ⟨eu.toArray⟩, .string ⟨fu.toArray⟩] w fun e w' => e = .returned (.bool false) ∧ w = w') := Lib.hid (rless_eq eu fu (Lib.hid h1))
    rw [h.out] at h2
    subst h2
    clear h h1
    go_enter Tryz.func41, Tryz.ntmps41
    go_wp2_with fail
    refine (HL.out _).mono ?_
    rintro e w1 ⟨rfl, rfl⟩
    go_wp2_with fail
    go_ret
    exact ⟨rfl, B0.out⟩
  · have HL : Hid (∀ w, Calls Tryz.prog 76 #[.string ⟨eu.toArray⟩, .string ⟨fu.toArray⟩] w fun e w' => e = .returned (.bool false) ∧ w = w') := Lib.hid (rless_eq eu fu (Lib.hid h1))
    rw [h.out] at h2
    subst h2
    clear h h1
    go_enter Tryz.func41, Tryz.ntmps41
    go_wp2_with fail
    refine (HL.out _).mono ?_
    rintro e w1 ⟨rfl, rfl⟩
    go_wp2_with fail
    go_ret
    exact ⟨rfl, B0.out⟩

set_option maxHeartbeats 3200000 in
set_option maxRecDepth 100000 in
theorem smay9_any {w : World} {v : Value} {l : List Ses} (hv : Sess w v l) (hs : ShortS l) {r : Bool} (h : Hid (seMay l = r)) :
    Calls Tryz.prog 61 #[v] w fun e w' => e = .returned (.bool r) ∧ Below w.heap.size w w' := by
  have HV := Lib.hid hv
  have HS := Lib.hid hs
  obtain ⟨a, cap, rfl, hm⟩ := hv.open'
  clear hv hs
  by_cases h32 : l.length ≤ 32
  · have t0 : decide (32 < (l.length : Int)) = false := by simp; omega
    go_enter Tryz.func61, Tryz.ntmps61
    go_wp2_with fail
    go_loopw [10] (fun i wr => ∃ k : Nat, k ≤ l.length ∧ i = .int .i64 k ∧ Hid (Below w.heap.size w wr) ∧ Hid ((List.range k).all (seAt l) = true)) (fun i _ => l.length - (intOf i).toNat)
    case atStart => exact ⟨0, by omega, rfl, Below.refl _ _, rfl⟩
    case round =>
      obtain ⟨k, hk, rfl, HB, HA⟩ := hrel
      by_cases hlt : k < l.length
      · obtain ⟨bk, off, rfl, hc⟩ := HV.out.row HB.out k hlt
        obtain ⟨hl1, hl2⟩ := HS.out.get hlt
        obtain ⟨⟨eu, ei, ⟨ea, eb, ec, es⟩⟩, hr⟩ : ∃ r, l.getD k Ses.zero = r := ⟨_, rfl⟩
        rw [hr] at hc hl1 hl2
        try simp only at hl1 hl2
        have HC := Lib.hid hc
        obtain ⟨q, hq⟩ : ∃ q, seOne ⟨eu, ei, ⟨ea, eb, ec, es⟩⟩ = q := ⟨_, rfl⟩
        have HI := Lib.hid (mayBe_any eu es ei ea eb ec hl1 hl2 (Lib.hid hq))
        have hnn : (0 : Int) ≤ (k : Int) := by omega
        have hli : (k : Int) < (l.length : Int) := by omega
        have t1 : decide ((k : Int) < (l.length : Int)) = true := by simpa using hli
        obtain ⟨h0, h1, h2, h3, h4, h5⟩ := cells6 hc
        try simp only at h0 h1 h2 h3 h4 h5
        have C1 := Lib.hid (cellsAt_made (w := wr) (cs := #[.string ⟨eu.toArray⟩, .int .i64 ei, .int .i64 ea, .int .i64 eb, .int .i64 ec, .string ⟨es.toArray⟩]) (vs := sesVals ⟨eu, ei, ⟨ea, eb, ec, es⟩⟩) rfl 62 rfl)
        have bn := bl_newZ wr (.cells #[.string ⟨eu.toArray⟩, .int .i64 ei, .int .i64 ea, .int .i64 eb, .int .i64 ec, .string ⟨es.toArray⟩] 62)
        have B1 := Lib.hid (below2Z HB.out bn)
        clear hc bn
        cases q with
        | false =>
          have HR : seMay l = false := seMay_off hlt (by unfold seAt; rw [hr, hq]; rfl)
          rw [h.out] at HR
          subst HR
          clear hr hq
          go_wp2_with fail
          refine (HI.out _).mono ?_
          rintro e w2 ⟨rfl, b2⟩
          have B2 := Lib.hid (below2Z B1.out b2)
          clear b2 h0 h1 h2 h3 h4 h5
          go_wp2_with fail
          go_ret
          exact ⟨rfl, B2.out⟩
        | true =>
          rcases Nat.eq_zero_or_pos k with rfl | hpos
          · have HA2 : Hid ((List.range (0 + 1)).all (seAt l) = true) := all_next HA.out (by unfold seAt; rw [hr, hq]; rfl)
            simp only [Nat.zero_mul, Nat.add_zero] at h0 h1 h2 h3 h4 h5
            clear hr hq
            go_wp2_with fail
            refine (HI.out _).mono ?_
            rintro e w2 ⟨rfl, b2⟩
            have B2 := Lib.hid (below2Z B1.out b2)
            clear b2 h0 h1 h2 h3 h4 h5
            go_wp2_with fail
            refine wp_region_quiet_below (by kernel_rfl) (by kernel_rfl) ?_
            repeat (go_big_quiet_step (fail))
            refine wpQuiet_nil ?_
            intro w5 hw5
            have B5 := Lib.hid (below2Z B2.out (regrownZ hw5))
            clear hw5
            go_wp2_with fail
            go_roundw
            case rel => exact ⟨1, by omega, by go_num, B5, HA2⟩
            case measure => simp [intOf]; omega
          · obtain ⟨j, rfl⟩ : ∃ j, k = j + 1 := ⟨k - 1, by omega⟩
            obtain ⟨b2, off2, e2, hP⟩ := HV.out.row HB.out j (by omega)
            injection e2 with e2
            injection e2 with e3 e4 _
            subst e3 e4
            obtain ⟨⟨fu, fi, ⟨fa, fb, fc, fs⟩⟩, hr2⟩ : ∃ r, l.getD j Ses.zero = r := ⟨_, rfl⟩
            rw [hr2] at hP
            have HP := Lib.hid (hP.later (bl_newZ wr (.cells #[.string ⟨eu.toArray⟩, .int .i64 ei, .int .i64 ea, .int .i64 eb, .int .i64 ec, .string ⟨es.toArray⟩] 62)))
            obtain ⟨p, hp⟩ : ∃ p, seLt ⟨fu, fi, ⟨fa, fb, fc, fs⟩⟩ ⟨eu, ei, ⟨ea, eb, ec, es⟩⟩ = p := ⟨_, rfl⟩
            have HK1 := Lib.hid (keyOf_any fu fs fi fa fb fc)
            have HK2 := Lib.hid (keyOf_any eu es ei ea eb ec)
            have HL := Lib.hid (isAhead_any fu eu fi ei (r := p) (Lib.hid (by rw [← hp]; rfl)))
            have hAt : seAt l (j + 1) = p := by
              unfold seAt
              rw [hr, show j + 1 - 1 = j by omega, hr2, hq, hp]
              simp
            have em : ((j + 1 : Nat) : Int) - 1 = (j : Int) := by omega
            have t6 : (0 : Int) ≤ (j : Int) := by omega
            have t7 : (j : Int) < (l.length : Int) := by omega
            have t8 : decide ((0 : Int) < ((j + 1 : Nat) : Int)) = true := by rw [decide_eq_true_eq]; omega
            have HAt := Lib.hid hAt
            clear hr hq hr2 hp hP hAt
            go_wp2_with fail
            refine (HI.out _).mono ?_
            rintro e w2 ⟨rfl, b2⟩
            have B2 := Lib.hid (below2Z B1.out b2)
            have C2 := Lib.hid (C1.out.later b2)
            have P2 := Lib.hid (HP.out.later b2)
            clear b2 h0 h1 h2 h3 h4 h5
            go_wp2_with fail
            obtain ⟨q0, q1, q2, q3, q4, q5⟩ := cells6_regrown C2.out
            obtain ⟨p0, p1, p2, p3, p4, p5⟩ := cells6_regrown P2.out
            simp only [Nat.zero_add] at q0 q1 q2 q3 q4 q5
            try simp only at p0 p1 p2 p3 p4 p5
            refine wp_region_quiet_below (by kernel_rfl) (by kernel_rfl) ?_
            repeat (go_big_quiet_step (first | with_reducible exact rgB HK1.out _ _ _ | with_reducible exact rgB HK2.out _ _ _ | with_reducible exact rgB HL.out _ _ _))
            refine wpQuiet_nil ?_
            intro w5 hw5
            have B5 := Lib.hid (below2Z B2.out (regrownZ hw5))
            clear hw5 p0 p1 p2 p3 p4 p5 q0 q1 q2 q3 q4 q5
            cases p with
            | true =>
              have HA2 : Hid ((List.range (j + 1 + 1)).all (seAt l) = true) := all_next HA.out HAt.out
              go_wp2_with fail
              go_roundw
              case rel => exact ⟨j + 1 + 1, by omega, by go_num, B5, HA2⟩
              case measure => simp [intOf]; omega
            | false =>
              have HR : seMay l = false := seMay_off hlt HAt.out
              rw [h.out] at HR
              subst HR
              go_wp2_with fail
              go_ret
              exact ⟨rfl, B5.out⟩
      · obtain rfl : k = l.length := by omega
        have HR : seMay l = true := seMay_all h32 HA.out
        rw [h.out] at HR
        subst HR
        go_wp2_with fail
        go_ret
        exact ⟨rfl, HB.out⟩
  · have t0 : decide (32 < (l.length : Int)) = true := by simp; omega
    have HR : seMay l = false := seMay_long h32
    rw [h.out] at HR
    subst HR
    go_enter Tryz.func61, Tryz.ntmps61
    go_wp2_with fail
    go_ret
    exact ⟨rfl, Below.refl _ _⟩

set_option maxHeartbeats 3200000 in
set_option maxRecDepth 100000 in
theorem rsmay9_any {w : World} {v : Value} {l : List Ses} (hv : Sess w v l) (hs : ShortS l) {r : Bool} (h : Hid (seMay l = r)) :
    Calls Tryz.prog 16 #[v] w fun e w' => e = .returned (.bool r) ∧ Below w.heap.size w w' := by
  have HV := Lib.hid hv
  have HS := Lib.hid hs
  obtain ⟨a, cap, rfl, hm⟩ := hv.open'
  clear hv hs
  by_cases h32 : l.length ≤ 32
  · have t0 : decide (32 < (l.length : Int)) = false := by simp; omega
    go_enter Tryz.func16, Tryz.ntmps16
    go_wp2_with fail
    go_loopw [3] (fun i wr => ∃ k : Nat, k ≤ l.length ∧ i = .int .i64 k ∧ Hid (Below w.heap.size w wr) ∧ Hid ((List.range k).all (seAt l) = true)) (fun i _ => l.length - (intOf i).toNat)
    case atStart => exact ⟨0, by omega, rfl, Below.refl _ _, rfl⟩
    case round =>
      obtain ⟨k, hk, rfl, HB, HA⟩ := hrel
      by_cases hlt : k < l.length
      · obtain ⟨bk, off, rfl, hc⟩ := HV.out.row HB.out k hlt
        obtain ⟨hl1, hl2⟩ := HS.out.get hlt
        obtain ⟨⟨eu, ei, ⟨ea, eb, ec, es⟩⟩, hr⟩ : ∃ r, l.getD k Ses.zero = r := ⟨_, rfl⟩
        rw [hr] at hc hl1 hl2
        try simp only at hl1 hl2
        have HC := Lib.hid hc
        obtain ⟨q, hq⟩ : ∃ q, seOne ⟨eu, ei, ⟨ea, eb, ec, es⟩⟩ = q := ⟨_, rfl⟩
        have HI := Lib.hid (rone_any eu es ei ea eb ec hl1 hl2 (Lib.hid hq))
        have hnn : (0 : Int) ≤ (k : Int) := by omega
        have hli : (k : Int) < (l.length : Int) := by omega
        have t1 : decide ((k : Int) < (l.length : Int)) = true := by simpa using hli
        obtain ⟨h0, h1, h2, h3, h4, h5⟩ := cells6_regrown hc
        try simp only at h0 h1 h2 h3 h4 h5
        clear hc
        cases q with
        | false =>
          have HR : seMay l = false := seMay_off hlt (by unfold seAt; rw [hr, hq]; rfl)
          rw [h.out] at HR
          subst HR
          clear hr hq
          go_wp2_with fail
          refine wp_region_quiet_below (by kernel_rfl) (by kernel_rfl) ?_
          repeat (go_big_quiet_step (with_reducible exact rgB HI.out _ _ _))
          refine wpQuiet_nil ?_
          intro w5 hw5
          have B5 := Lib.hid (below2Z HB.out (regrownZ hw5))
          clear hw5 h0 h1 h2 h3 h4 h5
          go_wp2_with fail
          go_ret
          exact ⟨rfl, B5.out⟩
        | true =>
          rcases Nat.eq_zero_or_pos k with rfl | hpos
          · have HA2 : Hid ((List.range (0 + 1)).all (seAt l) = true) := all_next HA.out (by unfold seAt; rw [hr, hq]; rfl)
            simp only [Nat.zero_mul, Nat.add_zero] at h0 h1 h2 h3 h4 h5
            clear hr hq
            go_wp2_with fail
            refine wp_region_quiet_below (by kernel_rfl) (by kernel_rfl) ?_
            repeat (go_big_quiet_step (with_reducible exact rgB HI.out _ _ _))
            refine wpQuiet_nil ?_
            intro w5 hw5
            have B5 := Lib.hid (below2Z HB.out (regrownZ hw5))
            clear hw5 h0 h1 h2 h3 h4 h5
            go_wp2_with fail
            go_roundw
            case rel => exact ⟨1, by omega, by go_num, B5, HA2⟩
            case measure => simp [intOf]; omega
          · obtain ⟨j, rfl⟩ : ∃ j, k = j + 1 := ⟨k - 1, by omega⟩
            obtain ⟨b2, off2, e2, hP⟩ := HV.out.row HB.out j (by omega)
            injection e2 with e2
            injection e2 with e3 e4 _
            subst e3 e4
            obtain ⟨⟨fu, fi, ⟨fa, fb, fc, fs⟩⟩, hr2⟩ : ∃ r, l.getD j Ses.zero = r := ⟨_, rfl⟩
            rw [hr2] at hP
            obtain ⟨p0, p1, p2, p3, p4, p5⟩ := cells6_regrown hP
            try simp only at p0 p1 p2 p3 p4 p5
            obtain ⟨p, hp⟩ : ∃ p, seLt ⟨fu, fi, ⟨fa, fb, fc, fs⟩⟩ ⟨eu, ei, ⟨ea, eb, ec, es⟩⟩ = p := ⟨_, rfl⟩
            have HL := Lib.hid (rahead_any fu fs eu es fi fa fb fc ei ea eb ec (r := p) (Lib.hid hp))
            have hAt : seAt l (j + 1) = p := by
              unfold seAt
              rw [hr, show j + 1 - 1 = j by omega, hr2, hq, hp]
              simp
            have em : ((j + 1 : Nat) : Int) - 1 = (j : Int) := by omega
            have t6 : (0 : Int) ≤ (j : Int) := by omega
            have t7 : (j : Int) < (l.length : Int) := by omega
            have t8 : decide ((0 : Int) < ((j + 1 : Nat) : Int)) = true := by rw [decide_eq_true_eq]; omega
            have HAt := Lib.hid hAt
            clear hr hq hr2 hp hP hAt
            go_wp2_with fail
            refine wp_region_quiet_below (by kernel_rfl) (by kernel_rfl) ?_
            repeat (go_big_quiet_step (first | with_reducible exact rgB HI.out _ _ _ | with_reducible exact rgB HL.out _ _ _))
            refine wpQuiet_nil ?_
            intro w5 hw5
            have B5 := Lib.hid (below2Z HB.out (regrownZ hw5))
            clear hw5 p0 p1 p2 p3 p4 p5 h0 h1 h2 h3 h4 h5
            cases p with
            | true =>
              have HA2 : Hid ((List.range (j + 1 + 1)).all (seAt l) = true) := all_next HA.out HAt.out
              go_wp2_with fail
              go_roundw
              case rel => exact ⟨j + 1 + 1, by omega, by go_num, B5, HA2⟩
              case measure => simp [intOf]; omega
            | false =>
              have HR : seMay l = false := seMay_off hlt HAt.out
              rw [h.out] at HR
              subst HR
              go_wp2_with fail
              go_ret
              exact ⟨rfl, B5.out⟩
      · obtain rfl : k = l.length := by omega
        have HR : seMay l = true := seMay_all h32 HA.out
        rw [h.out] at HR
        subst HR
        go_wp2_with fail
        go_ret
        exact ⟨rfl, HB.out⟩
  · have t0 : decide (32 < (l.length : Int)) = true := by simp; omega
    have HR : seMay l = false := seMay_long h32
    rw [h.out] at HR
    subst HR
    go_enter Tryz.func16, Tryz.ntmps16
    go_wp2_with fail
    go_ret
    exact ⟨rfl, Below.refl _ _⟩

end Go.Proofs.YthfkfonfiejbmaaGreat

end

section

/-
  LAYER 14: May of the code and of the document; a block of slices, written, leaves rows alone.
-/
namespace Go.Proofs.YthfkfonfiejbmaaGreat
open Go.RowKit

theorem upT {w w' : World} {b : Nat} {o : Obj} (h : w.heap[b]? = some o) (hb : Below w.heap.size w w') : w'.heap[b]? = some o :=
  (hb.block b (Array.getElem?_eq_some_iff.1 h).1).trans h

theorem heap_newT (w : World) (o : Obj) : (w.alloc o).heap[w.heap.size]? = some o := (MapKept.heap_alloc w o).1

theorem two_T {w : World} {b : Nat} {x0 x1 : Value} {T : TypeId} (h : w.heap[b]? = some (.cells #[x0, x1] T (0, 0))) : w.cell? ⟨b, 0, none⟩ = some x0 ∧ w.cell? ⟨b, 1, none⟩ = some x1 ∧ w.frozen? ⟨b, 0, none⟩ = false ∧ w.frozen? ⟨b, 1, none⟩ = false :=
  ⟨cell_of_row w b 0 _ _ (0, 0) h, cell_of_row w b 1 _ _ (0, 0) h, frozen_of_row w b 0 _ _ h, frozen_of_row w b 1 _ _ h⟩

/-- Cells that are slices, all of them. -/
def AllSl (cs : Array Value) : Prop := ∀ (j : Nat) (u : Value), cs[j]? = some u → ∃ a n c, u = Value.slice a n c

theorem AllSl.no {cs : Array Value} (h : AllSl cs) : ∀ (j : Nat) (s : ByteArray), cs[j]? ≠ some (Value.string s) := by
  intro j s e
  obtain ⟨_, _, _, hx⟩ := h _ _ e
  cases hx

theorem rdS_keep {α : Type} {vals : α → List Value} {sz : Nat} {zero : α} {w : World} {v : Value} {t : List α} (h : RdS vals sz zero w v t) (hf : ∀ r, ∃ s, (vals r)[0]? = some (.string s)) {S : Nat} {cs : Array Value} {T : TypeId} {m : Nat × Nat} (hb : w.heap[S]? = some (.cells cs T m)) (hs : ∀ (j : Nat) (s : ByteArray), cs[j]? ≠ some (Value.string s)) (j : Nat) (u : Value) :
    RdS vals sz zero (w.setCell ⟨S, j, none⟩ u) v t := by
  obtain ⟨a, cap, h1, h2, h3, h4, h5⟩ := h
  refine ⟨a, cap, h1, h2, h3, h4, ?_⟩
  rcases h5 with h5 | ⟨b, off, e, hlt, hc⟩
  · exact .inl h5
  · by_cases ht : t = []
    · exact .inl ht
    · have hpos : 0 < t.length := List.length_pos_iff.2 ht
      have hne : b ≠ S := by
        rintro rfl
        obtain ⟨s, hs0⟩ := hf (t.getD 0 zero)
        have h0 := hc 0 hpos 0 _ hs0
        simp only [World.cell?, hb] at h0
        have h0' : cs[off + 0 * sz + 0]? = some (.string s) := by simpa using h0
        exact hs _ _ h0'
      refine .inr ⟨b, off, e, by simpa [World.setCell] using hlt, fun i hi => ?_⟩
      intro k x hx
      rw [World.cell?_setCell_other _ _ _ _ (by simp)]
      exact hc i hi k x hx

theorem StAt.keep {w : World} {x y : Value} {t : Sta} (h : StAt w x y t) {S : Nat} {cs : Array Value} {T : TypeId} {m : Nat × Nat} (hb : w.heap[S]? = some (.cells cs T m)) (hs : ∀ (j : Nat) (s : ByteArray), cs[j]? ≠ some (Value.string s)) (j : Nat) (u : Value) : StAt (w.setCell ⟨S, j, none⟩ u) x y t :=
  ⟨(rdS_keep h.1.rdS (fun _ => ⟨_, rfl⟩) hb hs j u).ents, rdS_keep h.2 (fun _ => ⟨_, rfl⟩) hb hs j u⟩

set_option maxHeartbeats 1600000 in
set_option maxRecDepth 100000 in
theorem stmay_any {w : World} {x y : Value} {t : Sta} (h : StAt w x y t) (he : ShortE t.e) (hs : ShortS t.s) {r : Bool} (hr : Hid (stMay t = r)) :
    Calls Tryz.prog 27 #[.agg #[x, y]] w fun e w' => e = .returned (.bool r) ∧ Below w.heap.size w w' := by
  have hr := hr.out
  unfold stMay at hr
  have b0 := bl_newZ w (.cells #[x, y] 25)
  have HB := Lib.hid b0
  have H := Lib.hid (h.later b0)
  have F := Lib.hid (heap_newT w (.cells #[x, y] 25))
  have HE := Lib.hid he
  have HS := Lib.hid hs
  obtain ⟨c0, c1, -, -⟩ := two_T F.out
  obtain ⟨a, ha⟩ : ∃ a, roMayC t.e = a := ⟨_, rfl⟩
  obtain ⟨b, hb⟩ : ∃ b, seMay t.s = b := ⟨_, rfl⟩
  rw [ha, hb] at hr
  have HA := Lib.hid ha
  have HC := Lib.hid hb
  clear ha hb b0 h he hs
  cases a with
  | false =>
    rw [Bool.false_and] at hr
    subst hr
    go_enter Tryz.func27, Tryz.ntmps27
    go_wp2_with fail
    refine (romay_any H.out.1 HE.out HA).mono ?_
    rintro e w1 ⟨rfl, b1⟩
    replace HB := Lib.hid (below2Z HB.out b1)
    clear b1 c0 c1
    go_wp2_with fail
    go_ret
    exact ⟨rfl, HB.out⟩
  | true =>
    rw [Bool.true_and] at hr
    subst hr
    go_enter Tryz.func27, Tryz.ntmps27
    go_wp2_with fail
    refine (romay_any H.out.1 HE.out HA).mono ?_
    rintro e w1 ⟨rfl, b1⟩
    replace HB := Lib.hid (below2Z HB.out b1)
    replace H := Lib.hid (H.out.later b1)
    replace F := Lib.hid (upT F.out b1)
    clear b1 c0 c1
    obtain ⟨c0, c1, -, -⟩ := two_T F.out
    go_wp2_with fail
    refine (smay9_any H.out.2 HS.out HC).mono ?_
    rintro e w2 ⟨rfl, b2⟩
    replace HB := Lib.hid (below2Z HB.out b2)
    clear b2 c0 c1
    go_wp2_with fail
    go_ret
    exact ⟨rfl, HB.out⟩

set_option maxHeartbeats 1600000 in
set_option maxRecDepth 100000 in
theorem rstmay_any {w : World} {x y : Value} {t : Sta} (h : StAt w x y t) (he : ShortE t.e) (hl : t.e.length ≤ 4294967) (hs : ShortS t.s) {r : Bool} (hr : Hid (stMay t = r)) :
    Calls Tryz.prog 5 #[.agg #[x, y]] w fun e w' => e = .returned (.bool r) ∧ Below w.heap.size w w' := by
  have hr := hr.out
  unfold stMay at hr
  rw [← roMay_same] at hr
  have b0 := bl_newZ w (.cells #[x, y] 25)
  have HB := Lib.hid b0
  have H := Lib.hid (h.later b0)
  have F := Lib.hid (heap_newT w (.cells #[x, y] 25))
  have HE := Lib.hid he
  have HS := Lib.hid hs
  obtain ⟨c0, c1, -, -⟩ := two_T F.out
  obtain ⟨a, ha⟩ : ∃ a, roMayD t.e = a := ⟨_, rfl⟩
  obtain ⟨b, hb⟩ : ∃ b, seMay t.s = b := ⟨_, rfl⟩
  rw [ha, hb] at hr
  have HA := Lib.hid ha
  have HC := Lib.hid hb
  clear ha hb b0 h he hs
  cases a with
  | false =>
    rw [Bool.false_and] at hr
    subst hr
    go_enter Tryz.func5, Tryz.ntmps5
    go_wp2_with fail
    refine (rmay8_any H.out.1 HE.out hl HA).mono ?_
    rintro e w1 ⟨rfl, b1⟩
    replace HB := Lib.hid (below2Z HB.out b1)
    clear b1 c0 c1
    go_wp2_with fail
    go_ret
    exact ⟨rfl, HB.out⟩
  | true =>
    rw [Bool.true_and] at hr
    subst hr
    go_enter Tryz.func5, Tryz.ntmps5
    go_wp2_with fail
    refine (rmay8_any H.out.1 HE.out hl HA).mono ?_
    rintro e w1 ⟨rfl, b1⟩
    replace HB := Lib.hid (below2Z HB.out b1)
    replace H := Lib.hid (H.out.later b1)
    replace F := Lib.hid (upT F.out b1)
    clear b1 c0 c1
    obtain ⟨c0, c1, -, -⟩ := two_T F.out
    go_wp2_with fail
    refine (rsmay9_any H.out.2 HS.out HC).mono ?_
    rintro e w2 ⟨rfl, b2⟩
    replace HB := Lib.hid (below2Z HB.out b2)
    clear b2 c0 c1
    go_wp2_with fail
    go_ret
    exact ⟨rfl, HB.out⟩

end Go.Proofs.YthfkfonfiejbmaaGreat

end

section

/-
  LAYER 11, THE DOCUMENT's: which of two values is worth more. Few sessions.
-/
namespace Go.Proofs.YthfkfonfiejbmaaGreat
open Go.RowKit

/-- At most n sessions, of few bytes. -/
def fewOne (s : Ses) : Bool := decide (s.u.length ≤ 40) && decide (s.v.st.length ≤ 60)

def fewSes (l : List Ses) : Bool := decide (l.length ≤ 50) && l.all fewOne

theorem few_off {l : List Ses} {k : Nat} (hk : k < l.length) (h : fewOne (sat l k) = false) : fewSes l = false := by
  unfold fewSes
  rw [show l.all fewOne = false from ?_, Bool.and_false]
  rw [List.all_eq_false]
  rw [show sat l k = l[k] from sgetDB hk] at h
  exact ⟨l[k], List.getElem_mem hk, by rw [h]; simp⟩

theorem few_on {l : List Ses} {k : Nat} (ha : ∀ j, j < k → fewOne (sat l j) = true) (h : fewOne (sat l k) = true) : ∀ j, j < k + 1 → fewOne (sat l j) = true := by
  intro j hj
  by_cases e : j = k
  · rw [e]; exact h
  · exact ha j (by omega)

theorem few_all {l : List Ses} (hl : l.length ≤ 50) (ha : ∀ j, j < l.length → fewOne (sat l j) = true) : fewSes l = true := by
  unfold fewSes
  rw [show decide (l.length ≤ 50) = true by simpa using hl, Bool.true_and, List.all_eq_true]
  intro s hs
  obtain ⟨j, hj, rfl⟩ := List.getElem_of_mem hs
  have := ha j hj
  rwa [show sat l j = l[j] from sgetDB hj] at this

theorem few_get {l : List Ses} (h : fewSes l = true) : l.length ≤ 50 ∧ ∀ s ∈ l, s.u.length ≤ 40 ∧ s.v.st.length ≤ 60 := by
  unfold fewSes at h
  rw [Bool.and_eq_true, List.all_eq_true] at h
  refine ⟨by simpa using h.1, fun s hs => ?_⟩
  have := h.2 s hs
  unfold fewOne at this
  simpa using this

set_option maxHeartbeats 1600000 in
set_option maxRecDepth 100000 in
theorem few09_eq {w : World} {v : Value} {l : List Ses} (hv : Sess w v l) {r : Bool} (hr : fewSes l = r) :
    Calls Tryz.prog 14 #[v] w fun e w' => e = .returned (.bool r) ∧ w = w' := by
  have HV := Lib.hid hv
  obtain ⟨ao, cap, rfl, hm⟩ := hv.open'
  clear hv
  by_cases hl : l.length ≤ 50
  · have t0 : decide (50 < (l.length : Int)) = false := by simp; omega
    have HR := Lib.hid hr
    clear hr
    go_enter Tryz.func14, Tryz.ntmps14
    go_wp2_with fail
    go_loop [3] (fun t => ∃ k : Nat, k ≤ l.length ∧ t = .int .i64 k ∧ Hid (∀ j, j < k → fewOne (sat l j) = true)) (fun t => l.length - (intOf t).toNat)
    case atStart => exact ⟨0, by omega, rfl, by show ∀ _, _; intro j hj; omega⟩
    case round =>
      obtain ⟨k, hk, rfl, HA⟩ := hrel
      by_cases hlt : k < l.length
      · obtain ⟨b, off, rfl, hc⟩ := HV.out.row (Below.refl _ _) k hlt
        have hA1 := few_off (l := l) hlt
        have hA2 := few_on (l := l) (k := k) HA.out
        obtain ⟨⟨xn, xi, ⟨xa, xb, xc, xs⟩⟩, hx⟩ : ∃ s, sat l k = s := ⟨_, rfl⟩
        rw [show l.getD k Ses.zero = sat l k from rfl, hx] at hc
        rw [hx] at hA1 hA2
        obtain ⟨s0, s1, s2, s3, s4, s5⟩ := cells6 hc
        try simp only at s0 s1 s2 s3 s4 s5
        by_cases h1 : xn.length ≤ 40
        · have t1 : decide (40 < (xn.length : Int)) = false := by simp; omega
          by_cases h2 : xs.length ≤ 60
          · have t2 : decide (60 < (xs.length : Int)) = false := by simp; omega
            have HA2 : Hid (∀ j, j < k + 1 → fewOne (sat l j) = true) := hA2 (by unfold fewOne; simp [h1, h2])
            clear hA1 hA2 hx hc h1 h2
            go_wp2_with fail
            go_round
            case rel => exact ⟨k + 1, by omega, by go_num, HA2⟩
            case measure => simp [intOf]; omega
          · have t2 : decide (60 < (xs.length : Int)) = true := by simp; omega
            have HRF : Hid (false = r) := by show _ = _; rw [← HR.out, hA1 (by unfold fewOne; simp [h1]; omega)]
            clear hA1 hA2 hx hc h1 h2
            go_wp2_with fail
            go_ret
            exact ⟨by rw [← HRF.out]; rfl, rfl⟩
        · have t1 : decide (40 < (xn.length : Int)) = true := by simp; omega
          have HRF : Hid (false = r) := by show _ = _; rw [← HR.out, hA1 (by unfold fewOne; simp [h1])]
          clear hA1 hA2 hx hc h1
          go_wp2_with fail
          go_ret
          exact ⟨by rw [← HRF.out]; rfl, rfl⟩
      · obtain rfl : k = l.length := by omega
        have HRF : Hid (true = r) := by show _ = _; rw [← HR.out, few_all hl HA.out]
        go_wp2_with fail
        go_ret
        exact ⟨by rw [← HRF.out]; rfl, rfl⟩
  · have t0 : decide (50 < (l.length : Int)) = true := by simp; omega
    have HRF : Hid (false = r) := by
      show _ = _
      rw [← hr]
      unfold fewSes
      rw [show decide (l.length ≤ 50) = false by simp; omega]
      rfl
    clear hr hl
    go_enter Tryz.func14, Tryz.ntmps14
    go_wp2_with fail
    go_ret
    exact ⟨by rw [← HRF.out]; rfl, rfl⟩

end Go.Proofs.YthfkfonfiejbmaaGreat

end
