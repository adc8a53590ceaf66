/-
  slices.Clone, slices.Insert AND slices.Delete of one element, at elements of 6 cells.
-/
import Derived.Test.YtkmbnpjnjlcjmaaSesRow
import Derived.Lib.Hide
import Derived.Maps.OwnSet
import Derived.Deep.RegionHeld
import Derived.Deep.AppendLies
import Derived.WalkSpells
import Derived.StillTailTactics
namespace Go.Proofs.Ytkmbnpjnjlcjmaa
open Go.RowKit

set_option maxHeartbeats 800000 in
set_option maxRecDepth 100000 in
theorem ses_clone {w : World} {v : Value} {t : List Ses} (hv : RdS sesVals 6 Ses.zero w v t) (hl : t.length ≤ 4294967) :
    Calls Try.prog 57 #[v] w fun e w' => ∃ u, e = .returned u ∧ OwnS sesVals 6 34 w' w.heap.size u t ∧ Below w.heap.size w w' := by
  have HV := Lib.hid hv
  obtain ⟨a, cap, rfl, h1, h2, h3, h4⟩ := hv
  cases a with
  | none =>
    obtain rfl : cap = 0 := h3 rfl
    obtain rfl : t = [] := List.length_eq_zero_iff.1 (by omega)
    have heq := fun w => eqlS_nil_nil sesOK w 0 0
    clear h4
    go_enter Try.func57, Try.ntmps57
    go_wp2_with fail
    go_ret
    exact ⟨_, rfl, ownS_nil _ _, Below.refl _ _⟩
  | some x =>
    have HS := Lib.hid ((HV.out.later ((Below.refl _ _).alloc (Nat.le_refl _) (.cells #[] 34))).src sesOK)
    have heq := fun w => eqlS_nil_some sesOK w x t.length cap
    clear h4 h3
    go_enter Try.func57, Try.ntmps57
    go_wp2_with (at_builtin; go_must (refine wpList_append_S sesOK rfl _ _ rfl w.heap.size _ [] rfl (by exact ownS_made w) (some x) t.length cap t rfl rfl (fun e => nomatch e) ?c1 (by simp only [List.length_nil]; omega) (by simp) ?_))
    case c1 => intro ad had; obtain rfl := Option.some.inj had; exact HS.out
    intro v' w' ho' hb'
    have O := Lib.hid ho'
    have hbB : Hid (Below w.heap.size w w') := ((Below.refl w.heap.size w).alloc (Nat.le_refl _) _).trans hb'
    clear ho' hb'
    go_wp2_with fail
    go_ret
    exact ⟨_, rfl, by have := O.out; simpa using this, hbB.out⟩

theorem putS_end {β : Type} (t : List β) (r : β) : putS t t.length r = t ++ [r] := by simp [putS]

set_option maxHeartbeats 1600000 in
set_option maxRecDepth 100000 in
theorem ses_ins_end {w : World} {base : Nat} {v : Value} {t : List Ses} (ho : OwnS sesVals 6 34 w base v t) (hbase : base ≤ w.heap.size) (hl : t.length ≤ 1000) {B : Nat} {r : Ses} (hr : LoneS sesVals 34 w B r) :
    Calls Try.prog 58 #[v, .int .i64 t.length, .slice (some ⟨B, 0, none⟩) 1 1] w fun e w' => ∃ u, e = .returned u ∧ OwnS sesVals 6 34 w' base u (putS t t.length r) ∧ Below base w w' := by
  have HO := Lib.hid ho
  have HS := Lib.hid hr.src
  have HE := Lib.hid (putS_end t r)
  have t0 : ((t.length : Int) == (t.length : Int)) = true := by simp
  rcases ho.2 with ⟨rfl, h0⟩ | ⟨g, cap, cur, rfl, _, _, hnc, hcm, _⟩
  · obtain rfl : t = [] := List.length_eq_zero_iff.1 h0
    clear ho hr h0
    go_enter Try.func58, Try.ntmps58
    go_wp2_with (at_builtin; go_must (refine wpList_append_S sesOK rfl _ _ rfl base _ [] rfl (by exact HO.out) (some ⟨B, 0, none⟩) 1 1 [r] rfl rfl (fun e => nomatch e) ?c1 (by simp) hbase ?_))
    case c1 => intro ad had; obtain rfl := Option.some.inj had; exact HS.out
    intro v' w' ho' hb'
    have O := Lib.hid ho'
    have HB := Lib.hid hb'
    clear ho' hb'
    go_wp2_with fail
    go_ret
    exact ⟨_, rfl, O.out, HB.out⟩
  · unfold maxLen at hcm
    clear ho hr
    by_cases hc : cap = t.length
    · subst hc
      go_enter Try.func58, Try.ntmps58
      go_wp2_with (at_builtin; go_must (refine wpList_append_S sesOK rfl _ _ rfl base _ t rfl (by exact HO.out) (some ⟨B, 0, none⟩) 1 1 [r] rfl rfl (fun e => nomatch e) ?c1 (by simp only [List.length_cons, List.length_nil]; omega) hbase ?_))
      case c1 => intro ad had; obtain rfl := Option.some.inj had; exact HS.out
      intro v' w' ho' hb'
      have O := Lib.hid ho'
      have HB := Lib.hid hb'
      clear ho' hb'
      go_wp2_with fail
      go_ret
      exact ⟨_, rfl, by rw [HE.out]; exact O.out, HB.out⟩
    · go_enter Try.func58, Try.ntmps58
      go_wp2_with (at_builtin; go_must (refine wpList_append_S sesOK rfl _ _ rfl base _ t rfl (by exact HO.out) (some ⟨B, 0, none⟩) 1 1 [r] rfl rfl (fun e => nomatch e) ?c1 (by simp only [List.length_cons, List.length_nil]; omega) hbase ?_))
      case c1 => intro ad had; obtain rfl := Option.some.inj had; exact HS.out
      intro v' w' ho' hb'
      have O := Lib.hid ho'
      have HB := Lib.hid hb'
      clear ho' hb'
      go_wp2_with fail
      go_ret
      exact ⟨_, rfl, by rw [HE.out]; exact O.out, HB.out⟩

set_option maxHeartbeats 3200000 in
set_option maxRecDepth 100000 in
theorem ses_ins_grow {w : World} {base g cap : Nat} {t : List Ses} (ho : OwnS sesVals 6 34 w base (.slice (some ⟨g, 0, none⟩) t.length cap) t) (hbase : base ≤ w.heap.size) (hl : t.length ≤ 1000) {i : Nat} (hi : i < t.length) (hc : cap = t.length) {B : Nat} {r : Ses} (hr : LoneS sesVals 34 w B r) :
    Calls Try.prog 58 #[.slice (some ⟨g, 0, none⟩) t.length cap, .int .i64 i, .slice (some ⟨B, 0, none⟩) 1 1] w fun e w' => ∃ u, e = .returned u ∧ OwnS sesVals 6 34 w' base u (putS t i r) ∧ Below base w w' := by
  subst hc
  have HO := Lib.hid ho
  have HR := Lib.hid hr
  have HE := Lib.hid (layS_grow Ses.zero hi r)
  have t0 : ((i : Int) == (t.length : Int)) = false := by simp; omega
  have t1 : ¬ t.length = i := by omega
  have hw1 : IntKind.i64.wrap ((i : Int) + 1) = (i : Int) + 1 := IntWalk.i64_in _ (by omega)
  have htn : ((i : Int) + 1).toNat = i + 1 := by omega
  have hb0 : (0 : Int) ≤ (i : Int) + 1 := by omega
  have hin : i ≤ t.length := by omega
  have hgw := ho.head.2.2.1
  have hBw := hr.lt
  clear ho hr
  go_enter Try.func58, Try.ntmps58
  go_wp2_with (with_reducible refine wpList_append_zero_S sesOK Try.underlying3 rfl (.tmp 34) (.tmp 39) rfl base g t.length t.length t HO.out i (t.length + 1 - i) (t.length + 1) ((t.length : Int) + 1 - (i : Int)) rfl rfl (by omega) (by omega) (by omega) (by omega) (by omega) (by omega) ?_)
  intro w1 G h1 hG hGm hb1
  have O1 := Lib.hid h1
  have B1 := Lib.hid hb1
  have S1 := Lib.hid (HR.out.later hb1).src
  have P1 := Lib.hid (HO.out.later hb1)
  have hsz := hb1.size
  have hlen : (t.take i ++ List.replicate (t.length + 1 - i) Ses.zero).length = t.length + 1 := by rw [List.length_append, List.length_take, List.length_replicate]; omega
  have t2 : ¬ G = i := by omega
  have t3 : ¬ G = i + 1 := by omega
  have O1r : Hid (OwnCS 6 34 w1 w.heap.size w.heap.size (t.length + 1) G (cellsS sesVals (t.take i ++ List.replicate (t.length + 1 - i) Ses.zero))) := h1.raw
  clear h1 hb1
  go_wp2_with (with_reducible refine wpList_copy_C sesOK rfl (.tmp 43) (.tmp 44) rfl w.heap.size w.heap.size (t.length + 1) G _ O1r.out i (t.length + 1 - i) (G - i) ⟨B, 0, none⟩ 1 1 rfl rfl [r] (by simp only [List.length_singleton, Nat.min_def]; split <;> omega) S1.out (by simp only [List.length_singleton]; omega) ?_)
  intro w2 h2 hb2 hk2
  rw [cellsS_lay sesOK.len] at h2
  have O2 := Lib.hid h2
  have B2 := Lib.hid (B1.out.trans (hb2.mono (Nat.le_refl _)))
  have P2 : Hid (SrcS sesVals w2.drew ⟨g, i * 6, none⟩ (t.drop i)) := by
    show SrcS sesVals _ _ _
    intro j x hx
    have := P1.out.src sesOK i (t.length - i) (by omega) j x (by rw [List.take_of_length_le (by rw [List.length_drop]; omega)]; exact hx)
    exact (hk2 _ (by rw [Addr.add_lit]; show g ≠ w.heap.size; omega)).trans this
  clear h2 hb2 hk2 O1 O1r B1 S1
  go_wp2_with fail
  go_region_law (refine step_copy_C sesOK rfl (.tmp 50) (.tmp 53) rfl w.heap.size w.heap.size (t.length + 1) G _ O2.out.drew (i + 1) (t.length - i) (G - (i + 1)) ⟨g, i * 6, none⟩ (t.length - i) (t.length - i) (by simp [Act.eval, Act.put]) (by simp [Act.eval, Act.put]) (t.drop i) (by simp only [List.length_drop, Nat.min_def]; split <;> omega) P2.out (by rw [List.length_drop]; omega) ?_; intro w3 h3 hb3 hk3)
  all_goals
    rw [cellsS_lay sesOK.len, HE.out] at h3
    have O3 := Lib.hid (h3.rows (putS_len t i r).symm)
    have B3 := Lib.hid ((B2.out.mono hbase).drew.trans (hb3.mono hbase))
    clear h3 hb3 hk3
    go_wp2_with fail
    go_ret
    exact ⟨_, rfl, ownS_low O3.out hbase, B3.out⟩

set_option maxHeartbeats 3200000 in
set_option maxRecDepth 100000 in
theorem ses_ins_room {w : World} {base g cap : Nat} {t : List Ses} (ho : OwnS sesVals 6 34 w base (.slice (some ⟨g, 0, none⟩) t.length cap) t) (hl : t.length ≤ 1000) {i : Nat} (hi : i < t.length) (hc : t.length < cap) (hcm : cap ≤ 9223372036854775807) {B : Nat} {r : Ses} (hr : LoneS sesVals 34 w B r) (hne : B ≠ g) :
    Calls Try.prog 58 #[.slice (some ⟨g, 0, none⟩) t.length cap, .int .i64 i, .slice (some ⟨B, 0, none⟩) 1 1] w fun e w' => ∃ u, e = .returned u ∧ OwnS sesVals 6 34 w' base u (putS t i r) ∧ Below base w w' := by
  obtain ⟨z, hz, hw⟩ := ownS_wider ho hc
  have HO := Lib.hid hw
  have HS := Lib.hid hr.src
  have hin2 : (i : Int) ≤ (t.length : Int) + 1 := by omega
  have S0 : Hid (SrcS sesVals w.drew ⟨g, i * 6, none⟩ (t.drop i)) := by
    show SrcS sesVals _ _ _
    intro j x hx
    exact ho.src sesOK i (t.length - i) (by omega) j x (by rw [List.take_of_length_le (by rw [List.length_drop]; omega)]; exact hx)
  have HE := Lib.hid (layS_room sesOK.len hi r z hz)
  have HG := Lib.hid ho.head.2.1
  have t0 : ((i : Int) == (t.length : Int)) = false := by simp; omega
  have t1 : ¬ cap = i := by omega
  have t2 : ¬ cap = i + 1 := by omega
  have hw1 : IntKind.i64.wrap ((i : Int) + 1) = (i : Int) + 1 := IntWalk.i64_in _ (by omega)
  have htn : ((i : Int) + 1).toNat = i + 1 := by omega
  have hb0 : (0 : Int) ≤ (i : Int) + 1 := by omega
  have hin : i ≤ t.length := by omega
  have hov : ∀ lb cb, (callFunc 87 #[.slice (some ⟨B, 0, none⟩) 1 1, .slice (some ⟨g, (i + 1) * 6, none⟩) lb cb]).run Try.prog w = .ok (.value (.bool false)) w := fun lb cb => by
    obtain ⟨_, _, _, _, _, cur, hg, hcs⟩ := ho.head
    rw [run_callFunc_extern Try.func87 (by kernel_rfl) (by kernel_rfl) (by kernel_rfl) (e := Extern.SlicesOverlaps.overlaps #[22, 22] #[4]) (by kernel_rfl),
      Lib.run_overlaps_apart w 22 4 34 Try.underlying22 6 (sizeS sesOK) ⟨B, 0, none⟩ ⟨g, (i + 1) * 6, none⟩ 1 1 lb cb hne _ _ _ _ (hr.shape sesOK.len) (ownS_shape hg) (by omega) (hr.free _) (hr.free _)]
    rfl
  clear ho hr hw
  go_enter Try.func58, Try.ntmps58
  go_wp2_with (simp only [hov])
  go_region_law (refine step_copy_C sesOK rfl (.tmp 73) (.tmp 76) rfl base g (t.length + 1) cap _ HO.out.drew (i + 1) (t.length - i) (cap - (i + 1)) ⟨g, i * 6, none⟩ (t.length + 1 - i) (cap - i) (by simp [Act.eval, Act.put]) (by simp [Act.eval, Act.put]) (t.drop i) (by simp only [List.length_drop, Nat.min_def]; split <;> omega) S0.out (by rw [List.length_drop]; omega) ?_; intro w1 h1 hb1 hk1)
  all_goals
    have O1 := Lib.hid h1
    have B1 := Lib.hid ((Below.refl base w).drew.trans (hb1.mono HG.out))
    have S1 : Hid (SrcS sesVals w1 ⟨B, 0, none⟩ [r]) := by
      show SrcS sesVals _ _ _
      intro j x hx
      exact (hk1 _ (by rw [Addr.add_lit]; exact hne)).trans (HS.out j x hx)
    clear h1 hb1 hk1
    go_wp2_with (with_reducible refine wpList_copy_C sesOK rfl (.tmp 80) (.tmp 81) rfl base g (t.length + 1) cap _ O1.out i (t.length + 1 - i) (cap - i) ⟨B, 0, none⟩ 1 1 rfl rfl [r] (by simp only [List.length_singleton, Nat.min_def]; split <;> omega) S1.out (by simp only [List.length_singleton]; omega) ?_)
    intro w2 h2 hb2 hk2
    rw [HE.out] at h2
    have O2 := Lib.hid (h2.rows (putS_len t i r).symm)
    have B2 := Lib.hid (B1.out.trans (hb2.mono HG.out))
    clear h2 hb2 hk2
    go_wp2_with fail
    go_ret
    exact ⟨_, rfl, O2.out, B2.out⟩

theorem ses_insert {w : World} {base : Nat} {v : Value} {t : List Ses} (ho : OwnS sesVals 6 34 w base v t) (hbase : base ≤ w.heap.size) (hl : t.length ≤ 1000) {i : Nat} (hi : i ≤ t.length) {B : Nat} {r : Ses} (hr : LoneS sesVals 34 w B r) (hne : ∀ g n c, v = .slice (some ⟨g, 0, none⟩) n c → B ≠ g) :
    Calls Try.prog 58 #[v, .int .i64 i, .slice (some ⟨B, 0, none⟩) 1 1] w fun e w' => ∃ u, e = .returned u ∧ OwnS sesVals 6 34 w' base u (putS t i r) ∧ Below base w w' := by
  by_cases h : i = t.length
  · subst h
    exact ses_ins_end ho hbase hl hr
  · have hi' : i < t.length := by omega
    rcases ho.2 with ⟨rfl, h0⟩ | ⟨g, cap, cur, rfl, _, _, hnc, hcm, _⟩
    · omega
    · by_cases hc : cap = t.length
      · exact ses_ins_grow ho hbase hl hi' hc hr
      · unfold maxLen at hcm
        exact ses_ins_room ho hl hi' (by omega) (by omega) hr (hne _ _ _ rfl)

theorem layS_del {β : Type} {t : List β} {i : Nat} (hi : i < t.length) : (layS t i (t.drop (i + 1))).take (i + (t.length - (i + 1))) = t.take i ++ t.drop (i + 1) := by
  unfold layS
  rw [← List.append_assoc]
  exact List.take_left' (by rw [List.length_append, List.length_take, List.length_drop]; omega)

set_option maxHeartbeats 3200000 in
set_option maxRecDepth 100000 in
theorem ses_delete {w : World} {base g cap : Nat} {t : List Ses} (ho : OwnS sesVals 6 34 w base (.slice (some ⟨g, 0, none⟩) t.length cap) t) (hcm : cap ≤ 9223372036854775807) {i : Nat} (hi : i < t.length) (hl : t.length ≤ 1000) :
    Calls Try.prog 61 #[.slice (some ⟨g, 0, none⟩) t.length cap, .int .i64 i, .int .i64 ((i : Int) + 1)] w fun e w' => ∃ u, e = .returned u ∧ OwnS sesVals 6 34 w' base u (t.take i ++ t.drop (i + 1)) ∧ Below base w w' := by
  have HO := Lib.hid ho
  have hcap := ho.head.2.2.2.1
  have HG := Lib.hid ho.head.2.1
  have t0 : ((i : Int) == (i : Int) + 1) = false := by simp; omega
  have hw1 : IntKind.i64.wrap ((i : Int) + 1) = (i : Int) + 1 := IntWalk.i64_in _ (by omega)
  have htn : ((i : Int) + 1).toNat = i + 1 := by omega
  have hb0 : (0 : Int) ≤ (i : Int) + 1 := by omega
  have hin : i ≤ t.length := by omega
  have hin2 : (i : Int) + 1 ≤ (t.length : Int) := by omega
  have HE := Lib.hid (layS_del hi)
  have hii : (i : Int) ≤ (i : Int) + 1 := by omega
  have hic : i ≤ cap := by omega
  have HSL : Hid ((layS t i (t.drop (i + 1))).length = t.length) := by show _ = _; exact layS_len (by rw [List.length_drop]; omega)
  have z1 : i + (t.length - (i + 1)) ≤ t.length := by omega
  have z2 : i + (t.length - (i + 1)) + (t.length - (i + (t.length - (i + 1)))) = t.length := by omega
  have t4 : ¬ cap = i + (t.length - (i + 1)) := by omega
  by_cases hc : cap = i + 1
  · subst hc
    have hlen : t.length = i + 1 := by omega
    have HN : Hid (t.take i ++ t.drop (i + 1) = t.take i) := by
      show _ = _
      rw [List.drop_of_length_le (by omega), List.append_nil]
    have HL := Lib.hid hlen
    clear z1 z2 t4 HSL HE hin hin2 hcap ho hi hl
    rw [hlen] at HO
    rw [hlen]
    clear hlen
    have t1 : ¬ i + 1 = i := by omega
    have t3 : (i : Int) ≤ ((i + 1 : Nat) : Int) := by omega
    have t5 : (i : Int) + 1 ≤ ((i + 1 : Nat) : Int) := by omega
    have t6 : i ≤ i + 1 := by omega
    have HT := Lib.hid (World.ownsRow.drew HO.out)
    go_enter Try.func61, Try.ntmps61
    go_wp2_with fail
    go_region_law (refine step_append_in_S sesOK rfl (.tmp 22) (.tmp 25) rfl base g (i + 1) (i + 1) t HO.out.drew i 0 0 ⟨g, 0, none⟩ (by simp [Act.eval, Act.put]) (by simp [Act.eval, Act.put]) [] rfl (fun j x hx => by simp [cellsS] at hx) (by simp) ?_; intro w1 h1 hb1 hk1)
    all_goals
      rw [layS_nil] at h1
      have O1 := Lib.hid h1
      have B1 := Lib.hid ((Below.refl base w).drew.trans (hb1.mono HG.out))
      clear h1 hb1 hk1
      go_wp2_with (with_reducible refine wpList_clear_S sesOK rfl (.tmp 31) rfl base g (i + 1) (i + 1) _ O1.out i (some ⟨g, i * 6, none⟩) 1 1 rfl (fun _ => rfl) HL.out.symm ?_)
      intro w2 h2 hb2
      have O2 := Lib.hid (ownS_cut sesOK h2 (i := i) (by simp [HL.out]))
      have B2 := Lib.hid (B1.out.trans (hb2.mono HG.out))
      clear h2 hb2
      go_wp2_with fail
      go_ret
      refine ⟨_, rfl, ?_, B2.out⟩
      have := O2.out
      rw [List.take_append_of_le_length (by rw [List.length_take, HL.out]; omega), List.take_take, Nat.min_self] at this
      rw [HN.out]
      exact this
  · have HS : Hid (SrcS sesVals w.drew ⟨g, (i + 1) * 6, none⟩ (t.drop (i + 1))) := by
      show SrcS sesVals _ _ _
      intro j x hx
      exact ho.src sesOK (i + 1) (t.length - (i + 1)) (by omega) j x (by rw [List.take_of_length_le (by rw [List.length_drop]; omega)]; exact hx)
    have t1 : ¬ cap = i := by omega
    clear ho
    go_enter Try.func61, Try.ntmps61
    go_wp2_with fail
    go_region_law (refine step_append_in_S sesOK rfl (.tmp 22) (.tmp 25) rfl base g t.length cap t HO.out.drew i (t.length - (i + 1)) (cap - (i + 1)) ⟨g, (i + 1) * 6, none⟩ (by simp [Act.eval, Act.put]) (by simp [Act.eval, Act.put]) (t.drop (i + 1)) (by rw [List.length_drop]) HS.out (by rw [List.length_drop]; omega) ?_; intro w1 h1 hb1 hk1)
    all_goals
      have O1 := Lib.hid h1
      have B1 := Lib.hid ((Below.refl base w).drew.trans (hb1.mono HG.out))
      clear h1 hb1 hk1
      go_wp2_with (with_reducible refine wpList_clear_S sesOK rfl (.tmp 31) rfl base g t.length cap _ O1.out (i + (t.length - (i + 1))) (some ⟨g, (i + (t.length - (i + 1))) * 6, none⟩) (t.length - (i + (t.length - (i + 1)))) (cap - (i + (t.length - (i + 1)))) rfl (fun _ => rfl) (z2.trans HSL.out.symm) ?_)
      intro w2 h2 hb2
      have O2 := Lib.hid (ownS_cut sesOK h2 (i := i + (t.length - (i + 1))) (by rw [List.length_append, List.length_take, List.length_replicate, HSL.out]; omega))
      have B2 := Lib.hid (B1.out.trans (hb2.mono HG.out))
      clear h2 hb2
      go_wp2_with fail
      go_ret
      refine ⟨_, rfl, ?_, B2.out⟩
      have := O2.out
      rw [List.take_append_of_le_length (by rw [List.length_take, HSL.out]; omega), List.take_take, Nat.min_self, HE.out] at this
      exact this

end Go.Proofs.Ytkmbnpjnjlcjmaa
