/-
  TEXTS OF THE PROOF, one behind the other: EntIns, RosFirstC, RosGetC, RosPlace, RosFind.
-/
import Derived.Test.YtlckphdmflofgaaB07
import Derived.Lib.Hide
import Derived.Maps.OwnSet
import Derived.Deep.RegionHeld
import Derived.Deep.AppendLies
import Derived.WalkSpells
import Derived.StillTailTactics
import Derived.BigQuiet
import Derived.Lib.QuietBelow

section
/-
  slices.Clone, slices.Insert AND slices.Delete of one element, at elements of 7 cells.
-/
namespace Go.Proofs.Ytlckphdmflofgaa
open Go.RowKit

set_option maxHeartbeats 800000 in
set_option maxRecDepth 100000 in
theorem ent_clone {w : World} {v : Value} {t : List Ent} (hv : RdS entVals 7 Ent.zero w v t) (hl : t.length ≤ 4294967) :
    Calls Try.prog 62 #[v] w fun e w' => ∃ u, e = .returned u ∧ OwnS entVals 7 70 w' w.heap.size u t ∧ Below w.heap.size w w' := by
  have HV := Lib.hid hv
  obtain ⟨a, cap, rfl, h1, h2, h3, h4⟩ := hv
  cases a with
  | none =>
    obtain rfl : cap = 0 := h3 rfl
    obtain rfl : t = [] := List.length_eq_zero_iff.1 (by omega)
    have heq := fun w => eqlS_nil_nil entOK w 0 0
    clear h4
    go_enter Try.func62, Try.ntmps62
    go_wp2_with fail
    go_ret
    exact ⟨_, rfl, ownS_nil _ _, Below.refl _ _⟩
  | some x =>
    have HS := Lib.hid ((HV.out.later ((Below.refl _ _).alloc (Nat.le_refl _) (.cells #[] 70))).src entOK)
    have heq := fun w => eqlS_nil_some entOK w x t.length cap
    clear h4 h3
    go_enter Try.func62, Try.ntmps62
    go_wp2_with (at_builtin; go_must (refine wpList_append_S entOK rfl _ _ rfl w.heap.size _ [] rfl (by exact ownS_made w) (some x) t.length cap t rfl rfl (fun e => nomatch e) ?c1 (by simp only [List.length_nil]; omega) (by simp) ?_))
    case c1 => intro ad had; obtain rfl := Option.some.inj had; exact HS.out
    intro v' w' ho' hb'
    have O := Lib.hid ho'
    have hbB : Hid (Below w.heap.size w w') := ((Below.refl w.heap.size w).alloc (Nat.le_refl _) _).trans hb'
    clear ho' hb'
    go_wp2_with fail
    go_ret
    exact ⟨_, rfl, by have := O.out; simpa using this, hbB.out⟩

theorem putS_end {β : Type} (t : List β) (r : β) : putS t t.length r = t ++ [r] := by simp [putS]

set_option maxHeartbeats 1600000 in
set_option maxRecDepth 100000 in
theorem ent_ins_end {w : World} {base : Nat} {v : Value} {t : List Ent} (ho : OwnS entVals 7 70 w base v t) (hbase : base ≤ w.heap.size) (hl : t.length ≤ 1000) {B : Nat} {r : Ent} (hr : LoneS entVals 70 w B r) :
    Calls Try.prog 64 #[v, .int .i64 t.length, .slice (some ⟨B, 0, none⟩) 1 1] w fun e w' => ∃ u, e = .returned u ∧ OwnS entVals 7 70 w' base u (putS t t.length r) ∧ Below base w w' := by
  have HO := Lib.hid ho
  have HS := Lib.hid hr.src
  have HE := Lib.hid (putS_end t r)
  have t0 : ((t.length : Int) == (t.length : Int)) = true := by simp
  rcases ho.2 with ⟨rfl, h0⟩ | ⟨g, cap, cur, rfl, _, _, hnc, hcm, _⟩
  · obtain rfl : t = [] := List.length_eq_zero_iff.1 h0
    clear ho hr h0
    go_enter Try.func64, Try.ntmps64
    go_wp2_with (at_builtin; go_must (refine wpList_append_S entOK rfl _ _ rfl base _ [] rfl (by exact HO.out) (some ⟨B, 0, none⟩) 1 1 [r] rfl rfl (fun e => nomatch e) ?c1 (by simp) hbase ?_))
    case c1 => intro ad had; obtain rfl := Option.some.inj had; exact HS.out
    intro v' w' ho' hb'
    have O := Lib.hid ho'
    have HB := Lib.hid hb'
    clear ho' hb'
    go_wp2_with fail
    go_ret
    exact ⟨_, rfl, O.out, HB.out⟩
  · unfold maxLen at hcm
    clear ho hr
    by_cases hc : cap = t.length
    · subst hc
      go_enter Try.func64, Try.ntmps64
      go_wp2_with (at_builtin; go_must (refine wpList_append_S entOK rfl _ _ rfl base _ t rfl (by exact HO.out) (some ⟨B, 0, none⟩) 1 1 [r] rfl rfl (fun e => nomatch e) ?c1 (by simp only [List.length_cons, List.length_nil]; omega) hbase ?_))
      case c1 => intro ad had; obtain rfl := Option.some.inj had; exact HS.out
      intro v' w' ho' hb'
      have O := Lib.hid ho'
      have HB := Lib.hid hb'
      clear ho' hb'
      go_wp2_with fail
      go_ret
      exact ⟨_, rfl, by rw [HE.out]; exact O.out, HB.out⟩
    · go_enter Try.func64, Try.ntmps64
      go_wp2_with (at_builtin; go_must (refine wpList_append_S entOK rfl _ _ rfl base _ t rfl (by exact HO.out) (some ⟨B, 0, none⟩) 1 1 [r] rfl rfl (fun e => nomatch e) ?c1 (by simp only [List.length_cons, List.length_nil]; omega) hbase ?_))
      case c1 => intro ad had; obtain rfl := Option.some.inj had; exact HS.out
      intro v' w' ho' hb'
      have O := Lib.hid ho'
      have HB := Lib.hid hb'
      clear ho' hb'
      go_wp2_with fail
      go_ret
      exact ⟨_, rfl, by rw [HE.out]; exact O.out, HB.out⟩

set_option maxHeartbeats 3200000 in
set_option maxRecDepth 100000 in
theorem ent_ins_grow {w : World} {base g cap : Nat} {t : List Ent} (ho : OwnS entVals 7 70 w base (.slice (some ⟨g, 0, none⟩) t.length cap) t) (hbase : base ≤ w.heap.size) (hl : t.length ≤ 1000) {i : Nat} (hi : i < t.length) (hc : cap = t.length) {B : Nat} {r : Ent} (hr : LoneS entVals 70 w B r) :
    Calls Try.prog 64 #[.slice (some ⟨g, 0, none⟩) t.length cap, .int .i64 i, .slice (some ⟨B, 0, none⟩) 1 1] w fun e w' => ∃ u, e = .returned u ∧ OwnS entVals 7 70 w' base u (putS t i r) ∧ Below base w w' := by
  subst hc
  have HO := Lib.hid ho
  have HR := Lib.hid hr
  have HE := Lib.hid (layS_grow Ent.zero hi r)
  have t0 : ((i : Int) == (t.length : Int)) = false := by simp; omega
  have t1 : ¬ t.length = i := by omega
  have hw1 : IntKind.i64.wrap ((i : Int) + 1) = (i : Int) + 1 := IntWalk.i64_in _ (by omega)
  have htn : ((i : Int) + 1).toNat = i + 1 := by omega
  have hb0 : (0 : Int) ≤ (i : Int) + 1 := by omega
  have hin : i ≤ t.length := by omega
  have hgw := ho.head.2.2.1
  have hBw := hr.lt
  clear ho hr
  go_enter Try.func64, Try.ntmps64
  go_wp2_with (with_reducible refine wpList_append_zero_S entOK Try.underlying3 rfl (.tmp 34) (.tmp 39) rfl base g t.length t.length t HO.out i (t.length + 1 - i) (t.length + 1) ((t.length : Int) + 1 - (i : Int)) rfl rfl (by omega) (by omega) (by omega) (by omega) (by omega) (by omega) ?_)
  intro w1 G h1 hG hGm hb1
  have O1 := Lib.hid h1
  have B1 := Lib.hid hb1
  have S1 := Lib.hid (HR.out.later hb1).src
  have P1 := Lib.hid (HO.out.later hb1)
  have hsz := hb1.size
  have hlen : (t.take i ++ List.replicate (t.length + 1 - i) Ent.zero).length = t.length + 1 := by rw [List.length_append, List.length_take, List.length_replicate]; omega
  have t2 : ¬ G = i := by omega
  have t3 : ¬ G = i + 1 := by omega
  have O1r : Hid (OwnCS 7 70 w1 w.heap.size w.heap.size (t.length + 1) G (cellsS entVals (t.take i ++ List.replicate (t.length + 1 - i) Ent.zero))) := h1.raw
  clear h1 hb1
  go_wp2_with (with_reducible refine wpList_copy_C entOK rfl (.tmp 43) (.tmp 44) rfl w.heap.size w.heap.size (t.length + 1) G _ O1r.out i (t.length + 1 - i) (G - i) ⟨B, 0, none⟩ 1 1 rfl rfl [r] (by simp only [List.length_singleton, Nat.min_def]; split <;> omega) S1.out (by simp only [List.length_singleton]; omega) ?_)
  intro w2 h2 hb2 hk2
  rw [cellsS_lay entOK.len] at h2
  have O2 := Lib.hid h2
  have B2 := Lib.hid (B1.out.trans (hb2.mono (Nat.le_refl _)))
  have P2 : Hid (SrcS entVals w2.drew ⟨g, i * 7, none⟩ (t.drop i)) := by
    show SrcS entVals _ _ _
    intro j x hx
    have := P1.out.src entOK i (t.length - i) (by omega) j x (by rw [List.take_of_length_le (by rw [List.length_drop]; omega)]; exact hx)
    exact (hk2 _ (by rw [Addr.add_lit]; show g ≠ w.heap.size; omega)).trans this
  clear h2 hb2 hk2 O1 O1r B1 S1
  go_wp2_with fail
  go_region_law (refine step_copy_C entOK rfl (.tmp 50) (.tmp 53) rfl w.heap.size w.heap.size (t.length + 1) G _ O2.out.drew (i + 1) (t.length - i) (G - (i + 1)) ⟨g, i * 7, none⟩ (t.length - i) (t.length - i) (by simp [Act.eval, Act.put]) (by simp [Act.eval, Act.put]) (t.drop i) (by simp only [List.length_drop, Nat.min_def]; split <;> omega) P2.out (by rw [List.length_drop]; omega) ?_; intro w3 h3 hb3 hk3)
  all_goals
    rw [cellsS_lay entOK.len, HE.out] at h3
    have O3 := Lib.hid (h3.rows (putS_len t i r).symm)
    have B3 := Lib.hid ((B2.out.mono hbase).drew.trans (hb3.mono hbase))
    clear h3 hb3 hk3
    go_wp2_with fail
    go_ret
    exact ⟨_, rfl, ownS_low O3.out hbase, B3.out⟩

set_option maxHeartbeats 3200000 in
set_option maxRecDepth 100000 in
theorem ent_ins_room {w : World} {base g cap : Nat} {t : List Ent} (ho : OwnS entVals 7 70 w base (.slice (some ⟨g, 0, none⟩) t.length cap) t) (hl : t.length ≤ 1000) {i : Nat} (hi : i < t.length) (hc : t.length < cap) (hcm : cap ≤ 9223372036854775807) {B : Nat} {r : Ent} (hr : LoneS entVals 70 w B r) (hne : B ≠ g) :
    Calls Try.prog 64 #[.slice (some ⟨g, 0, none⟩) t.length cap, .int .i64 i, .slice (some ⟨B, 0, none⟩) 1 1] w fun e w' => ∃ u, e = .returned u ∧ OwnS entVals 7 70 w' base u (putS t i r) ∧ Below base w w' := by
  obtain ⟨z, hz, hw⟩ := ownS_wider ho hc
  have HO := Lib.hid hw
  have HS := Lib.hid hr.src
  have hin2 : (i : Int) ≤ (t.length : Int) + 1 := by omega
  have S0 : Hid (SrcS entVals w.drew ⟨g, i * 7, none⟩ (t.drop i)) := by
    show SrcS entVals _ _ _
    intro j x hx
    exact ho.src entOK i (t.length - i) (by omega) j x (by rw [List.take_of_length_le (by rw [List.length_drop]; omega)]; exact hx)
  have HE := Lib.hid (layS_room entOK.len hi r z hz)
  have HG := Lib.hid ho.head.2.1
  have t0 : ((i : Int) == (t.length : Int)) = false := by simp; omega
  have t1 : ¬ cap = i := by omega
  have t2 : ¬ cap = i + 1 := by omega
  have hw1 : IntKind.i64.wrap ((i : Int) + 1) = (i : Int) + 1 := IntWalk.i64_in _ (by omega)
  have htn : ((i : Int) + 1).toNat = i + 1 := by omega
  have hb0 : (0 : Int) ≤ (i : Int) + 1 := by omega
  have hin : i ≤ t.length := by omega
  have hov : ∀ lb cb, (callFunc 78 #[.slice (some ⟨B, 0, none⟩) 1 1, .slice (some ⟨g, (i + 1) * 7, none⟩) lb cb]).run Try.prog w = .ok (.value (.bool false)) w := fun lb cb => by
    obtain ⟨_, _, _, _, _, cur, hg, hcs⟩ := ho.head
    rw [run_callFunc_extern Try.func78 (by kernel_rfl) (by kernel_rfl) (by kernel_rfl) (e := Extern.SlicesOverlaps.overlaps #[43, 43] #[4]) (by kernel_rfl),
      Lib.run_overlaps_apart w 43 4 70 Try.underlying43 7 (sizeS entOK) ⟨B, 0, none⟩ ⟨g, (i + 1) * 7, none⟩ 1 1 lb cb hne _ _ _ _ (hr.shape entOK.len) (ownS_shape hg) (by omega) (hr.free _) (hr.free _)]
    rfl
  clear ho hr hw
  go_enter Try.func64, Try.ntmps64
  go_wp2_with (simp only [hov])
  go_region_law (refine step_copy_C entOK rfl (.tmp 73) (.tmp 76) rfl base g (t.length + 1) cap _ HO.out.drew (i + 1) (t.length - i) (cap - (i + 1)) ⟨g, i * 7, none⟩ (t.length + 1 - i) (cap - i) (by simp [Act.eval, Act.put]) (by simp [Act.eval, Act.put]) (t.drop i) (by simp only [List.length_drop, Nat.min_def]; split <;> omega) S0.out (by rw [List.length_drop]; omega) ?_; intro w1 h1 hb1 hk1)
  all_goals
    have O1 := Lib.hid h1
    have B1 := Lib.hid ((Below.refl base w).drew.trans (hb1.mono HG.out))
    have S1 : Hid (SrcS entVals w1 ⟨B, 0, none⟩ [r]) := by
      show SrcS entVals _ _ _
      intro j x hx
      exact (hk1 _ (by rw [Addr.add_lit]; exact hne)).trans (HS.out j x hx)
    clear h1 hb1 hk1
    go_wp2_with (with_reducible refine wpList_copy_C entOK rfl (.tmp 80) (.tmp 81) rfl base g (t.length + 1) cap _ O1.out i (t.length + 1 - i) (cap - i) ⟨B, 0, none⟩ 1 1 rfl rfl [r] (by simp only [List.length_singleton, Nat.min_def]; split <;> omega) S1.out (by simp only [List.length_singleton]; omega) ?_)
    intro w2 h2 hb2 hk2
    rw [HE.out] at h2
    have O2 := Lib.hid (h2.rows (putS_len t i r).symm)
    have B2 := Lib.hid (B1.out.trans (hb2.mono HG.out))
    clear h2 hb2 hk2
    go_wp2_with fail
    go_ret
    exact ⟨_, rfl, O2.out, B2.out⟩

theorem ent_insert {w : World} {base : Nat} {v : Value} {t : List Ent} (ho : OwnS entVals 7 70 w base v t) (hbase : base ≤ w.heap.size) (hl : t.length ≤ 1000) {i : Nat} (hi : i ≤ t.length) {B : Nat} {r : Ent} (hr : LoneS entVals 70 w B r) (hne : ∀ g n c, v = .slice (some ⟨g, 0, none⟩) n c → B ≠ g) :
    Calls Try.prog 64 #[v, .int .i64 i, .slice (some ⟨B, 0, none⟩) 1 1] w fun e w' => ∃ u, e = .returned u ∧ OwnS entVals 7 70 w' base u (putS t i r) ∧ Below base w w' := by
  by_cases h : i = t.length
  · subst h
    exact ent_ins_end ho hbase hl hr
  · have hi' : i < t.length := by omega
    rcases ho.2 with ⟨rfl, h0⟩ | ⟨g, cap, cur, rfl, _, _, hnc, hcm, _⟩
    · omega
    · by_cases hc : cap = t.length
      · exact ent_ins_grow ho hbase hl hi' hc hr
      · unfold maxLen at hcm
        exact ent_ins_room ho hl hi' (by omega) (by omega) hr (hne _ _ _ rfl)

end Go.Proofs.Ytlckphdmflofgaa
end

section
/-
  LAYER 8, THE CODE: the first entry that is the same; Get; Sees.
-/
namespace Go.Proofs.Ytlckphdmflofgaa
open Go.RowKit

theorem entI_off {a b : Ent} (h : entIs a b = false) : (entI a b == 0) = false := by
  rw [beq_eq_false_iff_ne]
  intro e
  rw [entI_zero, h] at e
  cases e

theorem entI_on {a b : Ent} (h : entIs a b = true) : (entI a b == 0) = true := by
  rw [beq_iff_eq, entI_zero]
  exact h

theorem cells7_made (w : World) (e : Ent) (T : TypeId) : Cells7 (w.alloc (.cells #[.string ⟨e.o.toArray⟩, .string ⟨e.c.toArray⟩, .bool e.it.to, .bool e.it.fr, .bool e.it.out, .bool e.it.inn, .bool e.it.bl] T)) w.heap.size 0 e := by
  refine ⟨?_, ?_, ?_, ?_, ?_, ?_, ?_⟩ <;> (rw [World.cell?_alloc_at _ _ _ _ rfl]; rfl)

set_option maxHeartbeats 1600000 in
set_option maxRecDepth 100000 in
theorem first_any {w : World} {v : Value} {l : List Ent} (hv : Ents w v l) (xo xc : List UInt8) (x1 x2 x3 x4 x5 : Bool) :
    Calls Try.prog 65 #[v, .agg #[.string ⟨xo.toArray⟩, .string ⟨xc.toArray⟩, .bool x1, .bool x2, .bool x3, .bool x4, .bool x5], .func (.func 47) #[] #[]] w fun e w' =>
      e = .returned (.tuple #[.int .i64 (roFirst l ⟨xo, xc, ⟨x1, x2, x3, x4, x5⟩⟩).1, .bool (roFirst l ⟨xo, xc, ⟨x1, x2, x3, x4, x5⟩⟩).2]) ∧ Below w.heap.size w w' := by
  have HV := Lib.hid hv
  obtain ⟨a, cap, rfl, hm⟩ := hv.open'
  have HX := Lib.hid (cells7_made w ⟨xo, xc, ⟨x1, x2, x3, x4, x5⟩⟩ 70)
  have B0 : Hid (Below w.heap.size w (w.alloc (.cells #[.string ⟨xo.toArray⟩, .string ⟨xc.toArray⟩, .bool x1, .bool x2, .bool x3, .bool x4, .bool x5] 70))) := Lib.hid ((Below.refl _ _).alloc (Nat.le_refl _) _)
  clear hv
  go_enter Try.func65, Try.ntmps65
  go_wp2_with fail
  go_loopw [12] (fun i wr => ∃ k : Nat, k ≤ l.length ∧ i = .int .i64 k ∧ Hid (Below w.heap.size w wr) ∧ Hid (Cells7 wr w.heap.size 0 ⟨xo, xc, ⟨x1, x2, x3, x4, x5⟩⟩) ∧ Hid (∀ j, j < k → entIs (l.getD j Ent.zero) ⟨xo, xc, ⟨x1, x2, x3, x4, x5⟩⟩ = false)) (fun i _ => l.length - (intOf i).toNat)
  case atStart => exact ⟨0, by omega, rfl, B0, HX, by show ∀ _, _; intro j hj; omega⟩
  case round =>
    obtain ⟨k, hk, rfl, HB, HC, HN⟩ := hrel
    by_cases hlt : k < l.length
    · obtain ⟨b, off, rfl, h0, h1, h2, h3, h4, h5, h6⟩ := HV.out.row HB.out k hlt
      obtain ⟨⟨eo, ec, ⟨i1, i2, i3, i4, i5⟩⟩, hr⟩ : ∃ r, l.getD k Ent.zero = r := ⟨_, rfl⟩
      rw [hr] at h0 h1 h2 h3 h4 h5 h6
      obtain ⟨c0, c1, c2, c3, c4, c5, c6⟩ := HC.out.later ((Below.refl _ _).alloc (Nat.le_refl _) (.cells #[.string ⟨eo.toArray⟩, .string ⟨ec.toArray⟩, .bool i1, .bool i2, .bool i3, .bool i4, .bool i5] 70))
      simp only [Nat.zero_add] at h0 h1 h2 h3 h4 h5 h6 c0 c1 c2 c3 c4 c5 c6
      have HCmp := Lib.hid (rcompare_any eo ec xo xc i1 i2 i3 i4 i5 x1 x2 x3 x4 x5)
      obtain ⟨n, hn⟩ : ∃ n, entI ⟨eo, ec, ⟨i1, i2, i3, i4, i5⟩⟩ ⟨xo, xc, ⟨x1, x2, x3, x4, x5⟩⟩ = n := ⟨_, rfl⟩
      cases hs : entIs ⟨eo, ec, ⟨i1, i2, i3, i4, i5⟩⟩ ⟨xo, xc, ⟨x1, x2, x3, x4, x5⟩⟩ with
      | true =>
        have hz := entI_on hs
        have HR := Lib.hid (roFirst_yes hlt HN.out (by rw [hr]; exact hs))
        rw [hn] at hz HCmp
        clear hr hs hn
        go_wp2_with fail
        refine (HCmp.out _).mono ?_
        rintro e w2 ⟨rfl, hb⟩
        have B2 := Lib.hid (below2S (bl_allocS HB.out (.cells #[.string ⟨eo.toArray⟩, .string ⟨ec.toArray⟩, .bool i1, .bool i2, .bool i3, .bool i4, .bool i5] 70)) hb)
        clear hb
        go_wp2_with fail
        go_ret2
        exact ⟨by rw [HR.out]; rfl, B2.out⟩
      | false =>
        have hz := entI_off hs
        have HN2 : Hid (∀ j, j < k + 1 → entIs (l.getD j Ent.zero) ⟨xo, xc, ⟨x1, x2, x3, x4, x5⟩⟩ = false) := by
          show ∀ _, _
          intro j hj
          by_cases e : j = k
          · rw [e, hr]; exact hs
          · exact HN.out j (by omega)
        rw [hn] at hz HCmp
        clear hr hs hn
        go_wp2_with fail
        refine (HCmp.out _).mono ?_
        rintro e w2 ⟨rfl, hb⟩
        have B2 := Lib.hid (below2S (bl_allocS HB.out (.cells #[.string ⟨eo.toArray⟩, .string ⟨ec.toArray⟩, .bool i1, .bool i2, .bool i3, .bool i4, .bool i5] 70)) hb)
        have C2 := Lib.hid (HC.out.later (below2S (bl_allocS (Below.refl _ _) (.cells #[.string ⟨eo.toArray⟩, .string ⟨ec.toArray⟩, .bool i1, .bool i2, .bool i3, .bool i4, .bool i5] 70)) hb))
        clear hb
        go_wp2_with fail
        go_roundw
        case rel => exact ⟨k + 1, by omega, by go_num, B2, C2, HN2⟩
        case measure => simp [intOf]; omega
    · obtain rfl : k = l.length := by omega
      have HR := Lib.hid (roFirst_no HN.out)
      go_wp2_with fail
      go_ret2
      exact ⟨by rw [HR.out]; rfl, HB.out⟩

end Go.Proofs.Ytlckphdmflofgaa
end

section
/-
  LAYER 8, THE CODE: Get and Sees.
-/
namespace Go.Proofs.Ytlckphdmflofgaa
open Go.RowKit

/-- Either none is there, or the first one tells the item. -/
theorem roFirst_get (l : List Ent) (o c : List UInt8) : (roFirst l (entOf o c) = (0, false) ∧ roGet l o c = It.zero) ∨ ∃ k, k < l.length ∧ roFirst l (entOf o c) = (k, true) ∧ roGet l o c = (l.getD k Ent.zero).it := by
  by_cases h : ∃ k, k < l.length ∧ entIs (l.getD k Ent.zero) (entOf o c) = true
  · obtain ⟨k, hk, hs⟩ := h
    have hany : (l.any fun e => entIs e (entOf o c)) = true := by
      rw [List.any_eq_true]
      exact ⟨l.getD k Ent.zero, by rw [getD_at hk]; exact List.getElem_mem hk, hs⟩
    have hlt : l.findIdx (fun e => entIs e (entOf o c)) < l.length := by
      rw [List.findIdx_lt_length]
      obtain ⟨e, he, hx⟩ := List.any_eq_true.1 hany
      exact ⟨e, he, hx⟩
    have hf := List.findIdx_getElem (w := hlt)
    have hb : ∀ j, j < l.findIdx (fun e => entIs e (entOf o c)) → entIs (l.getD j Ent.zero) (entOf o c) = false := fun j hj => by
      have := List.not_of_lt_findIdx hj
      rw [getD_at (by omega)]
      simpa using this
    rw [← getD_at hlt] at hf
    refine .inr ⟨_, hlt, roFirst_yes hlt hb hf, ?_⟩
    obtain ⟨h1, h2⟩ := entIs_iff.1 hf
    exact roGet_first hlt hb h1 h2
  · have hn : ∀ j, j < l.length → entIs (l.getD j Ent.zero) (entOf o c) = false := fun j hj => by
      rw [Bool.eq_false_iff]
      exact fun hs => h ⟨j, hj, hs⟩
    exact .inl ⟨roFirst_no hn, roGet_none hn⟩

/-- An item stored anew. -/
def set5 (w : World) (B : Nat) (a1 a2 a3 a4 a5 : Value) : World := setMany w [(⟨B, 0, none⟩, a1), (⟨B, 1, none⟩, a2), (⟨B, 2, none⟩, a3), (⟨B, 3, none⟩, a4), (⟨B, 4, none⟩, a5)]

theorem set5_get (w : World) (B : Nat) (a1 a2 a3 a4 a5 : Value) {i : It} (h : ItAt w B i) :
    let x := set5 w B a1 a2 a3 a4 a5
    x.cell? ⟨B, 0, none⟩ = some a1 ∧ x.cell? ⟨B, 1, none⟩ = some a2 ∧ x.cell? ⟨B, 2, none⟩ = some a3 ∧ x.cell? ⟨B, 3, none⟩ = some a4 ∧ x.cell? ⟨B, 4, none⟩ = some a5 := by
  obtain ⟨h1, h2, h3, h4, h5⟩ := h
  have hm := setMany_get [(⟨B, 0, none⟩, a1), (⟨B, 1, none⟩, a2), (⟨B, 2, none⟩, a3), (⟨B, 3, none⟩, a4), (⟨B, 4, none⟩, a5)] w (by simp) (by simp [h1, h2, h3, h4, h5])
  exact ⟨hm (_, _) (by simp), hm (_, _) (by simp), hm (_, _) (by simp), hm (_, _) (by simp), hm (_, _) (by simp)⟩

theorem set5_below {w w1 : World} (h : Below w.heap.size w w1) (B : Nat) (hB : w.heap.size ≤ B) (a1 a2 a3 a4 a5 : Value) : Below w.heap.size w (set5 w1 B a1 a2 a3 a4 a5) :=
  setMany_below _ h (by simp [hB])

set_option maxHeartbeats 1600000 in
set_option maxRecDepth 100000 in
theorem get8_any {w : World} {v : Value} {l : List Ent} (hv : Ents w v l) (o c : List UInt8) :
    Calls Try.prog 44 #[v, .string ⟨o.toArray⟩, .string ⟨c.toArray⟩] w fun e w' => e = .returned (itV (roGet l o c)) ∧ Below w.heap.size w w' := by
  have B0 : Hid (Below w.heap.size w (w.alloc (.cells #[.bool false, .bool false, .bool false, .bool false, .bool false] 68))) := Lib.hid ((Below.refl _ _).alloc (Nat.le_refl _) _)
  have HZ := Lib.hid (itAt_made w ⟨false, false, false, false, false⟩ w.heap.size rfl)
  have hzf : ∀ i, (w.alloc (.cells #[.bool false, .bool false, .bool false, .bool false, .bool false] 68)).frozen? ⟨w.heap.size, i, none⟩ = false := fun i => by simp
  have HF := Lib.hid hzf
  have HV := Lib.hid (hv.later B0.out)
  have hE := entry_any o c
  have HE := Lib.hid hE
  obtain ⟨a, cap, rfl, hm⟩ := hv.open'
  clear hv hE hzf
  rcases roFirst_get l o c with ⟨h1, h2⟩ | ⟨k, hk, h1, h2⟩
  · have HR : Hid (roGet l o c = It.zero) := h2
    have H1 := Lib.hid h1
    clear h1 h2
    go_enter Try.func44, Try.ntmps44
    go_wp2_with fail
    refine (HE.out _).mono ?_
    rintro e w1 ⟨rfl, b1⟩
    go_wp2_with fail
    refine (first_any (HV.out.later b1) o c false false false false false).mono ?_
    rw [show roFirst l ⟨o, c, ⟨false, false, false, false, false⟩⟩ = (0, false) from H1.out]
    rintro e w2 ⟨rfl, b2⟩
    have b3 := below2S b1 b2
    have B3 := Lib.hid (below2S B0.out b3)
    have Z2 := Lib.hid (HZ.out.later b3)
    obtain ⟨z0, z1, z2, z3, z4⟩ := Z2.out
    have f0 := (b3.frozen (p := ⟨w.heap.size, 0, none⟩) (by show w.heap.size < _; simp)).trans (HF.out 0)
    have f1 := (b3.frozen (p := ⟨w.heap.size, 1, none⟩) (by show w.heap.size < _; simp)).trans (HF.out 1)
    have f2 := (b3.frozen (p := ⟨w.heap.size, 2, none⟩) (by show w.heap.size < _; simp)).trans (HF.out 2)
    have f3 := (b3.frozen (p := ⟨w.heap.size, 3, none⟩) (by show w.heap.size < _; simp)).trans (HF.out 3)
    have f4 := (b3.frozen (p := ⟨w.heap.size, 4, none⟩) (by show w.heap.size < _; simp)).trans (HF.out 4)
    simp only at z0 z1 z2 z3 z4
    clear b1 b2 b3
    go_wp2_with fail
    obtain ⟨r0, r1, r2, r3, r4⟩ := set5_get w2 w.heap.size (.bool false) (.bool false) (.bool false) (.bool false) (.bool false) Z2.out
    have hB := set5_below B3.out w.heap.size (Nat.le_refl _) (.bool false) (.bool false) (.bool false) (.bool false) (.bool false)
    show bodyPost _ _ _ _ _ (set5 w2 w.heap.size (.bool false) (.bool false) (.bool false) (.bool false) (.bool false))
    exact bodyPost_ret (v := itV ⟨false, false, false, false, false⟩) (by simp [results, Try.results44, go_sem, itV, r0, r1, r2, r3, r4]) rfl ⟨by rw [HR.out]; rfl, hB⟩
  · obtain ⟨⟨eo, ec, ⟨i1, i2, i3, i4, i5⟩⟩, hr⟩ : ∃ r, l.getD k Ent.zero = r := ⟨_, rfl⟩
    rw [hr] at h2
    have HR : Hid (roGet l o c = ⟨i1, i2, i3, i4, i5⟩) := h2
    have H1 := Lib.hid h1
    have HE2 := Lib.hid hr
    have hkI : (k : Int) < (l.length : Int) := by omega
    have hk0 : (0 : Int) ≤ (k : Int) := by omega
    clear h1 h2 hr
    go_enter Try.func44, Try.ntmps44
    go_wp2_with fail
    refine (HE.out _).mono ?_
    rintro e w1 ⟨rfl, b1⟩
    go_wp2_with fail
    refine (first_any (HV.out.later b1) o c false false false false false).mono ?_
    rw [show roFirst l ⟨o, c, ⟨false, false, false, false, false⟩⟩ = (k, true) from H1.out]
    rintro e w2 ⟨rfl, b2⟩
    have b3 := below2S b1 b2
    have B3 := Lib.hid (below2S B0.out b3)
    have Z2 := Lib.hid (HZ.out.later b3)
    obtain ⟨z0, z1, z2, z3, z4⟩ := Z2.out
    have f0 := (b3.frozen (p := ⟨w.heap.size, 0, none⟩) (by show w.heap.size < _; simp)).trans (HF.out 0)
    have f1 := (b3.frozen (p := ⟨w.heap.size, 1, none⟩) (by show w.heap.size < _; simp)).trans (HF.out 1)
    have f2 := (b3.frozen (p := ⟨w.heap.size, 2, none⟩) (by show w.heap.size < _; simp)).trans (HF.out 2)
    have f3 := (b3.frozen (p := ⟨w.heap.size, 3, none⟩) (by show w.heap.size < _; simp)).trans (HF.out 3)
    have f4 := (b3.frozen (p := ⟨w.heap.size, 4, none⟩) (by show w.heap.size < _; simp)).trans (HF.out 4)
    simp only at z0 z1 z2 z3 z4
    obtain ⟨b, off, rfl, g0, g1, g2, g3, g4, g5, g6⟩ := HV.out.row b3 k hk
    rw [HE2.out] at g0 g1 g2 g3 g4 g5 g6
    simp only at g0 g1 g2 g3 g4 g5 g6
    clear b1 b2 b3
    go_wp2_with fail
    obtain ⟨r0, r1, r2, r3, r4⟩ := set5_get w2 w.heap.size (.bool i1) (.bool i2) (.bool i3) (.bool i4) (.bool i5) Z2.out
    have hB := set5_below B3.out w.heap.size (Nat.le_refl _) (.bool i1) (.bool i2) (.bool i3) (.bool i4) (.bool i5)
    show bodyPost _ _ _ _ _ (set5 w2 w.heap.size (.bool i1) (.bool i2) (.bool i3) (.bool i4) (.bool i5))
    exact bodyPost_ret (v := itV ⟨i1, i2, i3, i4, i5⟩) (by simp [results, Try.results44, go_sem, itV, r0, r1, r2, r3, r4]) rfl ⟨by rw [HR.out], hB⟩

theorem get8_eq {w : World} {v : Value} {l : List Ent} (hv : Ents w v l) (o c : List UInt8) {i1 i2 i3 i4 i5 : Bool} (h : Hid (roGet l o c = ⟨i1, i2, i3, i4, i5⟩)) :
    Calls Try.prog 44 #[v, .string ⟨o.toArray⟩, .string ⟨c.toArray⟩] w fun e w' => e = .returned (.agg #[.bool i1, .bool i2, .bool i3, .bool i4, .bool i5]) ∧ Below w.heap.size w w' := by
  have := get8_any hv o c
  rw [h.out] at this
  exact this

set_option maxHeartbeats 800000 in
set_option maxRecDepth 100000 in
theorem sees8_any {w : World} {v : Value} {l : List Ent} (hv : Ents w v l) (o c : List UInt8) :
    Calls Try.prog 27 #[v, .string ⟨o.toArray⟩, .string ⟨c.toArray⟩] w fun e w' => e = .returned (.bool (roSees l o c)) ∧ Below w.heap.size w w' := by
  obtain ⟨⟨i1, i2, i3, i4, i5⟩, hi⟩ : ∃ i, roGet l o c = i := ⟨_, rfl⟩
  obtain ⟨⟨j1, j2, j3, j4, j5⟩, hj⟩ : ∃ j, roGet l c o = j := ⟨_, rfl⟩
  obtain ⟨r, hr⟩ : ∃ r, suSees ⟨i1, i2, i3, i4, i5⟩ ⟨j1, j2, j3, j4, j5⟩ = r := ⟨_, rfl⟩
  have HR : Hid (roSees l o c = r) := by show _ = _; unfold roSees; rw [hi, hj, hr]
  have HV := Lib.hid hv
  have HI := Lib.hid hi
  have HJ := Lib.hid hj
  have HS := Lib.hid (ssees_eq i1 i2 i3 i4 i5 j1 j2 j3 j4 j5 hr)
  obtain ⟨a, cap, rfl, _⟩ := hv.open'
  rw [HR.out]
  clear hi hj hr hv
  go_enter Try.func27, Try.ntmps27
  go_wp2_with fail
  refine (get8_eq HV.out o c HI).mono ?_
  rintro e w1 ⟨rfl, b⟩
  have B1 := Lib.hid b
  clear b
  go_wp2_with fail
  refine (get8_eq (HV.out.later B1.out) c o HJ).mono ?_
  rintro e w2 ⟨rfl, b⟩
  have B2 := Lib.hid (below2S B1.out b)
  clear b
  go_wp2_with fail
  refine (HS.out _).mono ?_
  rintro e w3 ⟨rfl, b⟩
  have B3 := Lib.hid (below2S B2.out b)
  clear b
  go_wp2_with fail
  go_ret
  exact ⟨rfl, B3.out⟩

end Go.Proofs.Ytlckphdmflofgaa
end

section
/-
  LAYER 8, THE CODE: where an entry belongs, by halves.
-/
namespace Go.Proofs.Ytlckphdmflofgaa
open Go.RowKit

theorem regrown_belowP {w w' : World} (h : ∃ p : Regrown, w' = Sort.grow (redrawn w p.d) p.os) : Below w.heap.size w w' := by
  obtain ⟨p, rfl⟩ := h
  exact below_regrown _ _ _

theorem cells7_regrown {w : World} {b o : Nat} {e : Ent} (h : Cells7 w b o e) :
    (∀ d os, (Sort.grow (redrawn w d) os).cell? ⟨b, o, none⟩ = some (.string ⟨e.o.toArray⟩)) ∧ (∀ d os, (Sort.grow (redrawn w d) os).cell? ⟨b, o + 1, none⟩ = some (.string ⟨e.c.toArray⟩)) ∧
    (∀ d os, (Sort.grow (redrawn w d) os).cell? ⟨b, o + 2, none⟩ = some (.bool e.it.to)) ∧ (∀ d os, (Sort.grow (redrawn w d) os).cell? ⟨b, o + 3, none⟩ = some (.bool e.it.fr)) ∧
    (∀ d os, (Sort.grow (redrawn w d) os).cell? ⟨b, o + 4, none⟩ = some (.bool e.it.out)) ∧ (∀ d os, (Sort.grow (redrawn w d) os).cell? ⟨b, o + 5, none⟩ = some (.bool e.it.inn)) ∧
    (∀ d os, (Sort.grow (redrawn w d) os).cell? ⟨b, o + 6, none⟩ = some (.bool e.it.bl)) :=
  ⟨fun d os => cell_regrown h.1 d os, fun d os => cell_regrown h.2.1 d os, fun d os => cell_regrown h.2.2.1 d os, fun d os => cell_regrown h.2.2.2.1 d os, fun d os => cell_regrown h.2.2.2.2.1 d os, fun d os => cell_regrown h.2.2.2.2.2.1 d os, fun d os => cell_regrown h.2.2.2.2.2.2 d os⟩

set_option maxHeartbeats 3200000 in
set_option maxRecDepth 100000 in
theorem place_any {w : World} {v : Value} {l : List Ent} (hv : Ents w v l) (hr : Rise l) (xo xc : List UInt8) (x1 x2 x3 x4 x5 : Bool) {p : Nat} (hp : entPlace l ⟨xo, xc, ⟨x1, x2, x3, x4, x5⟩⟩ = p) {q : Bool}
    (hq : (decide (p < l.length) && entIs (l.getD p Ent.zero) ⟨xo, xc, ⟨x1, x2, x3, x4, x5⟩⟩) = q) :
    Calls Try.prog 57 #[v, .agg #[.string ⟨xo.toArray⟩, .string ⟨xc.toArray⟩, .bool x1, .bool x2, .bool x3, .bool x4, .bool x5], .func (.func 47) #[] #[]] w fun e w' =>
      e = .returned (.tuple #[.int .i64 p, .bool q]) ∧ Below w.heap.size w w' := by
  have HV := Lib.hid hv
  have HS := Lib.hid fun (h : Nat) (hh : h < l.length) => entPlace_spec hr ⟨xo, xc, ⟨x1, x2, x3, x4, x5⟩⟩ hh
  have hpl := entPlace_le l ⟨xo, xc, ⟨x1, x2, x3, x4, x5⟩⟩
  rw [hp] at HS hpl
  obtain ⟨a, cap, rfl, hm⟩ := hv.open'
  have HX := Lib.hid (cells7_made w ⟨xo, xc, ⟨x1, x2, x3, x4, x5⟩⟩ 70)
  have B0 : Hid (Below w.heap.size w (w.alloc (.cells #[.string ⟨xo.toArray⟩, .string ⟨xc.toArray⟩, .bool x1, .bool x2, .bool x3, .bool x4, .bool x5] 70))) := Lib.hid ((Below.refl _ _).alloc (Nat.le_refl _) _)
  have HQ := Lib.hid hq
  clear hv hp hr hq
  go_enter Try.func57, Try.ntmps57
  go_wp2_with fail
  go_loopw [8, 9] (fun i j wr => ∃ f t : Nat, f ≤ p ∧ p ≤ t ∧ t ≤ l.length ∧ i = .int .i64 f ∧ j = .int .i64 t ∧ Hid (Below w.heap.size w wr) ∧ Hid (Cells7 wr w.heap.size 0 ⟨xo, xc, ⟨x1, x2, x3, x4, x5⟩⟩)) (fun i j _ => (intOf j).toNat - (intOf i).toNat)
  case atStart => exact ⟨0, l.length, by omega, hpl, by omega, rfl, rfl, B0, HX⟩
  case round =>
    obtain ⟨f, t, hfp, hpt, htl, rfl, rfl, HB, HC⟩ := hrel
    by_cases hlt : f < t
    · have hhl : f + (t - f) / 2 < l.length := by omega
      obtain ⟨b, off, rfl, h7⟩ := HV.out.row HB.out (f + (t - f) / 2) hhl
      obtain ⟨⟨eo, ec, ⟨i1, i2, i3, i4, i5⟩⟩, hr⟩ : ∃ r, l.getD (f + (t - f) / 2) Ent.zero = r := ⟨_, rfl⟩
      rw [hr] at h7
      obtain ⟨g0, g1, g2, g3, g4, g5, g6⟩ := cells7_regrown h7
      obtain ⟨c0, c1, c2, c3, c4, c5, c6⟩ := cells7_regrown HC.out
      simp only [Nat.zero_add] at g0 g1 g2 g3 g4 g5 g6 c0 c1 c2 c3 c4 c5 c6
      have HCmp := Lib.hid (rcompare_any eo ec xo xc i1 i2 i3 i4 i5 x1 x2 x3 x4 x5)
      obtain ⟨n, hn⟩ : ∃ n, entI ⟨eo, ec, ⟨i1, i2, i3, i4, i5⟩⟩ ⟨xo, xc, ⟨x1, x2, x3, x4, x5⟩⟩ = n := ⟨_, rfl⟩
      have hsp := HS.out _ hhl
      rw [hr] at hsp
      have hl := entI_lt ⟨eo, ec, ⟨i1, i2, i3, i4, i5⟩⟩ ⟨xo, xc, ⟨x1, x2, x3, x4, x5⟩⟩
      rw [hn] at hl HCmp
      clear hn hr h7
      cases hc : entLt ⟨eo, ec, ⟨i1, i2, i3, i4, i5⟩⟩ ⟨xo, xc, ⟨x1, x2, x3, x4, x5⟩⟩ with
      | true =>
        rw [hc] at hsp hl
        have hn0 : n < 0 := by rw [hl]
        have tn : decide (n < 0) = true := by simpa using hn0
        have hlp : f + (t - f) / 2 < p := by simpa using hsp.symm
        clear hc hsp hl hn0
        go_wp2_with fail
        refine wp_region_quiet_below (by kernel_rfl) (by kernel_rfl) ?_
        repeat (go_big_quiet_step (with_reducible exact rgB HCmp.out _ _ _))
        refine wpQuiet_nil ?_
        intro w5 hw5
        have B5 := Lib.hid (below2S HB.out (regrown_belowP hw5))
        have C5 := Lib.hid (HC.out.later (regrown_belowP hw5))
        clear hw5 g0 g1 g2 g3 g4 g5 g6 c0 c1 c2 c3 c4 c5 c6
        go_wp2_with fail
        go_roundw
        case rel => exact ⟨f + (t - f) / 2 + 1, t, by omega, hpt, htl, by go_num, rfl, B5, C5⟩
        case measure => simp [intOf]; omega
      | false =>
        rw [hc] at hsp hl
        have hn0 : ¬ n < 0 := by rw [hl]; decide
        have tn : decide (n < 0) = false := by simpa using hn0
        have hlp : ¬ f + (t - f) / 2 < p := by simpa using hsp.symm
        clear hc hsp hl hn0
        go_wp2_with fail
        refine wp_region_quiet_below (by kernel_rfl) (by kernel_rfl) ?_
        repeat (go_big_quiet_step (with_reducible exact rgB HCmp.out _ _ _))
        refine wpQuiet_nil ?_
        intro w5 hw5
        have B5 := Lib.hid (below2S HB.out (regrown_belowP hw5))
        have C5 := Lib.hid (HC.out.later (regrown_belowP hw5))
        clear hw5 g0 g1 g2 g3 g4 g5 g6 c0 c1 c2 c3 c4 c5 c6
        go_wp2_with fail
        go_roundw
        case rel => exact ⟨f, f + (t - f) / 2, hfp, by omega, by omega, rfl, by go_num, B5, C5⟩
        case measure => simp [intOf]; omega
    · obtain rfl : f = t := by omega
      obtain rfl : f = p := by omega
      by_cases hin : f < l.length
      · obtain ⟨b, off, rfl, h7⟩ := HV.out.row HB.out f hin
        obtain ⟨⟨eo, ec, ⟨i1, i2, i3, i4, i5⟩⟩, hr⟩ : ∃ r, l.getD f Ent.zero = r := ⟨_, rfl⟩
        rw [hr] at h7
        obtain ⟨g0, g1, g2, g3, g4, g5, g6⟩ := cells7_regrown h7
        obtain ⟨c0, c1, c2, c3, c4, c5, c6⟩ := cells7_regrown HC.out
        simp only [Nat.zero_add] at g0 g1 g2 g3 g4 g5 g6 c0 c1 c2 c3 c4 c5 c6
        have HCmp := Lib.hid (rcompare_any eo ec xo xc i1 i2 i3 i4 i5 x1 x2 x3 x4 x5)
        obtain ⟨n, hn⟩ : ∃ n, entI ⟨eo, ec, ⟨i1, i2, i3, i4, i5⟩⟩ ⟨xo, xc, ⟨x1, x2, x3, x4, x5⟩⟩ = n := ⟨_, rfl⟩
        have hq := HQ.out
        rw [hr, show decide (f < l.length) = true by simpa using hin, Bool.true_and] at hq
        have tq : (n == 0) = q := by
          cases q with
          | true => rw [← hn]; exact entI_on hq
          | false => rw [← hn]; exact entI_off hq
        rw [hn] at HCmp
        have tin : decide ((f : Int) < (l.length : Int)) = true := by simp; omega
        clear hn hr h7 hq HQ
        go_wp2_with fail
        refine wp_region_quiet_below (by kernel_rfl) (by kernel_rfl) ?_
        repeat (go_big_quiet_step (with_reducible exact rgB HCmp.out _ _ _))
        refine wpQuiet_nil ?_
        intro w5 hw5
        have B5 := Lib.hid (below2S HB.out (regrown_belowP hw5))
        clear hw5 g0 g1 g2 g3 g4 g5 g6 c0 c1 c2 c3 c4 c5 c6
        go_wp2_with fail
        go_ret2
        exact ⟨rfl, B5.out⟩
      · have hq := HQ.out
        rw [show decide (f < l.length) = false by simpa using hin, Bool.false_and] at hq
        subst hq
        have tin : decide ((f : Int) < (l.length : Int)) = false := by simp; omega
        clear HQ
        go_wp2_with fail
        refine wp_region_quiet_below (by kernel_rfl) (by kernel_rfl) ?_
        repeat (go_big_quiet_step (fail))
        refine wpQuiet_nil ?_
        intro w5 hw5
        have B5 := Lib.hid (below2S HB.out (regrown_belowP hw5))
        clear hw5
        go_wp2_with fail
        go_ret2
        exact ⟨rfl, B5.out⟩

end Go.Proofs.Ytlckphdmflofgaa
end

section
/-
  LAYER 8, THE CODE: the entry that has an Owner and a Contact.
-/
namespace Go.Proofs.Ytlckphdmflofgaa
open Go.RowKit

/-- An entry stored anew. -/
def set7 (w : World) (B : Nat) (a0 a1 a2 a3 a4 a5 a6 : Value) : World := setMany w [(⟨B, 0, none⟩, a0), (⟨B, 1, none⟩, a1), (⟨B, 2, none⟩, a2), (⟨B, 3, none⟩, a3), (⟨B, 4, none⟩, a4), (⟨B, 5, none⟩, a5), (⟨B, 6, none⟩, a6)]

theorem set7_get (w : World) (B : Nat) (a0 a1 a2 a3 a4 a5 a6 : Value) {u0 u1 u2 u3 u4 u5 u6 : Value} (h0 : w.cell? ⟨B, 0, none⟩ = some u0) (h1 : w.cell? ⟨B, 1, none⟩ = some u1) (h2 : w.cell? ⟨B, 2, none⟩ = some u2) (h3 : w.cell? ⟨B, 3, none⟩ = some u3) (h4 : w.cell? ⟨B, 4, none⟩ = some u4) (h5 : w.cell? ⟨B, 5, none⟩ = some u5) (h6 : w.cell? ⟨B, 6, none⟩ = some u6) :
    let x := set7 w B a0 a1 a2 a3 a4 a5 a6
    x.cell? ⟨B, 0, none⟩ = some a0 ∧ x.cell? ⟨B, 1, none⟩ = some a1 ∧ x.cell? ⟨B, 2, none⟩ = some a2 ∧ x.cell? ⟨B, 3, none⟩ = some a3 ∧ x.cell? ⟨B, 4, none⟩ = some a4 ∧ x.cell? ⟨B, 5, none⟩ = some a5 ∧ x.cell? ⟨B, 6, none⟩ = some a6 := by
  have hm := setMany_get [(⟨B, 0, none⟩, a0), (⟨B, 1, none⟩, a1), (⟨B, 2, none⟩, a2), (⟨B, 3, none⟩, a3), (⟨B, 4, none⟩, a4), (⟨B, 5, none⟩, a5), (⟨B, 6, none⟩, a6)] w (by simp) (by simp [h0, h1, h2, h3, h4, h5, h6])
  exact ⟨hm (_, _) (by simp), hm (_, _) (by simp), hm (_, _) (by simp), hm (_, _) (by simp), hm (_, _) (by simp), hm (_, _) (by simp), hm (_, _) (by simp)⟩

theorem set7_below {w w1 : World} (h : Below w.heap.size w w1) (B : Nat) (hB : w.heap.size ≤ B) (a0 a1 a2 a3 a4 a5 a6 : Value) : Below w.heap.size w (set7 w1 B a0 a1 a2 a3 a4 a5 a6) :=
  setMany_below _ h (by simp [hB])

set_option maxHeartbeats 1600000 in
set_option maxRecDepth 100000 in
theorem find_no {w : World} {v : Value} {l : List Ent} (hv : Ents w v l) (hr : Rise l) (xo xc : List UInt8) (x1 x2 x3 x4 x5 : Bool) (hno : (l.any fun e => entIs e ⟨xo, xc, ⟨x1, x2, x3, x4, x5⟩⟩) = false) :
    Calls Try.prog 36 #[v, .agg #[.string ⟨xo.toArray⟩, .string ⟨xc.toArray⟩, .bool x1, .bool x2, .bool x3, .bool x4, .bool x5]] w fun e w' => e = .returned (.tuple #[.agg #[.string ⟨xo.toArray⟩, .string ⟨xc.toArray⟩, .bool x1, .bool x2, .bool x3, .bool x4, .bool x5], .bool false]) ∧ Below w.heap.size w w' := by
  have B0 : Hid (Below w.heap.size w ((w.alloc (.cells #[.string ⟨xo.toArray⟩, .string ⟨xc.toArray⟩, .bool x1, .bool x2, .bool x3, .bool x4, .bool x5] 70)).alloc (.cells #[.string ⟨#[]⟩, .string ⟨#[]⟩, .bool false, .bool false, .bool false, .bool false, .bool false] 70))) := Lib.hid (((Below.refl _ _).alloc (Nat.le_refl _) _).alloc (by simp) _)
  have hq := (entPlace_there hr ⟨xo, xc, ⟨x1, x2, x3, x4, x5⟩⟩).trans hno
  have HV := Lib.hid (hv.later B0.out)
  have HZ := Lib.hid (show Cells7 ((w.alloc (.cells #[.string ⟨xo.toArray⟩, .string ⟨xc.toArray⟩, .bool x1, .bool x2, .bool x3, .bool x4, .bool x5] 70)).alloc (.cells #[.string ⟨#[]⟩, .string ⟨#[]⟩, .bool false, .bool false, .bool false, .bool false, .bool false] 70)) (w.heap.size + 1) 0 Ent.zero by
    refine ⟨?_, ?_, ?_, ?_, ?_, ?_, ?_⟩ <;> (rw [World.cell?_alloc_at _ _ _ _ (by simp)]; rfl))
  have HX := Lib.hid ((cells7_made w ⟨xo, xc, ⟨x1, x2, x3, x4, x5⟩⟩ 70).later ((Below.refl _ _).alloc (Nat.le_refl _) (.cells #[.string ⟨#[]⟩, .string ⟨#[]⟩, .bool false, .bool false, .bool false, .bool false, .bool false] 70)))
  have HF : Hid (∀ i, ((w.alloc (.cells #[.string ⟨xo.toArray⟩, .string ⟨xc.toArray⟩, .bool x1, .bool x2, .bool x3, .bool x4, .bool x5] 70)).alloc (.cells #[.string ⟨#[]⟩, .string ⟨#[]⟩, .bool false, .bool false, .bool false, .bool false, .bool false] 70)).frozen? ⟨w.heap.size + 1, i, none⟩ = false) := Lib.hid fun i => by simp
  obtain ⟨a, cap, rfl, hm⟩ := hv.open'
  go_enter Try.func36, Try.ntmps36
  go_wp2_with fail
  refine (place_any HV.out hr xo xc x1 x2 x3 x4 x5 rfl hq).mono ?_
  rintro e w1 ⟨rfl, b⟩
  have B1 := Lib.hid (below2S B0.out b)
  obtain ⟨z0, z1, z2, z3, z4, z5, z6⟩ := HZ.out.later b
  obtain ⟨c0, c1, c2, c3, c4, c5, c6⟩ := HX.out.later b
  have f0 := (b.frozen (p := ⟨w.heap.size + 1, 0, none⟩) (by show w.heap.size + 1 < _; simp)).trans (HF.out 0)
  have f1 := (b.frozen (p := ⟨w.heap.size + 1, 1, none⟩) (by show w.heap.size + 1 < _; simp)).trans (HF.out 1)
  have f2 := (b.frozen (p := ⟨w.heap.size + 1, 2, none⟩) (by show w.heap.size + 1 < _; simp)).trans (HF.out 2)
  have f3 := (b.frozen (p := ⟨w.heap.size + 1, 3, none⟩) (by show w.heap.size + 1 < _; simp)).trans (HF.out 3)
  have f4 := (b.frozen (p := ⟨w.heap.size + 1, 4, none⟩) (by show w.heap.size + 1 < _; simp)).trans (HF.out 4)
  have f5 := (b.frozen (p := ⟨w.heap.size + 1, 5, none⟩) (by show w.heap.size + 1 < _; simp)).trans (HF.out 5)
  have f6 := (b.frozen (p := ⟨w.heap.size + 1, 6, none⟩) (by show w.heap.size + 1 < _; simp)).trans (HF.out 6)
  simp only [Nat.zero_add, Ent.zero, It.zero] at z0 z1 z2 z3 z4 z5 z6 c0 c1 c2 c3 c4 c5 c6
  clear b
  go_wp2_with fail
  obtain ⟨r0, r1, r2, r3, r4, r5, r6⟩ := set7_get w1 (w.heap.size + 1) (.string ⟨xo.toArray⟩) (.string ⟨xc.toArray⟩) (.bool x1) (.bool x2) (.bool x3) (.bool x4) (.bool x5) z0 z1 z2 z3 z4 z5 z6
  have hB := set7_below B1.out (w.heap.size + 1) (by omega) (.string ⟨xo.toArray⟩) (.string ⟨xc.toArray⟩) (.bool x1) (.bool x2) (.bool x3) (.bool x4) (.bool x5)
  show bodyPost _ _ _ _ _ (set7 w1 (w.heap.size + 1) (.string ⟨xo.toArray⟩) (.string ⟨xc.toArray⟩) (.bool x1) (.bool x2) (.bool x3) (.bool x4) (.bool x5))
  exact bodyPost_ret (v := .tuple #[.agg #[.string ⟨xo.toArray⟩, .string ⟨xc.toArray⟩, .bool x1, .bool x2, .bool x3, .bool x4, .bool x5], .bool false]) (by simp [results, Try.results36, go_sem, r0, r1, r2, r3, r4, r5, r6]) rfl ⟨rfl, hB⟩

set_option maxHeartbeats 1600000 in
set_option maxRecDepth 100000 in
theorem find_yes {w : World} {v : Value} {l : List Ent} (hv : Ents w v l) (hr : Rise l) (xo xc : List UInt8) (x1 x2 x3 x4 x5 : Bool) {eo ec : List UInt8} {i1 i2 i3 i4 i5 : Bool} (hlt : entPlace l ⟨xo, xc, ⟨x1, x2, x3, x4, x5⟩⟩ < l.length) (he : l.getD (entPlace l ⟨xo, xc, ⟨x1, x2, x3, x4, x5⟩⟩) Ent.zero = ⟨eo, ec, ⟨i1, i2, i3, i4, i5⟩⟩) (hs : entIs ⟨eo, ec, ⟨i1, i2, i3, i4, i5⟩⟩ ⟨xo, xc, ⟨x1, x2, x3, x4, x5⟩⟩ = true) :
    Calls Try.prog 36 #[v, .agg #[.string ⟨xo.toArray⟩, .string ⟨xc.toArray⟩, .bool x1, .bool x2, .bool x3, .bool x4, .bool x5]] w fun e w' => e = .returned (.tuple #[.agg #[.string ⟨eo.toArray⟩, .string ⟨ec.toArray⟩, .bool i1, .bool i2, .bool i3, .bool i4, .bool i5], .bool true]) ∧ Below w.heap.size w w' := by
  have B0 : Hid (Below w.heap.size w ((w.alloc (.cells #[.string ⟨xo.toArray⟩, .string ⟨xc.toArray⟩, .bool x1, .bool x2, .bool x3, .bool x4, .bool x5] 70)).alloc (.cells #[.string ⟨#[]⟩, .string ⟨#[]⟩, .bool false, .bool false, .bool false, .bool false, .bool false] 70))) := Lib.hid (((Below.refl _ _).alloc (Nat.le_refl _) _).alloc (by simp) _)
  have hq : (decide (entPlace l ⟨xo, xc, ⟨x1, x2, x3, x4, x5⟩⟩ < l.length) && entIs (l.getD (entPlace l ⟨xo, xc, ⟨x1, x2, x3, x4, x5⟩⟩) Ent.zero) ⟨xo, xc, ⟨x1, x2, x3, x4, x5⟩⟩) = true := by rw [he, hs]; simpa using hlt
  have HV := Lib.hid (hv.later B0.out)
  have HZ := Lib.hid (show Cells7 ((w.alloc (.cells #[.string ⟨xo.toArray⟩, .string ⟨xc.toArray⟩, .bool x1, .bool x2, .bool x3, .bool x4, .bool x5] 70)).alloc (.cells #[.string ⟨#[]⟩, .string ⟨#[]⟩, .bool false, .bool false, .bool false, .bool false, .bool false] 70)) (w.heap.size + 1) 0 Ent.zero by
    refine ⟨?_, ?_, ?_, ?_, ?_, ?_, ?_⟩ <;> (rw [World.cell?_alloc_at _ _ _ _ (by simp)]; rfl))
  have HX := Lib.hid ((cells7_made w ⟨xo, xc, ⟨x1, x2, x3, x4, x5⟩⟩ 70).later ((Below.refl _ _).alloc (Nat.le_refl _) (.cells #[.string ⟨#[]⟩, .string ⟨#[]⟩, .bool false, .bool false, .bool false, .bool false, .bool false] 70)))
  have HF : Hid (∀ i, ((w.alloc (.cells #[.string ⟨xo.toArray⟩, .string ⟨xc.toArray⟩, .bool x1, .bool x2, .bool x3, .bool x4, .bool x5] 70)).alloc (.cells #[.string ⟨#[]⟩, .string ⟨#[]⟩, .bool false, .bool false, .bool false, .bool false, .bool false] 70)).frozen? ⟨w.heap.size + 1, i, none⟩ = false) := Lib.hid fun i => by simp
  obtain ⟨a, cap, rfl, hm⟩ := hv.open'
  go_enter Try.func36, Try.ntmps36
  go_wp2_with fail
  refine (place_any HV.out hr xo xc x1 x2 x3 x4 x5 rfl hq).mono ?_
  rintro e w1 ⟨rfl, b⟩
  have B1 := Lib.hid (below2S B0.out b)
  obtain ⟨z0, z1, z2, z3, z4, z5, z6⟩ := HZ.out.later b
  obtain ⟨c0, c1, c2, c3, c4, c5, c6⟩ := HX.out.later b
  have f0 := (b.frozen (p := ⟨w.heap.size + 1, 0, none⟩) (by show w.heap.size + 1 < _; simp)).trans (HF.out 0)
  have f1 := (b.frozen (p := ⟨w.heap.size + 1, 1, none⟩) (by show w.heap.size + 1 < _; simp)).trans (HF.out 1)
  have f2 := (b.frozen (p := ⟨w.heap.size + 1, 2, none⟩) (by show w.heap.size + 1 < _; simp)).trans (HF.out 2)
  have f3 := (b.frozen (p := ⟨w.heap.size + 1, 3, none⟩) (by show w.heap.size + 1 < _; simp)).trans (HF.out 3)
  have f4 := (b.frozen (p := ⟨w.heap.size + 1, 4, none⟩) (by show w.heap.size + 1 < _; simp)).trans (HF.out 4)
  have f5 := (b.frozen (p := ⟨w.heap.size + 1, 5, none⟩) (by show w.heap.size + 1 < _; simp)).trans (HF.out 5)
  have f6 := (b.frozen (p := ⟨w.heap.size + 1, 6, none⟩) (by show w.heap.size + 1 < _; simp)).trans (HF.out 6)
  simp only [Nat.zero_add, Ent.zero, It.zero] at z0 z1 z2 z3 z4 z5 z6 c0 c1 c2 c3 c4 c5 c6
  obtain ⟨bb, off, rfl, g0, g1, g2, g3, g4, g5, g6⟩ := HV.out.row b _ hlt
  rw [he] at g0 g1 g2 g3 g4 g5 g6
  simp only at g0 g1 g2 g3 g4 g5 g6
  obtain ⟨p, hp⟩ : ∃ p, entPlace l ⟨xo, xc, ⟨x1, x2, x3, x4, x5⟩⟩ = p := ⟨_, rfl⟩
  rw [hp] at g0 g1 g2 g3 g4 g5 g6 hlt ⊢
  have hk0 : (0 : Int) ≤ (p : Int) := by omega
  have hk1 : (p : Int) < (l.length : Int) := by omega
  clear b hp hq he hs
  go_wp2_with fail
  obtain ⟨r0, r1, r2, r3, r4, r5, r6⟩ := set7_get w1 (w.heap.size + 1) (.string ⟨eo.toArray⟩) (.string ⟨ec.toArray⟩) (.bool i1) (.bool i2) (.bool i3) (.bool i4) (.bool i5) z0 z1 z2 z3 z4 z5 z6
  have hB := set7_below B1.out (w.heap.size + 1) (by omega) (.string ⟨eo.toArray⟩) (.string ⟨ec.toArray⟩) (.bool i1) (.bool i2) (.bool i3) (.bool i4) (.bool i5)
  show bodyPost _ _ _ _ _ (set7 w1 (w.heap.size + 1) (.string ⟨eo.toArray⟩) (.string ⟨ec.toArray⟩) (.bool i1) (.bool i2) (.bool i3) (.bool i4) (.bool i5))
  exact bodyPost_ret (v := .tuple #[.agg #[.string ⟨eo.toArray⟩, .string ⟨ec.toArray⟩, .bool i1, .bool i2, .bool i3, .bool i4, .bool i5], .bool true]) (by simp [results, Try.results36, go_sem, r0, r1, r2, r3, r4, r5, r6]) rfl ⟨rfl, hB⟩

end Go.Proofs.Ytlckphdmflofgaa
end
