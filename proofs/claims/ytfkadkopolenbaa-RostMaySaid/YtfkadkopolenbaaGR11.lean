/-
  TEXTS OF THE PROOF, one behind the other: EntIns, Ord, OrdSet, RosHas, RosGet, RosFirst, RosFirstC.
-/
import Derived.Test.YtfkadkopolenbaaGR10
import Derived.Lib.Hide
import Derived.Maps.OwnSet
import Derived.Deep.RegionHeld
import Derived.Deep.AppendLies
import Derived.WalkSpells
import Derived.StillTailTactics

section

/-
  slices.Clone, slices.Insert AND slices.Delete of one element, at elements of 7 cells.
-/
namespace Go.Proofs.Ytfkadkopolenbaa
open Go.RowKit

set_option maxHeartbeats 800000 in
set_option maxRecDepth 100000 in
theorem ent_clone {w : World} {v : Value} {t : List Ent} (hv : RdS entVals 7 Ent.zero w v t) (hl : t.length ≤ 4294967) :
    Calls Try.prog 85 #[v] w fun e w' => ∃ u, e = .returned u ∧ OwnS entVals 7 49 w' w.heap.size u t ∧ Below w.heap.size w w' := by
  have HV := Lib.hid hv
  obtain ⟨a, cap, rfl, h1, h2, h3, h4⟩ := hv
  cases a with
  | none =>
    obtain rfl : cap = 0 := h3 rfl
    obtain rfl : t = [] := List.length_eq_zero_iff.1 (by omega)
    have heq := fun w => eqlS_nil_nil entOK w 0 0
    clear h4
    go_enter Try.func85, Try.ntmps85
    go_wp2_with fail
    go_ret
    exact ⟨_, rfl, ownS_nil _ _, Below.refl _ _⟩
  | some x =>
    have HS := Lib.hid ((HV.out.later ((Below.refl _ _).alloc (Nat.le_refl _) (.cells #[] 49))).src entOK)
    have heq := fun w => eqlS_nil_some entOK w x t.length cap
    clear h4 h3
    go_enter Try.func85, Try.ntmps85
    go_wp2_with (at_builtin; go_must (refine wpList_append_S entOK rfl _ _ rfl w.heap.size _ [] rfl (by exact ownS_made w) (some x) t.length cap t rfl rfl (fun e => nomatch e) ?c1 (by simp only [List.length_nil]; omega) (by simp) ?_))
    case c1 => intro ad had; obtain rfl := Option.some.inj had; exact HS.out
    intro v' w' ho' hb'
    have O := Lib.hid ho'
    have hbB : Hid (Below w.heap.size w w') := ((Below.refl w.heap.size w).alloc (Nat.le_refl _) _).trans hb'
    clear ho' hb'
    go_wp2_with fail
    go_ret
    exact ⟨_, rfl, by have := O.out; simpa using this, hbB.out⟩

theorem putS_end {β : Type} (t : List β) (r : β) : putS t t.length r = t ++ [r] := by simp [putS]

set_option maxHeartbeats 1600000 in
set_option maxRecDepth 100000 in
theorem ent_ins_end {w : World} {base : Nat} {v : Value} {t : List Ent} (ho : OwnS entVals 7 49 w base v t) (hbase : base ≤ w.heap.size) (hl : t.length ≤ 1000) {B : Nat} {r : Ent} (hr : LoneS entVals 49 w B r) :
    Calls Try.prog 87 #[v, .int .i64 t.length, .slice (some ⟨B, 0, none⟩) 1 1] w fun e w' => ∃ u, e = .returned u ∧ OwnS entVals 7 49 w' base u (putS t t.length r) ∧ Below base w w' := by
  have HO := Lib.hid ho
  have HS := Lib.hid hr.src
  have HE := Lib.hid (putS_end t r)
  have t0 : ((t.length : Int) == (t.length : Int)) = true := by simp
  rcases ho.2 with ⟨rfl, h0⟩ | ⟨g, cap, cur, rfl, _, _, hnc, hcm, _⟩
  · obtain rfl : t = [] := List.length_eq_zero_iff.1 h0
    clear ho hr h0
    go_enter Try.func87, Try.ntmps87
    go_wp2_with (at_builtin; go_must (refine wpList_append_S entOK rfl _ _ rfl base _ [] rfl (by exact HO.out) (some ⟨B, 0, none⟩) 1 1 [r] rfl rfl (fun e => nomatch e) ?c1 (by simp) hbase ?_))
    case c1 => intro ad had; obtain rfl := Option.some.inj had; exact HS.out
    intro v' w' ho' hb'
    have O := Lib.hid ho'
    have HB := Lib.hid hb'
    clear ho' hb'
    go_wp2_with fail
    go_ret
    exact ⟨_, rfl, O.out, HB.out⟩
  · unfold maxLen at hcm
    clear ho hr
    by_cases hc : cap = t.length
    · subst hc
      go_enter Try.func87, Try.ntmps87
      go_wp2_with (at_builtin; go_must (refine wpList_append_S entOK rfl _ _ rfl base _ t rfl (by exact HO.out) (some ⟨B, 0, none⟩) 1 1 [r] rfl rfl (fun e => nomatch e) ?c1 (by simp only [List.length_cons, List.length_nil]; omega) hbase ?_))
      case c1 => intro ad had; obtain rfl := Option.some.inj had; exact HS.out
      intro v' w' ho' hb'
      have O := Lib.hid ho'
      have HB := Lib.hid hb'
      clear ho' hb'
      go_wp2_with fail
      go_ret
      exact ⟨_, rfl, by rw [HE.out]; exact O.out, HB.out⟩
    · go_enter Try.func87, Try.ntmps87
      go_wp2_with (at_builtin; go_must (refine wpList_append_S entOK rfl _ _ rfl base _ t rfl (by exact HO.out) (some ⟨B, 0, none⟩) 1 1 [r] rfl rfl (fun e => nomatch e) ?c1 (by simp only [List.length_cons, List.length_nil]; omega) hbase ?_))
      case c1 => intro ad had; obtain rfl := Option.some.inj had; exact HS.out
      intro v' w' ho' hb'
      have O := Lib.hid ho'
      have HB := Lib.hid hb'
      clear ho' hb'
      go_wp2_with fail
      go_ret
      exact ⟨_, rfl, by rw [HE.out]; exact O.out, HB.out⟩

set_option maxHeartbeats 3200000 in
set_option maxRecDepth 100000 in
theorem ent_ins_grow {w : World} {base g cap : Nat} {t : List Ent} (ho : OwnS entVals 7 49 w base (.slice (some ⟨g, 0, none⟩) t.length cap) t) (hbase : base ≤ w.heap.size) (hl : t.length ≤ 1000) {i : Nat} (hi : i < t.length) (hc : cap = t.length) {B : Nat} {r : Ent} (hr : LoneS entVals 49 w B r) :
    Calls Try.prog 87 #[.slice (some ⟨g, 0, none⟩) t.length cap, .int .i64 i, .slice (some ⟨B, 0, none⟩) 1 1] w fun e w' => ∃ u, e = .returned u ∧ OwnS entVals 7 49 w' base u (putS t i r) ∧ Below base w w' := by
  subst hc
  have HO := Lib.hid ho
  have HR := Lib.hid hr
  have HE := Lib.hid (layS_grow Ent.zero hi r)
  have t0 : ((i : Int) == (t.length : Int)) = false := by simp; omega
  have t1 : ¬ t.length = i := by omega
  have hw1 : IntKind.i64.wrap ((i : Int) + 1) = (i : Int) + 1 := IntWalk.i64_in _ (by omega)
  have htn : ((i : Int) + 1).toNat = i + 1 := by omega
  have hb0 : (0 : Int) ≤ (i : Int) + 1 := by omega
  have hin : i ≤ t.length := by omega
  have hgw := ho.head.2.2.1
  have hBw := hr.lt
  clear ho hr
  go_enter Try.func87, Try.ntmps87
  go_wp2_with (with_reducible refine wpList_append_zero_S entOK Try.underlying3 rfl (.tmp 34) (.tmp 39) rfl base g t.length t.length t HO.out i (t.length + 1 - i) (t.length + 1) ((t.length : Int) + 1 - (i : Int)) rfl rfl (by omega) (by omega) (by omega) (by omega) (by omega) (by omega) ?_)
  intro w1 G h1 hG hGm hb1
  have O1 := Lib.hid h1
  have B1 := Lib.hid hb1
  have S1 := Lib.hid (HR.out.later hb1).src
  have P1 := Lib.hid (HO.out.later hb1)
  have hsz := hb1.size
  have hlen : (t.take i ++ List.replicate (t.length + 1 - i) Ent.zero).length = t.length + 1 := by rw [List.length_append, List.length_take, List.length_replicate]; omega
  have t2 : ¬ G = i := by omega
  have t3 : ¬ G = i + 1 := by omega
  have O1r : Hid (OwnCS 7 49 w1 w.heap.size w.heap.size (t.length + 1) G (cellsS entVals (t.take i ++ List.replicate (t.length + 1 - i) Ent.zero))) := h1.raw
  clear h1 hb1
  go_wp2_with (with_reducible refine wpList_copy_C entOK rfl (.tmp 43) (.tmp 44) rfl w.heap.size w.heap.size (t.length + 1) G _ O1r.out i (t.length + 1 - i) (G - i) ⟨B, 0, none⟩ 1 1 rfl rfl [r] (by simp only [List.length_singleton, Nat.min_def]; split <;> omega) S1.out (by simp only [List.length_singleton]; omega) ?_)
  intro w2 h2 hb2 hk2
  rw [cellsS_lay entOK.len] at h2
  have O2 := Lib.hid h2
  have B2 := Lib.hid (B1.out.trans (hb2.mono (Nat.le_refl _)))
  have P2 : Hid (SrcS entVals w2.drew ⟨g, i * 7, none⟩ (t.drop i)) := by
    show SrcS entVals _ _ _
    intro j x hx
    have := P1.out.src entOK i (t.length - i) (by omega) j x (by rw [List.take_of_length_le (by rw [List.length_drop]; omega)]; exact hx)
    exact (hk2 _ (by rw [Addr.add_lit]; show g ≠ w.heap.size; omega)).trans this
  clear h2 hb2 hk2 O1 O1r B1 S1
  go_wp2_with fail
  go_region_law (refine step_copy_C entOK rfl (.tmp 50) (.tmp 53) rfl w.heap.size w.heap.size (t.length + 1) G _ O2.out.drew (i + 1) (t.length - i) (G - (i + 1)) ⟨g, i * 7, none⟩ (t.length - i) (t.length - i) (by simp [Act.eval, Act.put]) (by simp [Act.eval, Act.put]) (t.drop i) (by simp only [List.length_drop, Nat.min_def]; split <;> omega) P2.out (by rw [List.length_drop]; omega) ?_; intro w3 h3 hb3 hk3)
  all_goals
    rw [cellsS_lay entOK.len, HE.out] at h3
    have O3 := Lib.hid (h3.rows (putS_len t i r).symm)
    have B3 := Lib.hid ((B2.out.mono hbase).drew.trans (hb3.mono hbase))
    clear h3 hb3 hk3
    go_wp2_with fail
    go_ret
    exact ⟨_, rfl, ownS_low O3.out hbase, B3.out⟩

set_option maxHeartbeats 3200000 in
set_option maxRecDepth 100000 in
theorem ent_ins_room {w : World} {base g cap : Nat} {t : List Ent} (ho : OwnS entVals 7 49 w base (.slice (some ⟨g, 0, none⟩) t.length cap) t) (hl : t.length ≤ 1000) {i : Nat} (hi : i < t.length) (hc : t.length < cap) (hcm : cap ≤ 9223372036854775807) {B : Nat} {r : Ent} (hr : LoneS entVals 49 w B r) (hne : B ≠ g) :
    Calls Try.prog 87 #[.slice (some ⟨g, 0, none⟩) t.length cap, .int .i64 i, .slice (some ⟨B, 0, none⟩) 1 1] w fun e w' => ∃ u, e = .returned u ∧ OwnS entVals 7 49 w' base u (putS t i r) ∧ Below base w w' := by
  obtain ⟨z, hz, hw⟩ := ownS_wider ho hc
  have HO := Lib.hid hw
  have HS := Lib.hid hr.src
  have hin2 : (i : Int) ≤ (t.length : Int) + 1 := by omega
  have S0 : Hid (SrcS entVals w.drew ⟨g, i * 7, none⟩ (t.drop i)) := by
    show SrcS entVals _ _ _
    intro j x hx
    exact ho.src entOK i (t.length - i) (by omega) j x (by rw [List.take_of_length_le (by rw [List.length_drop]; omega)]; exact hx)
  have HE := Lib.hid (layS_room entOK.len hi r z hz)
  have HG := Lib.hid ho.head.2.1
  have t0 : ((i : Int) == (t.length : Int)) = false := by simp; omega
  have t1 : ¬ cap = i := by omega
  have t2 : ¬ cap = i + 1 := by omega
  have hw1 : IntKind.i64.wrap ((i : Int) + 1) = (i : Int) + 1 := IntWalk.i64_in _ (by omega)
  have htn : ((i : Int) + 1).toNat = i + 1 := by omega
  have hb0 : (0 : Int) ≤ (i : Int) + 1 := by omega
  have hin : i ≤ t.length := by omega
  have hov : ∀ lb cb, (callFunc 101 #[.slice (some ⟨B, 0, none⟩) 1 1, .slice (some ⟨g, (i + 1) * 7, none⟩) lb cb]).run Try.prog w = .ok (.value (.bool false)) w := fun lb cb => by
    obtain ⟨_, _, _, _, _, cur, hg, hcs⟩ := ho.head
    rw [run_callFunc_extern Try.func101 (by kernel_rfl) (by kernel_rfl) (by kernel_rfl) (e := Extern.SlicesOverlaps.overlaps #[22, 22] #[4]) (by kernel_rfl),
      Lib.run_overlaps_apart w 22 4 49 Try.underlying22 7 (sizeS entOK) ⟨B, 0, none⟩ ⟨g, (i + 1) * 7, none⟩ 1 1 lb cb hne _ _ _ _ (hr.shape entOK.len) (ownS_shape hg) (by omega) (hr.free _) (hr.free _)]
    rfl
  clear ho hr hw
  go_enter Try.func87, Try.ntmps87
  go_wp2_with (simp only [hov])
  go_region_law (refine step_copy_C entOK rfl (.tmp 73) (.tmp 76) rfl base g (t.length + 1) cap _ HO.out.drew (i + 1) (t.length - i) (cap - (i + 1)) ⟨g, i * 7, none⟩ (t.length + 1 - i) (cap - i) (by simp [Act.eval, Act.put]) (by simp [Act.eval, Act.put]) (t.drop i) (by simp only [List.length_drop, Nat.min_def]; split <;> omega) S0.out (by rw [List.length_drop]; omega) ?_; intro w1 h1 hb1 hk1)
  all_goals
    have O1 := Lib.hid h1
    have B1 := Lib.hid ((Below.refl base w).drew.trans (hb1.mono HG.out))
    have S1 : Hid (SrcS entVals w1 ⟨B, 0, none⟩ [r]) := by
      show SrcS entVals _ _ _
      intro j x hx
      exact (hk1 _ (by rw [Addr.add_lit]; exact hne)).trans (HS.out j x hx)
    clear h1 hb1 hk1
    go_wp2_with (with_reducible refine wpList_copy_C entOK rfl (.tmp 80) (.tmp 81) rfl base g (t.length + 1) cap _ O1.out i (t.length + 1 - i) (cap - i) ⟨B, 0, none⟩ 1 1 rfl rfl [r] (by simp only [List.length_singleton, Nat.min_def]; split <;> omega) S1.out (by simp only [List.length_singleton]; omega) ?_)
    intro w2 h2 hb2 hk2
    rw [HE.out] at h2
    have O2 := Lib.hid (h2.rows (putS_len t i r).symm)
    have B2 := Lib.hid (B1.out.trans (hb2.mono HG.out))
    clear h2 hb2 hk2
    go_wp2_with fail
    go_ret
    exact ⟨_, rfl, O2.out, B2.out⟩

theorem ent_insert {w : World} {base : Nat} {v : Value} {t : List Ent} (ho : OwnS entVals 7 49 w base v t) (hbase : base ≤ w.heap.size) (hl : t.length ≤ 1000) {i : Nat} (hi : i ≤ t.length) {B : Nat} {r : Ent} (hr : LoneS entVals 49 w B r) (hne : ∀ g n c, v = .slice (some ⟨g, 0, none⟩) n c → B ≠ g) :
    Calls Try.prog 87 #[v, .int .i64 i, .slice (some ⟨B, 0, none⟩) 1 1] w fun e w' => ∃ u, e = .returned u ∧ OwnS entVals 7 49 w' base u (putS t i r) ∧ Below base w w' := by
  by_cases h : i = t.length
  · subst h
    exact ent_ins_end ho hbase hl hr
  · have hi' : i < t.length := by omega
    rcases ho.2 with ⟨rfl, h0⟩ | ⟨g, cap, cur, rfl, _, _, hnc, hcm, _⟩
    · omega
    · by_cases hc : cap = t.length
      · exact ent_ins_grow ho hbase hl hi' hc hr
      · unfold maxLen at hcm
        exact ent_ins_room ho hl hi' (by omega) (by omega) hr (hne _ _ _ rfl)

end Go.Proofs.Ytfkadkopolenbaa

end

section

/-
  PLAIN: lists that rise by an order of keys: where one belongs, one put in or taken out, what stands in them then.
-/
namespace Go.Proofs.Ytfkadkopolenbaa

/-- An order: of two just one stands ahead, or they are alike. -/
structure OrdOK {α : Type} (lt eq : α → α → Bool) : Prop where
  irrefl : ∀ a, lt a a = false
  trans : ∀ a b c, lt a b = true → lt b c = true → lt a c = true
  tri : ∀ a b, (lt a b = true ∧ lt b a = false ∧ eq a b = false) ∨ (lt a b = false ∧ lt b a = true ∧ eq a b = false) ∨ (lt a b = false ∧ lt b a = false ∧ eq a b = true)
  same : ∀ a b x, eq a b = true → lt a x = lt b x ∧ lt x a = lt x b

section
variable {α : Type} {lt eq : α → α → Bool} {zero : α}

theorem OrdOK.refl (O : OrdOK lt eq) (a : α) : eq a a = true := by
  rcases O.tri a a with ⟨h, _, _⟩ | ⟨_, h, _⟩ | ⟨_, _, h⟩
  · rw [O.irrefl] at h; cases h
  · rw [O.irrefl] at h; cases h
  · exact h

theorem OrdOK.eq_of (O : OrdOK lt eq) {a b : α} (h1 : lt a b = false) (h2 : lt b a = false) : eq a b = true := by
  rcases O.tri a b with ⟨h, _, _⟩ | ⟨_, h, _⟩ | ⟨_, _, h⟩
  · rw [h1] at h; cases h
  · rw [h2] at h; cases h
  · exact h

theorem OrdOK.eq_no (O : OrdOK lt eq) {a b : α} (h : eq a b = true) : lt a b = false ∧ lt b a = false := by
  rcases O.tri a b with ⟨_, _, g⟩ | ⟨_, _, g⟩ | ⟨g1, g2, _⟩
  · rw [h] at g; cases g
  · rw [h] at g; cases g
  · exact ⟨g1, g2⟩

theorem OrdOK.symm (O : OrdOK lt eq) (a b : α) : eq a b = eq b a := by
  rcases O.tri a b with ⟨h1, h2, h3⟩ | ⟨h1, h2, h3⟩ | ⟨h1, h2, h3⟩
  all_goals rcases O.tri b a with ⟨g1, g2, g3⟩ | ⟨g1, g2, g3⟩ | ⟨g1, g2, g3⟩
  all_goals simp_all

theorem OrdOK.eq_trans (O : OrdOK lt eq) {a b c : α} (h1 : eq a b = true) (h2 : eq b c = true) : eq a c = true := by
  have e1 := O.same a b c h1
  have e2 := O.eq_no h2
  exact O.eq_of (by rw [e1.1]; exact e2.1) (by rw [e1.2]; exact e2.2)

theorem OrdOK.asymm (O : OrdOK lt eq) {a b : α} (h : lt a b = true) : lt b a = false := by
  rcases O.tri a b with ⟨_, g, _⟩ | ⟨g, _, _⟩ | ⟨g, _, _⟩
  · exact g
  · rw [h] at g; cases g
  · rw [h] at g; cases g

theorem OrdOK.lt_no (O : OrdOK lt eq) {a b : α} (h : lt a b = true) : eq a b = false := by
  rcases O.tri a b with ⟨_, _, g⟩ | ⟨g, _, _⟩ | ⟨g, _, _⟩
  · exact g
  · rw [h] at g; cases g
  · rw [h] at g; cases g

/-- .. ahead of one behind which, or like which, the other one stands. -/
theorem OrdOK.lt_le (O : OrdOK lt eq) {a b c : α} (h1 : lt a b = true) (h2 : lt c b = false) : lt a c = true := by
  rcases O.tri b c with ⟨g, _, _⟩ | ⟨_, g, _⟩ | ⟨_, _, g⟩
  · exact O.trans _ _ _ h1 g
  · rw [h2] at g; cases g
  · rw [← (O.same b c a g).2]; exact h1

/-- A list that rises. -/
def RiseO (lt : α → α → Bool) (l : List α) : Prop := l.Pairwise fun a b => lt a b = true

/-- How many stand ahead of x. -/
def placeO (lt : α → α → Bool) (l : List α) (x : α) : Nat := (l.takeWhile fun e => lt e x).length

/-- Where the first one like x stands. -/
def findO (eq : α → α → Bool) (l : List α) (x : α) : Option Nat := l.findIdx? fun e => eq e x

/-- x at its place, instead of the one like it. -/
def putO (lt eq : α → α → Bool) (l : List α) (x : α) : List α :=
  match findO eq l x with
  | some i => l.set i x
  | none => putS l (placeO lt l x) x

/-- All but such as are like x. -/
def dropO (eq : α → α → Bool) (l : List α) (x : α) : List α := l.filter fun e => !eq e x

theorem placeO_le (l : List α) (x : α) : placeO lt l x ≤ l.length := by
  unfold placeO
  exact (List.takeWhile_sublist _).length_le

theorem findO_some {l : List α} {x : α} {i : Nat} (h : findO eq l x = some i) : ∃ hi : i < l.length, eq l[i] x = true ∧ ∀ j (hj : j < i), eq (l[j]'(by omega)) x = false := by
  unfold findO at h
  rw [List.findIdx?_eq_some_iff_getElem] at h
  obtain ⟨hi, h2, h3⟩ := h
  exact ⟨hi, h2, fun j hj => by simpa using h3 j hj⟩

theorem findO_none {l : List α} {x : α} (h : findO eq l x = none) : ∀ y ∈ l, eq y x = false := by
  unfold findO at h
  rw [List.findIdx?_eq_none_iff] at h
  intro y hy
  simpa using h y hy

theorem findO_of {l : List α} {x : α} {i : Nat} (hi : i < l.length) (h : eq l[i] x = true) (hn : ∀ j (hj : j < i), eq (l[j]'(by omega)) x = false) : findO eq l x = some i := by
  unfold findO
  rw [List.findIdx?_eq_some_iff_getElem]
  exact ⟨hi, h, fun j hj => by simpa using hn j hj⟩

theorem findO_of_none {l : List α} {x : α} (h : ∀ y ∈ l, eq y x = false) : findO eq l x = none := by
  unfold findO
  rw [List.findIdx?_eq_none_iff]
  intro y hy
  simpa using h y hy

theorem rise_get {l : List α} (h : RiseO lt l) {i j : Nat} (hj : j < l.length) (hij : i < j) : lt (l[i]'(by omega)) l[j] = true :=
  List.pairwise_iff_getElem.1 h i j (by omega) hj hij

theorem placeO_ahead {l : List α} {x : α} {k : Nat} (h : k < placeO lt l x) : lt (l[k]'(Nat.lt_of_lt_of_le h (placeO_le l x))) x = true := by
  unfold placeO at h
  have h1 : (l.takeWhile fun e => lt e x)[k] ∈ l.takeWhile fun e => lt e x := List.getElem_mem h
  have h2 := List.all_takeWhile (l := l) (p := fun e => lt e x)
  rw [List.all_eq_true] at h2
  have h3 := h2 _ h1
  have h4 := (List.takeWhile_prefix (fun e => lt e x) (l := l)).getElem h
  rwa [h4] at h3

theorem takeWhile_stop {p : α → Bool} : ∀ {l : List α} (h : (l.takeWhile p).length < l.length), p (l[(l.takeWhile p).length]'h) = false
  | [], h => by simp at h
  | a :: l, h => by
    by_cases hp : p a = true
    · have e : (a :: l).takeWhile p = a :: l.takeWhile p := by rw [List.takeWhile_cons, if_pos hp]
      simp only [e, List.length_cons, List.getElem_cons_succ]
      exact takeWhile_stop (l := l) (by simpa [e] using h)
    · have e : (a :: l).takeWhile p = [] := by rw [List.takeWhile_cons, if_neg hp]
      simp only [e, List.length_nil, List.getElem_cons_zero]
      simpa using hp

theorem placeO_behind (O : OrdOK lt eq) {l : List α} (hr : RiseO lt l) {x : α} {k : Nat} (hk : k < l.length) (h : placeO lt l x ≤ k) : lt l[k] x = false := by
  have hp : placeO lt l x < l.length := by omega
  have h0 : lt (l[placeO lt l x]'hp) x = false := takeWhile_stop hp
  by_cases e : placeO lt l x = k
  · simp only [← e]; exact h0
  · have h1 := rise_get hr hk (show placeO lt l x < k by omega)
    rw [Bool.eq_false_iff]
    intro h2
    rw [O.trans _ _ _ h1 h2] at h0
    cases h0

/-- What stands at its place is like x, if any is. -/
theorem findO_place (O : OrdOK lt eq) {l : List α} (hr : RiseO lt l) {x : α} {i : Nat} (h : findO eq l x = some i) : i = placeO lt l x := by
  obtain ⟨hi, he, _⟩ := findO_some h
  rcases Nat.lt_trichotomy i (placeO lt l x) with hlt | he2 | hlt
  · have := placeO_ahead hlt
    rw [(O.eq_no he).1] at this; cases this
  · exact he2
  · have hp : placeO lt l x < l.length := by omega
    have h1 := rise_get hr hi hlt
    have h2 := placeO_behind O hr hp (Nat.le_refl _)
    rw [← (O.same _ _ (l[placeO lt l x]) he).2, h1] at h2
    cases h2

theorem rise_one (O : OrdOK lt eq) {l : List α} (hr : RiseO lt l) {i j : Nat} (hi : i < l.length) (hj : j < l.length) (h : eq l[i] l[j] = true) : i = j := by
  rcases Nat.lt_trichotomy i j with hlt | he | hlt
  · have := rise_get hr hj hlt
    rw [(O.eq_no h).1] at this; cases this
  · exact he
  · have := rise_get hr hi hlt
    rw [(O.eq_no h).2] at this; cases this

theorem rise_mem (O : OrdOK lt eq) {l : List α} (hr : RiseO lt l) {a b : α} (ha : a ∈ l) (hb : b ∈ l) (h : eq a b = true) : a = b := by
  obtain ⟨i, hi, rfl⟩ := List.getElem_of_mem ha
  obtain ⟨j, hj, rfl⟩ := List.getElem_of_mem hb
  have := rise_one O hr hi hj h
  subst this
  rfl

/-- Two lists that rise, of the same ones, are the same. -/
theorem rise_unique (O : OrdOK lt eq) : ∀ {l m : List α}, RiseO lt l → RiseO lt m → (∀ x, x ∈ l ↔ x ∈ m) → l = m
  | [], [], _, _, _ => rfl
  | [], b :: m, _, _, h => by have := (h b).2 (by simp); simp at this
  | a :: l, [], _, _, h => by have := (h a).1 (by simp); simp at this
  | a :: l, b :: m, hl, hm, h => by
    obtain ⟨l1, l2⟩ := List.pairwise_cons.1 hl
    obtain ⟨m1, m2⟩ := List.pairwise_cons.1 hm
    have hab : a = b := by
      have ha := (h a).1 (by simp)
      have hb := (h b).2 (by simp)
      rcases List.mem_cons.1 ha with e | ha'
      · exact e
      · rcases List.mem_cons.1 hb with e | hb'
        · exact e.symm
        · have x1 := m1 a ha'
          have x2 := l1 b hb'
          rw [O.asymm x1] at x2; cases x2
    subst hab
    have hn : ∀ x, x ∈ l ↔ x ∈ m := by
      intro x
      constructor
      · intro hx
        rcases List.mem_cons.1 ((h x).1 (List.mem_cons_of_mem _ hx)) with e | h'
        · have := l1 x hx
          rw [e, O.irrefl] at this; cases this
        · exact h'
      · intro hx
        rcases List.mem_cons.1 ((h x).2 (List.mem_cons_of_mem _ hx)) with e | h'
        · have := m1 x hx
          rw [e, O.irrefl] at this; cases this
        · exact h'
    rw [rise_unique O l2 m2 hn]

theorem mem_putS {l : List α} {i : Nat} {x y : α} : y ∈ putS l i x ↔ y = x ∨ y ∈ l := by
  unfold putS
  constructor
  · intro h
    rcases List.mem_append.1 h with h | h
    · exact .inr (List.mem_of_mem_take h)
    · rcases List.mem_append.1 h with h | h
      · exact .inl (by simpa using h)
      · exact .inr (List.mem_of_mem_drop h)
  · rintro (rfl | h)
    · exact List.mem_append.2 (.inr (by simp))
    · rw [← List.take_append_drop i l] at h
      rcases List.mem_append.1 h with h | h
      · exact List.mem_append.2 (.inl h)
      · exact List.mem_append.2 (.inr (List.mem_append.2 (.inr h)))

theorem rise_putS (O : OrdOK lt eq) {l : List α} (hr : RiseO lt l) {x : α} (hn : ∀ y ∈ l, eq y x = false) : RiseO lt (putS l (placeO lt l x) x) := by
  have hb : ∀ y ∈ l.drop (placeO lt l x), lt x y = true := by
    intro y hy
    obtain ⟨j, hj, rfl⟩ := List.getElem_of_mem hy
    rw [List.getElem_drop]
    rw [List.length_drop] at hj
    have h1 := placeO_behind O hr (x := x) (k := placeO lt l x + j) (by omega) (by omega)
    have h2 := hn _ (List.getElem_mem (show placeO lt l x + j < l.length by omega))
    rcases O.tri l[placeO lt l x + j] x with ⟨g, _, _⟩ | ⟨_, g, _⟩ | ⟨_, _, g⟩
    · rw [h1] at g; cases g
    · exact g
    · rw [h2] at g; cases g
  have ha : ∀ y ∈ l.take (placeO lt l x), lt y x = true := by
    intro y hy
    obtain ⟨j, hj, rfl⟩ := List.getElem_of_mem hy
    rw [List.getElem_take]
    rw [List.length_take] at hj
    exact placeO_ahead (by omega)
  have hr' := hr
  unfold RiseO at hr' ⊢
  unfold putS
  rw [← List.take_append_drop (placeO lt l x) l] at hr'
  obtain ⟨h1, h2, h3⟩ := List.pairwise_append.1 hr'
  rw [List.pairwise_append]
  refine ⟨h1, ?_, ?_⟩
  · rw [List.singleton_append, List.pairwise_cons]
    exact ⟨hb, h2⟩
  · intro a ha' b hb'
    rcases List.mem_append.1 hb' with hb' | hb'
    · obtain rfl : b = x := by simpa using hb'
      exact ha a ha'
    · exact h3 a ha' b hb'

theorem rise_set (O : OrdOK lt eq) {l : List α} (hr : RiseO lt l) {x : α} {i : Nat} (hi : i < l.length) (he : eq l[i] x = true) : RiseO lt (l.set i x) := by
  unfold RiseO
  rw [List.pairwise_iff_getElem]
  intro j k hj hk hjk
  rw [List.length_set] at hj hk
  have h := rise_get hr hk hjk
  rw [List.getElem_set, List.getElem_set]
  by_cases e1 : i = j
  · rw [if_pos e1, if_neg (by omega)]
    subst e1
    rw [← (O.same _ _ _ he).1]; exact h
  · rw [if_neg e1]
    by_cases e2 : i = k
    · rw [if_pos e2]
      subst e2
      rw [← (O.same _ _ _ he).2]; exact h
    · rw [if_neg e2]; exact h

theorem mem_set_rise (O : OrdOK lt eq) {l : List α} (hr : RiseO lt l) {x y : α} {i : Nat} (hi : i < l.length) (he : eq l[i] x = true) : y ∈ l.set i x ↔ y = x ∨ (y ∈ l ∧ eq y x = false) := by
  rw [List.mem_iff_getElem]
  constructor
  · rintro ⟨j, hj, rfl⟩
    rw [List.length_set] at hj
    rw [List.getElem_set]
    by_cases e : i = j
    · rw [if_pos e]; exact .inl rfl
    · rw [if_neg e]
      refine .inr ⟨List.getElem_mem hj, ?_⟩
      rw [Bool.eq_false_iff]
      intro h
      have h2 : eq l[i] l[j] = true := O.eq_trans he (by rw [O.symm]; exact h)
      exact e (rise_one O hr hi hj h2)
  · rintro (rfl | ⟨h, hne⟩)
    · exact ⟨i, by simpa using hi, by simp⟩
    · obtain ⟨j, hj, rfl⟩ := List.getElem_of_mem h
      refine ⟨j, by simpa using hj, ?_⟩
      rw [List.getElem_set]
      by_cases e : i = j
      · subst e
        rw [he] at hne; cases hne
      · rw [if_neg e]

theorem rise_putO (O : OrdOK lt eq) {l : List α} (hr : RiseO lt l) (x : α) : RiseO lt (putO lt eq l x) := by
  unfold putO
  cases h : findO eq l x with
  | some i => obtain ⟨hi, he, _⟩ := findO_some h; exact rise_set O hr hi he
  | none => exact rise_putS O hr (findO_none h)

theorem mem_putO (O : OrdOK lt eq) {l : List α} (hr : RiseO lt l) (x y : α) : y ∈ putO lt eq l x ↔ y = x ∨ (y ∈ l ∧ eq y x = false) := by
  unfold putO
  cases h : findO eq l x with
  | some i => obtain ⟨hi, he, _⟩ := findO_some h; exact mem_set_rise O hr hi he
  | none =>
    show y ∈ putS l (placeO lt l x) x ↔ _
    rw [mem_putS]
    constructor
    · rintro (h' | h')
      · exact .inl h'
      · exact .inr ⟨h', findO_none h y h'⟩
    · rintro (h' | h')
      · exact .inl h'
      · exact .inr h'.1

theorem putO_len (l : List α) (x : α) : (putO lt eq l x).length = if (findO eq l x).isSome then l.length else l.length + 1 := by
  unfold putO
  cases findO eq l x with
  | some i => simp
  | none => simp [putS_len]

theorem rise_dropO {l : List α} (hr : RiseO lt l) (x : α) : RiseO lt (dropO eq l x) := List.Pairwise.filter _ hr

theorem mem_dropO (l : List α) (x y : α) : y ∈ dropO eq l x ↔ y ∈ l ∧ eq y x = false := by
  unfold dropO
  rw [List.mem_filter]
  simp

/-- In a list that rises one alone is taken out. -/
theorem dropO_at (O : OrdOK lt eq) {l : List α} (hr : RiseO lt l) {x : α} {i : Nat} (h : findO eq l x = some i) : dropO eq l x = l.take i ++ l.drop (i + 1) := by
  obtain ⟨hi, he, _⟩ := findO_some h
  refine rise_unique O (rise_dropO hr x) ?_ (fun y => ?_)
  · have h2 : (l.take i ++ l.drop (i + 1)).Sublist l := by
      conv => rhs; rw [← List.take_append_drop i l]
      exact List.Sublist.append (List.Sublist.refl _) (by rw [List.drop_eq_getElem_cons hi]; exact List.sublist_cons_self _ _)
    exact hr.sublist h2
  · rw [mem_dropO]
    constructor
    · rintro ⟨hy, hne⟩
      rw [← List.take_append_drop i l] at hy
      rcases List.mem_append.1 hy with hy | hy
      · exact List.mem_append.2 (.inl hy)
      · rw [List.drop_eq_getElem_cons hi] at hy
        rcases List.mem_cons.1 hy with e | hy
        · rw [e, he] at hne; cases hne
        · exact List.mem_append.2 (.inr hy)
    · intro hy
      have key : ∀ j (hj : j < l.length), j ≠ i → eq l[j] x = false := by
        intro j hj hne
        rw [Bool.eq_false_iff]
        intro h3
        exact hne (rise_one O hr hj hi (O.eq_trans h3 (by rw [O.symm]; exact he)))
      rcases List.mem_append.1 hy with hy | hy
      · obtain ⟨j, hj, rfl⟩ := List.getElem_of_mem hy
        rw [List.length_take] at hj
        rw [List.getElem_take]
        exact ⟨List.getElem_mem _, key j (by omega) (by omega)⟩
      · obtain ⟨j, hj, rfl⟩ := List.getElem_of_mem hy
        rw [List.length_drop] at hj
        rw [List.getElem_drop]
        exact ⟨List.getElem_mem _, key (i + 1 + j) (by omega) (by omega)⟩

theorem dropO_none {l : List α} {x : α} (h : findO eq l x = none) : dropO eq l x = l := by
  unfold dropO
  rw [List.filter_eq_self]
  intro y hy
  simpa using findO_none h y hy

theorem findO_congr (O : OrdOK lt eq) {l : List α} {x y : α} (h : eq x y = true) : findO eq l x = findO eq l y := by
  unfold findO
  congr 1
  funext e
  cases h1 : eq e y with
  | true => rw [O.eq_trans h1 (by rw [O.symm]; exact h)]
  | false =>
    rw [Bool.eq_false_iff]
    intro h2
    rw [O.eq_trans h2 h] at h1; cases h1

theorem dropO_congr (O : OrdOK lt eq) {l : List α} {x y : α} (h : eq x y = true) : dropO eq l x = dropO eq l y := by
  unfold dropO
  congr 1
  funext e
  congr 1
  cases h1 : eq e y with
  | true => exact O.eq_trans h1 (by rw [O.symm]; exact h)
  | false =>
    rw [Bool.eq_false_iff]
    intro h2
    rw [O.eq_trans h2 h] at h1; cases h1

/-- Put and taken out: as if it were taken out alone. -/
theorem drop_put (O : OrdOK lt eq) {l : List α} (hr : RiseO lt l) (x : α) : dropO eq (putO lt eq l x) x = dropO eq l x := by
  refine rise_unique O (rise_dropO (rise_putO O hr x) x) (rise_dropO hr x) (fun y => ?_)
  rw [mem_dropO, mem_dropO, mem_putO O hr]
  constructor
  · rintro ⟨rfl | h, hn⟩
    · rw [O.refl] at hn; cases hn
    · exact h
  · rintro ⟨h, hn⟩
    exact ⟨.inr ⟨h, hn⟩, hn⟩

/-- Put twice. -/
theorem put_put (O : OrdOK lt eq) {l : List α} (hr : RiseO lt l) {x z : α} (h : eq x z = true) : putO lt eq (putO lt eq l x) z = putO lt eq l z := by
  refine rise_unique O (rise_putO O (rise_putO O hr x) z) (rise_putO O hr z) (fun y => ?_)
  rw [mem_putO O (rise_putO O hr x), mem_putO O hr, mem_putO O hr]
  constructor
  · rintro (h1 | ⟨rfl | h1, hn⟩)
    · exact .inl h1
    · rw [h] at hn; cases hn
    · exact .inr ⟨h1.1, hn⟩
  · rintro (h1 | ⟨h1, hn⟩)
    · exact .inl h1
    · refine .inr ⟨.inr ⟨h1, ?_⟩, hn⟩
      rw [Bool.eq_false_iff]
      intro h2
      rw [O.eq_trans h2 h] at hn; cases hn

/-- Two unlike ones, in any order. -/
theorem put_comm (O : OrdOK lt eq) {l : List α} (hr : RiseO lt l) {x z : α} (h : eq x z = false) : putO lt eq (putO lt eq l x) z = putO lt eq (putO lt eq l z) x := by
  have h' : eq z x = false := by rw [O.symm]; exact h
  refine rise_unique O (rise_putO O (rise_putO O hr x) z) (rise_putO O (rise_putO O hr z) x) (fun y => ?_)
  rw [mem_putO O (rise_putO O hr x), mem_putO O hr, mem_putO O (rise_putO O hr z), mem_putO O hr]
  constructor
  · rintro (rfl | ⟨rfl | h1, hn⟩)
    · exact .inr ⟨.inl rfl, h'⟩
    · exact .inl rfl
    · exact .inr ⟨.inr ⟨h1.1, hn⟩, h1.2⟩
  · rintro (rfl | ⟨rfl | h1, hn⟩)
    · exact .inr ⟨.inl rfl, h⟩
    · exact .inl rfl
    · exact .inr ⟨.inr ⟨h1.1, hn⟩, h1.2⟩

theorem findO_isSome {l : List α} {x : α} : (findO eq l x).isSome = l.any fun e => eq e x := by
  cases h : findO eq l x with
  | some i =>
    obtain ⟨hi, he, _⟩ := findO_some h
    symm
    show (l.any fun e => eq e x) = true
    rw [List.any_eq_true]
    exact ⟨_, List.getElem_mem hi, he⟩
  | none =>
    symm
    show l.any _ = false
    rw [List.any_eq_false]
    intro y hy
    rw [findO_none h y hy]
    simp

theorem findO_put (O : OrdOK lt eq) {l : List α} (hr : RiseO lt l) (x : α) : ∃ i, findO eq (putO lt eq l x) x = some i ∧ (putO lt eq l x)[i]? = some x := by
  have hm : x ∈ putO lt eq l x := (mem_putO O hr x x).2 (.inl rfl)
  cases h : findO eq (putO lt eq l x) x with
  | none =>
    have := findO_none h x hm
    rw [O.refl] at this; cases this
  | some i =>
    obtain ⟨hi, he, _⟩ := findO_some h
    refine ⟨i, rfl, ?_⟩
    rw [List.getElem?_eq_getElem hi, rise_mem O (rise_putO O hr x) (List.getElem_mem hi) hm he]

theorem dropO_len (O : OrdOK lt eq) {l : List α} (hr : RiseO lt l) {x : α} {i : Nat} (h : findO eq l x = some i) : (dropO eq l x).length = l.length - 1 := by
  obtain ⟨hi, _, _⟩ := findO_some h
  rw [dropO_at O hr h, List.length_append, List.length_take, List.length_drop]
  omega

end

end Go.Proofs.Ytfkadkopolenbaa

end

section

/-
  PLAIN, OVER ANY ORDER OF KEYS: one walk through a list that rises, which puts one in at its place, or leaves it out (the document's set).
-/
namespace Go.Proofs.Ytfkadkopolenbaa

section
variable {α : Type} {lt eq : α → α → Bool}

/-- What is left to be told, from here on. -/
def rsO (lt eq : α → α → Bool) (x : α) : List α → Bool → List α
  | [], d => if d = true then [] else [x]
  | e :: t, d => if eq e x = true then rsO lt eq x t d else if (!d && lt x e) = true then x :: e :: rsO lt eq x t true else e :: rsO lt eq x t d

theorem rsO_drop (l : List α) (x : α) : rsO lt eq x l true = dropO eq l x := by
  induction l with
  | nil => rfl
  | cons e t ih =>
    unfold rsO dropO
    rw [List.filter_cons]
    cases h : eq e x with
    | true => simp only [if_true, ih, Bool.not_true]; rfl
    | false => simp only [Bool.not_true, Bool.false_and, Bool.false_eq_true, if_false, Bool.not_false, if_true, ih]; rfl

theorem rsO_mem (l : List α) (x y : α) : y ∈ rsO lt eq x l false ↔ y = x ∨ (y ∈ l ∧ eq y x = false) := by
  induction l with
  | nil => simp [rsO]
  | cons e t ih =>
    unfold rsO
    cases h : eq e x with
    | true =>
      rw [if_pos rfl, ih]
      constructor
      · rintro (h1 | ⟨h1, h2⟩)
        · exact .inl h1
        · exact .inr ⟨List.mem_cons_of_mem _ h1, h2⟩
      · rintro (h1 | ⟨h1, h2⟩)
        · exact .inl h1
        · rcases List.mem_cons.1 h1 with rfl | h1
          · rw [h] at h2; cases h2
          · exact .inr ⟨h1, h2⟩
    | false =>
      rw [if_neg (by simp)]
      split
      · rw [List.mem_cons, List.mem_cons, rsO_drop, mem_dropO]
        constructor
        · rintro (h1 | rfl | ⟨h1, h2⟩)
          · exact .inl h1
          · exact .inr ⟨List.mem_cons_self, h⟩
          · exact .inr ⟨List.mem_cons_of_mem _ h1, h2⟩
        · rintro (h1 | ⟨h1, h2⟩)
          · exact .inl h1
          · rcases List.mem_cons.1 h1 with rfl | h1
            · exact .inr (.inl rfl)
            · exact .inr (.inr ⟨h1, h2⟩)
      · rw [List.mem_cons, ih]
        constructor
        · rintro (rfl | h1 | ⟨h1, h2⟩)
          · exact .inr ⟨List.mem_cons_self, h⟩
          · exact .inl h1
          · exact .inr ⟨List.mem_cons_of_mem _ h1, h2⟩
        · rintro (h1 | ⟨h1, h2⟩)
          · exact .inr (.inl h1)
          · rcases List.mem_cons.1 h1 with rfl | h1
            · exact .inl rfl
            · exact .inr (.inr ⟨h1, h2⟩)

theorem rsO_rise (O : OrdOK lt eq) {l : List α} (hr : RiseO lt l) (x : α) : RiseO lt (rsO lt eq x l false) := by
  induction l with
  | nil => exact List.pairwise_singleton _ _
  | cons e t ih =>
    have hp := List.pairwise_cons.1 hr
    unfold rsO
    cases h : eq e x with
    | true => rw [if_pos rfl]; exact ih hp.2
    | false =>
      rw [if_neg (by simp)]
      cases h2 : lt x e with
      | true =>
        rw [if_pos (by simp)]
        refine List.pairwise_cons.2 ⟨fun y hy => ?_, List.pairwise_cons.2 ⟨fun y hy => ?_, ?_⟩⟩
        · rcases List.mem_cons.1 hy with rfl | hy
          · exact h2
          · rw [rsO_drop, mem_dropO] at hy
            exact O.trans _ _ _ h2 (hp.1 y hy.1)
        · rw [rsO_drop, mem_dropO] at hy
          exact hp.1 y hy.1
        · rw [rsO_drop]
          exact rise_dropO hp.2 x
      | false =>
        rw [if_neg (by simp)]
        refine List.pairwise_cons.2 ⟨fun y hy => ?_, ih hp.2⟩
        rcases (rsO_mem t x y).1 hy with rfl | ⟨hy, _⟩
        · rcases O.tri e y with ⟨h3, _, _⟩ | ⟨_, h3, _⟩ | ⟨_, _, h3⟩
          · exact h3
          · rw [h2] at h3; cases h3
          · rw [h] at h3; cases h3
        · exact hp.1 y hy

theorem rsO_put (O : OrdOK lt eq) {l : List α} (hr : RiseO lt l) (x : α) : rsO lt eq x l false = putO lt eq l x :=
  rise_unique O (rsO_rise O hr x) (rise_putO O hr x) (fun y => (rsO_mem l x y).trans (mem_putO O hr x y).symm)

end

end Go.Proofs.Ytfkadkopolenbaa

end

section

/-
  LAYER 8, THE DOCUMENT: whether an entry is there.
-/
namespace Go.Proofs.Ytfkadkopolenbaa
open Go.RowKit

/-- An entry of that Owner and Contact. -/
def entOf (o c : List UInt8) : Ent := ⟨o, c, It.zero⟩

def roHas (l : List Ent) (o c : List UInt8) : Bool := l.any fun e => entIs e (entOf o c)

theorem roHas_yes {l : List Ent} {o c : List UInt8} {k : Nat} (hk : k < l.length) (ho : (l.getD k Ent.zero).o = o) (hc : (l.getD k Ent.zero).c = c) : roHas l o c = true := by
  unfold roHas
  rw [List.any_eq_true]
  refine ⟨l.getD k Ent.zero, ?_, entIs_iff.2 ⟨ho, hc⟩⟩
  rw [getD_at hk]
  exact List.getElem_mem hk

theorem roHas_no {l : List Ent} {o c : List UInt8} (h : ∀ j, j < l.length → entIs (l.getD j Ent.zero) (entOf o c) = false) : roHas l o c = false := by
  unfold roHas
  rw [List.any_eq_false]
  intro e he
  obtain ⟨i, hi, rfl⟩ := List.getElem_of_mem he
  have := h i hi
  rw [getD_at hi] at this
  simp [this]

theorem entIs_off {e : Ent} {o c : List UInt8} (h : ¬ e.o = o ∨ ¬ e.c = c) : entIs e (entOf o c) = false := by
  rw [Bool.eq_false_iff]
  intro hh
  obtain ⟨h1, h2⟩ := entIs_iff.1 hh
  rcases h with h | h
  · exact h h1
  · exact h h2

set_option maxHeartbeats 1600000 in
set_option maxRecDepth 100000 in
theorem rhas_any {w : World} {v : Value} {l : List Ent} (hv : Ents w v l) (o c : List UInt8) :
    Calls Try.prog 55 #[v, .string ⟨o.toArray⟩, .string ⟨c.toArray⟩] w fun e w' => e = .returned (.bool (roHas l o c)) ∧ w = w' := by
  have HV := Lib.hid hv
  obtain ⟨a, cap, rfl, hm⟩ := hv.open'
  clear hv
  go_enter Try.func55, Try.ntmps55
  go_wp2_with fail
  go_loop [7] (fun i => ∃ k : Nat, k ≤ l.length ∧ i = .int .i64 k ∧ Hid (∀ j, j < k → entIs (l.getD j Ent.zero) (entOf o c) = false)) (fun i => l.length - (intOf i).toNat)
  case atStart => exact ⟨0, by omega, rfl, by show ∀ _, _; intro j hj; omega⟩
  case round =>
    obtain ⟨k, hk, rfl, HN⟩ := hrel
    by_cases hlt : k < l.length
    · obtain ⟨b, off, rfl, h0, h1, _⟩ := HV.out.row (Below.refl _ _) k hlt
      obtain ⟨⟨eo, ec, it⟩, hr⟩ : ∃ r, l.getD k Ent.zero = r := ⟨_, rfl⟩
      rw [hr] at h0 h1
      simp only at h0 h1
      by_cases ho : eo = o
      · by_cases hc : ec = c
        · have HR := Lib.hid (roHas_yes hlt (o := o) (c := c) (by rw [hr]; exact ho) (by rw [hr]; exact hc))
          subst ho hc
          clear hr
          go_wp2_with fail
          go_ret
          exact ⟨by rw [HR.out]; rfl, rfl⟩
        · have HN2 : Hid (∀ j, j < k + 1 → entIs (l.getD j Ent.zero) (entOf o c) = false) := by
            show ∀ _, _
            intro j hj
            by_cases e : j = k
            · rw [e, hr]; exact entIs_off (.inr hc)
            · exact HN.out j (by omega)
          have t2 : (ec == c) = false := by rw [beq_eq_false_iff_ne]; exact hc
          subst ho
          clear hr hc
          go_wp2_with fail
          go_round
          case rel => exact ⟨k + 1, by omega, by go_num, HN2⟩
          case measure => simp [intOf]; omega
      · have HN2 : Hid (∀ j, j < k + 1 → entIs (l.getD j Ent.zero) (entOf o c) = false) := by
          show ∀ _, _
          intro j hj
          by_cases e : j = k
          · rw [e, hr]; exact entIs_off (.inl ho)
          · exact HN.out j (by omega)
        have t2 : (eo == o) = false := by rw [beq_eq_false_iff_ne]; exact ho
        clear hr ho
        go_wp2_with fail
        go_round
        case rel => exact ⟨k + 1, by omega, by go_num, HN2⟩
        case measure => simp [intOf]; omega
    · obtain rfl : k = l.length := by omega
      have HR := Lib.hid (roHas_no HN.out)
      go_wp2_with fail
      go_ret
      exact ⟨by rw [HR.out]; rfl, rfl⟩

end Go.Proofs.Ytfkadkopolenbaa

end

section

/-
  LAYER 8, THE DOCUMENT: the item of an Owner on a Contact.
-/
namespace Go.Proofs.Ytfkadkopolenbaa
open Go.RowKit

/-- The item of the first entry of these. -/
def roGet (l : List Ent) (o c : List UInt8) : It := match l.find? fun e => entIs e (entOf o c) with
  | some e => e.it
  | none => It.zero

def itV (a : It) : Value := .agg #[.bool a.to, .bool a.fr, .bool a.out, .bool a.inn, .bool a.bl]

theorem roGet_none {l : List Ent} {o c : List UInt8} (h : ∀ j, j < l.length → entIs (l.getD j Ent.zero) (entOf o c) = false) : roGet l o c = It.zero := by
  unfold roGet
  have : l.find? (fun e => entIs e (entOf o c)) = none := by
    rw [List.find?_eq_none]
    intro e he
    obtain ⟨i, hi, rfl⟩ := List.getElem_of_mem he
    have := h i hi
    rw [getD_at hi] at this
    simp [this]
  rw [this]

theorem roGet_first : ∀ {l : List Ent} {o c : List UInt8} {k : Nat} (_ : k < l.length) (_ : ∀ j, j < k → entIs (l.getD j Ent.zero) (entOf o c) = false) (_ : (l.getD k Ent.zero).o = o) (_ : (l.getD k Ent.zero).c = c), roGet l o c = (l.getD k Ent.zero).it
  | [], _, _, _, hk, _, _, _ => by simp at hk
  | e :: l, o, c, k, hk, hn, ho, hc => by
    unfold roGet
    rw [List.find?_cons]
    cases k with
    | zero =>
      have : entIs e (entOf o c) = true := entIs_iff.2 ⟨ho, hc⟩
      rw [this]
      rfl
    | succ k =>
      have h0 : entIs e (entOf o c) = false := hn 0 (by omega)
      rw [h0]
      have := roGet_first (l := l) (o := o) (c := c) (k := k) (by simpa using hk) (fun j hj => hn (j + 1) (by omega)) ho hc
      unfold roGet at this
      exact this

set_option maxHeartbeats 1600000 in
set_option maxRecDepth 100000 in
theorem rget8_any {w : World} {v : Value} {l : List Ent} (hv : Ents w v l) (o c : List UInt8) :
    Calls Try.prog 20 #[v, .string ⟨o.toArray⟩, .string ⟨c.toArray⟩] w fun e w' => e = .returned (itV (roGet l o c)) ∧ Below w.heap.size w w' := by
  have HV := Lib.hid hv
  obtain ⟨a, cap, rfl, hm⟩ := hv.open'
  have BA : Hid (Below w.heap.size w (w.alloc (.cells #[.bool false, .bool false, .bool false, .bool false, .bool false] 26))) := Lib.hid ((Below.refl _ _).alloc (Nat.le_refl _) _)
  clear hv
  go_enter Try.func20, Try.ntmps20
  go_wp2_with fail
  go_loop [7] (fun i => ∃ k : Nat, k ≤ l.length ∧ i = .int .i64 k ∧ Hid (∀ j, j < k → entIs (l.getD j Ent.zero) (entOf o c) = false)) (fun i => l.length - (intOf i).toNat)
  case atStart => exact ⟨0, by omega, rfl, by show ∀ _, _; intro j hj; omega⟩
  case round =>
    obtain ⟨k, hk, rfl, HN⟩ := hrel
    by_cases hlt : k < l.length
    · obtain ⟨b, off, rfl, h0, h1, h2, h3, h4, h5, h6⟩ := HV.out.row BA.out k hlt
      obtain ⟨⟨eo, ec, ⟨i1, i2, i3, i4, i5⟩⟩, hr⟩ : ∃ r, l.getD k Ent.zero = r := ⟨_, rfl⟩
      rw [hr] at h0 h1 h2 h3 h4 h5 h6
      simp only at h0 h1 h2 h3 h4 h5 h6
      by_cases ho : eo = o
      · by_cases hc : ec = c
        · have HR : Hid (roGet l o c = ⟨i1, i2, i3, i4, i5⟩) := by show _ = _; rw [roGet_first hlt HN.out (by rw [hr]; exact ho) (by rw [hr]; exact hc), hr]
          subst ho hc
          clear hr
          go_wp2_with fail
          refine bodyPost_ret (v := itV ⟨i1, i2, i3, i4, i5⟩) (by simp [results, Try.results20, go_sem, itV]) rfl ⟨by rw [HR.out], ?_⟩
          repeat (first | exact Below.refl _ _ | refine Below.setCell ?_ (by first | (simp; done) | (simp; omega)) _ | refine Below.alloc ?_ (by first | (simp; done) | (simp; omega)) _)
        · have HN2 : Hid (∀ j, j < k + 1 → entIs (l.getD j Ent.zero) (entOf o c) = false) := by
            show ∀ _, _
            intro j hj
            by_cases e : j = k
            · rw [e, hr]; exact entIs_off (.inr hc)
            · exact HN.out j (by omega)
          have t2 : (ec == c) = false := by rw [beq_eq_false_iff_ne]; exact hc
          subst ho
          clear hr hc
          go_wp2_with fail
          go_round
          case rel => exact ⟨k + 1, by omega, by go_num, HN2⟩
          case measure => simp [intOf]; omega
      · have HN2 : Hid (∀ j, j < k + 1 → entIs (l.getD j Ent.zero) (entOf o c) = false) := by
          show ∀ _, _
          intro j hj
          by_cases e : j = k
          · rw [e, hr]; exact entIs_off (.inl ho)
          · exact HN.out j (by omega)
        have t2 : (eo == o) = false := by rw [beq_eq_false_iff_ne]; exact ho
        clear hr ho
        go_wp2_with fail
        go_round
        case rel => exact ⟨k + 1, by omega, by go_num, HN2⟩
        case measure => simp [intOf]; omega
    · obtain rfl : k = l.length := by omega
      have HR : Hid (roGet l o c = It.zero) := by show _ = _; exact roGet_none HN.out
      go_wp2_with fail
      refine bodyPost_ret (v := itV It.zero) (by simp [results, Try.results20, go_sem, itV, It.zero]) rfl ⟨by rw [HR.out], ?_⟩
      repeat (first | exact Below.refl _ _ | refine Below.setCell ?_ (by first | (simp; done) | (simp; omega)) _ | refine Below.alloc ?_ (by first | (simp; done) | (simp; omega)) _)

end Go.Proofs.Ytfkadkopolenbaa

end

section

/-
  LAYER 8: the document's Sees; the code's entry, and the first entry that is the same.
-/
namespace Go.Proofs.Ytfkadkopolenbaa
open Go.RowKit

theorem rget8_eq {w : World} {v : Value} {l : List Ent} (hv : Ents w v l) (o c : List UInt8) {i1 i2 i3 i4 i5 : Bool} (h : Hid (roGet l o c = ⟨i1, i2, i3, i4, i5⟩)) :
    Calls Try.prog 20 #[v, .string ⟨o.toArray⟩, .string ⟨c.toArray⟩] w fun e w' => e = .returned (.agg #[.bool i1, .bool i2, .bool i3, .bool i4, .bool i5]) ∧ Below w.heap.size w w' := by
  have := rget8_any hv o c
  rw [h.out] at this
  exact this

/-- Whether one sees the other one. -/
def roSees (l : List Ent) (o c : List UInt8) : Bool := suSees (roGet l o c) (roGet l c o)

set_option maxHeartbeats 800000 in
set_option maxRecDepth 100000 in
theorem rsees8_any {w : World} {v : Value} {l : List Ent} (hv : Ents w v l) (o c : List UInt8) :
    Calls Try.prog 25 #[v, .string ⟨o.toArray⟩, .string ⟨c.toArray⟩] w fun e w' => e = .returned (.bool (roSees l o c)) ∧ Below w.heap.size w w' := by
  obtain ⟨⟨i1, i2, i3, i4, i5⟩, hi⟩ : ∃ i, roGet l o c = i := ⟨_, rfl⟩
  obtain ⟨⟨j1, j2, j3, j4, j5⟩, hj⟩ : ∃ j, roGet l c o = j := ⟨_, rfl⟩
  obtain ⟨r, hr⟩ : ∃ r, suSees ⟨i1, i2, i3, i4, i5⟩ ⟨j1, j2, j3, j4, j5⟩ = r := ⟨_, rfl⟩
  have HR : Hid (roSees l o c = r) := by show _ = _; unfold roSees; rw [hi, hj, hr]
  have HV := Lib.hid hv
  have HI := Lib.hid hi
  have HJ := Lib.hid hj
  have HS := Lib.hid (rssees_eq i1 i2 i3 i4 i5 j1 j2 j3 j4 j5 hr)
  obtain ⟨a, cap, rfl, _⟩ := hv.open'
  rw [HR.out]
  clear hi hj hr hv
  go_enter Try.func25, Try.ntmps25
  go_wp2_with fail
  refine (rget8_eq HV.out o c HI).mono ?_
  rintro e w1 ⟨rfl, b⟩
  have B1 := Lib.hid b
  clear b
  go_wp2_with fail
  refine (rget8_eq (HV.out.later B1.out) c o HJ).mono ?_
  rintro e w2 ⟨rfl, b⟩
  have B2 := Lib.hid (below2S B1.out b)
  clear b
  go_wp2_with fail
  refine (HS.out _).mono ?_
  rintro e w3 ⟨rfl, b⟩
  have B3 := Lib.hid (below2S B2.out b)
  clear b
  go_wp2_with fail
  go_ret
  exact ⟨rfl, B3.out⟩

set_option maxHeartbeats 800000 in
set_option maxRecDepth 100000 in
theorem entry_any (o c : List UInt8) (w : World) :
    Calls Try.prog 59 #[.string ⟨o.toArray⟩, .string ⟨c.toArray⟩] w fun e w' => e = .returned (.agg #[.string ⟨o.toArray⟩, .string ⟨c.toArray⟩, .bool false, .bool false, .bool false, .bool false, .bool false]) ∧ Below w.heap.size w w' := by
  go_enter Try.func59, Try.ntmps59
  go_wp2_with fail
  refine bodyPost_ret (v := .agg #[.string ⟨o.toArray⟩, .string ⟨c.toArray⟩, .bool false, .bool false, .bool false, .bool false, .bool false]) (by simp [results, Try.results59, go_sem]) rfl ⟨rfl, ?_⟩
  repeat (first | exact Below.refl _ _ | refine Below.setCell ?_ (by first | (simp; done) | (simp; omega)) _ | refine Below.alloc ?_ (by first | (simp; done) | (simp; omega)) _)

/-- The place of the first one that is the same. -/
def roFirst (l : List Ent) (x : Ent) : Nat × Bool := if (l.any fun e => entIs e x) = true then (l.findIdx fun e => entIs e x, true) else (0, false)

theorem roFirst_yes {l : List Ent} {x : Ent} {k : Nat} (hk : k < l.length) (hn : ∀ j, j < k → entIs (l.getD j Ent.zero) x = false) (h : entIs (l.getD k Ent.zero) x = true) : roFirst l x = (k, true) := by
  unfold roFirst
  rw [if_pos (by rw [List.any_eq_true]; exact ⟨l.getD k Ent.zero, by rw [getD_at hk]; exact List.getElem_mem hk, h⟩)]
  congr 1
  rw [List.findIdx_eq hk]
  refine ⟨by rw [← getD_at hk]; exact h, fun j hj => ?_⟩
  have := hn j hj
  rwa [getD_at (by omega)] at this

theorem roFirst_no {l : List Ent} {x : Ent} (hn : ∀ j, j < l.length → entIs (l.getD j Ent.zero) x = false) : roFirst l x = (0, false) := by
  unfold roFirst
  rw [if_neg]
  simp only [Bool.not_eq_true, List.any_eq_false]
  intro e he
  obtain ⟨i, hi, rfl⟩ := List.getElem_of_mem he
  have := hn i hi
  rw [getD_at hi] at this
  simp [this]

end Go.Proofs.Ytfkadkopolenbaa

end

section

/-
  LAYER 8, THE CODE: the first entry that is the same; Get; Sees.
-/
namespace Go.Proofs.Ytfkadkopolenbaa
open Go.RowKit

theorem entI_off {a b : Ent} (h : entIs a b = false) : (entI a b == 0) = false := by
  rw [beq_eq_false_iff_ne]
  intro e
  rw [entI_zero, h] at e
  cases e

theorem entI_on {a b : Ent} (h : entIs a b = true) : (entI a b == 0) = true := by
  rw [beq_iff_eq, entI_zero]
  exact h

theorem cells7_made (w : World) (e : Ent) (T : TypeId) : Cells7 (w.alloc (.cells #[.string ⟨e.o.toArray⟩, .string ⟨e.c.toArray⟩, .bool e.it.to, .bool e.it.fr, .bool e.it.out, .bool e.it.inn, .bool e.it.bl] T)) w.heap.size 0 e := by
  refine ⟨?_, ?_, ?_, ?_, ?_, ?_, ?_⟩ <;> (rw [World.cell?_alloc_at _ _ _ _ rfl]; rfl)

set_option maxHeartbeats 1600000 in
set_option maxRecDepth 100000 in
theorem first_any {w : World} {v : Value} {l : List Ent} (hv : Ents w v l) (xo xc : List UInt8) (x1 x2 x3 x4 x5 : Bool) :
    Calls Try.prog 58 #[v, .agg #[.string ⟨xo.toArray⟩, .string ⟨xc.toArray⟩, .bool x1, .bool x2, .bool x3, .bool x4, .bool x5], .func (.func 60) #[] #[]] w fun e w' =>
      e = .returned (.tuple #[.int .i64 (roFirst l ⟨xo, xc, ⟨x1, x2, x3, x4, x5⟩⟩).1, .bool (roFirst l ⟨xo, xc, ⟨x1, x2, x3, x4, x5⟩⟩).2]) ∧ Below w.heap.size w w' := by
  have HV := Lib.hid hv
  obtain ⟨a, cap, rfl, hm⟩ := hv.open'
  have HX := Lib.hid (cells7_made w ⟨xo, xc, ⟨x1, x2, x3, x4, x5⟩⟩ 49)
  have B0 : Hid (Below w.heap.size w (w.alloc (.cells #[.string ⟨xo.toArray⟩, .string ⟨xc.toArray⟩, .bool x1, .bool x2, .bool x3, .bool x4, .bool x5] 49))) := Lib.hid ((Below.refl _ _).alloc (Nat.le_refl _) _)
  clear hv
  go_enter Try.func58, Try.ntmps58
  go_wp2_with fail
  go_loopw [12] (fun i wr => ∃ k : Nat, k ≤ l.length ∧ i = .int .i64 k ∧ Hid (Below w.heap.size w wr) ∧ Hid (Cells7 wr w.heap.size 0 ⟨xo, xc, ⟨x1, x2, x3, x4, x5⟩⟩) ∧ Hid (∀ j, j < k → entIs (l.getD j Ent.zero) ⟨xo, xc, ⟨x1, x2, x3, x4, x5⟩⟩ = false)) (fun i _ => l.length - (intOf i).toNat)
  case atStart => exact ⟨0, by omega, rfl, B0, HX, by show ∀ _, _; intro j hj; omega⟩
  case round =>
    obtain ⟨k, hk, rfl, HB, HC, HN⟩ := hrel
    by_cases hlt : k < l.length
    · obtain ⟨b, off, rfl, h0, h1, h2, h3, h4, h5, h6⟩ := HV.out.row HB.out k hlt
      obtain ⟨⟨eo, ec, ⟨i1, i2, i3, i4, i5⟩⟩, hr⟩ : ∃ r, l.getD k Ent.zero = r := ⟨_, rfl⟩
      rw [hr] at h0 h1 h2 h3 h4 h5 h6
      obtain ⟨c0, c1, c2, c3, c4, c5, c6⟩ := HC.out.later ((Below.refl _ _).alloc (Nat.le_refl _) (.cells #[.string ⟨eo.toArray⟩, .string ⟨ec.toArray⟩, .bool i1, .bool i2, .bool i3, .bool i4, .bool i5] 49))
      simp only [Nat.zero_add] at h0 h1 h2 h3 h4 h5 h6 c0 c1 c2 c3 c4 c5 c6
      have HCmp := Lib.hid (rcompare_any eo ec xo xc i1 i2 i3 i4 i5 x1 x2 x3 x4 x5)
      obtain ⟨n, hn⟩ : ∃ n, entI ⟨eo, ec, ⟨i1, i2, i3, i4, i5⟩⟩ ⟨xo, xc, ⟨x1, x2, x3, x4, x5⟩⟩ = n := ⟨_, rfl⟩
      cases hs : entIs ⟨eo, ec, ⟨i1, i2, i3, i4, i5⟩⟩ ⟨xo, xc, ⟨x1, x2, x3, x4, x5⟩⟩ with
      | true =>
        have hz := entI_on hs
        have HR := Lib.hid (roFirst_yes hlt HN.out (by rw [hr]; exact hs))
        rw [hn] at hz HCmp
        clear hr hs hn
        go_wp2_with fail
        refine (HCmp.out _).mono ?_
        rintro e w2 ⟨rfl, hb⟩
        have B2 := Lib.hid (below2S (bl_allocS HB.out (.cells #[.string ⟨eo.toArray⟩, .string ⟨ec.toArray⟩, .bool i1, .bool i2, .bool i3, .bool i4, .bool i5] 49)) hb)
        clear hb
        go_wp2_with fail
        go_ret2
        exact ⟨by rw [HR.out]; rfl, B2.out⟩
      | false =>
        have hz := entI_off hs
        have HN2 : Hid (∀ j, j < k + 1 → entIs (l.getD j Ent.zero) ⟨xo, xc, ⟨x1, x2, x3, x4, x5⟩⟩ = false) := by
          show ∀ _, _
          intro j hj
          by_cases e : j = k
          · rw [e, hr]; exact hs
          · exact HN.out j (by omega)
        rw [hn] at hz HCmp
        clear hr hs hn
        go_wp2_with fail
        refine (HCmp.out _).mono ?_
        rintro e w2 ⟨rfl, hb⟩
        have B2 := Lib.hid (below2S (bl_allocS HB.out (.cells #[.string ⟨eo.toArray⟩, .string ⟨ec.toArray⟩, .bool i1, .bool i2, .bool i3, .bool i4, .bool i5] 49)) hb)
        have C2 := Lib.hid (HC.out.later (below2S (bl_allocS (Below.refl _ _) (.cells #[.string ⟨eo.toArray⟩, .string ⟨ec.toArray⟩, .bool i1, .bool i2, .bool i3, .bool i4, .bool i5] 49)) hb))
        clear hb
        go_wp2_with fail
        go_roundw
        case rel => exact ⟨k + 1, by omega, by go_num, B2, C2, HN2⟩
        case measure => simp [intOf]; omega
    · obtain rfl : k = l.length := by omega
      have HR := Lib.hid (roFirst_no HN.out)
      go_wp2_with fail
      go_ret2
      exact ⟨by rw [HR.out]; rfl, HB.out⟩

end Go.Proofs.Ytfkadkopolenbaa

end
