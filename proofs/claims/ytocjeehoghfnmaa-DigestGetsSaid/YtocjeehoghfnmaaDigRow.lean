/-
  TABLES IN MEMORY: rows of five cells; '==' of rows, of changes; THE CONTRACTS OF THE DOCUMENT'S Few AND Same (of tables).
-/
import Derived.Test.YtocjeehoghfnmaaVarTake
import Derived.Test.YtocjeehoghfnmaaDigPure
import Derived.Laws.StructEq
import Derived.Laws.AppendOwnNone
import Derived.Laws.OwnMore
namespace Go.Proofs.Ytocjeehoghfnmaa
open Go.RowKit

/-- A row's cells. -/
def rowVals (r : Row) : List Value := [.string ⟨r.c.toArray⟩, .int .i64 r.v.sh, .int .i64 r.v.pr, .int .i64 r.v.si, .string ⟨r.v.st.toArray⟩]

def Cells5 (w : World) (b o : Nat) (r : Row) : Prop :=
  w.cell? ⟨b, o, none⟩ = some (.string ⟨r.c.toArray⟩) ∧ w.cell? ⟨b, o + 1, none⟩ = some (.int .i64 r.v.sh) ∧ w.cell? ⟨b, o + 2, none⟩ = some (.int .i64 r.v.pr) ∧
    w.cell? ⟨b, o + 3, none⟩ = some (.int .i64 r.v.si) ∧ w.cell? ⟨b, o + 4, none⟩ = some (.string ⟨r.v.st.toArray⟩)

theorem Cells5.later {w w' : World} {b o : Nat} {r : Row} (h : Cells5 w b o r) (hb : Below w.heap.size w w') (hlt : b < w.heap.size) : Cells5 w' b o r := by
  obtain ⟨h0, h1, h2, h3, h4⟩ := h
  have k : ∀ o, w'.cell? ⟨b, o, none⟩ = w.cell? ⟨b, o, none⟩ := fun o => hb.cell (p := ⟨b, o, none⟩) hlt
  exact ⟨(k _).trans h0, (k _).trans h1, (k _).trans h2, (k _).trans h3, (k _).trans h4⟩

/-- Which table a slice holds. -/
def Tab (w : World) (v : Value) (t : List Row) : Prop :=
  ∃ a cap, v = .slice a t.length cap ∧ t.length ≤ cap ∧ cap ≤ maxLen ∧ (a = none → cap = 0) ∧
    (t = [] ∨ ∃ b off, a = some ⟨b, off, none⟩ ∧ b < w.heap.size ∧ ∀ i, i < t.length → Cells5 w b (off + i * 5) (t.getD i Row.zero))

theorem Tab.later {w w' : World} {v : Value} {t : List Row} (h : Tab w v t) (hb : Below w.heap.size w w') : Tab w' v t := by
  obtain ⟨a, cap, h1, h2, h3, h4, h5⟩ := h
  refine ⟨a, cap, h1, h2, h3, h4, ?_⟩
  rcases h5 with h5 | ⟨b, off, e, hlt, hc⟩
  · exact .inl h5
  · exact .inr ⟨b, off, e, Nat.lt_of_lt_of_le hlt hb.size, fun i hi => (hc i hi).later hb hlt⟩

theorem tab_nil (w : World) : Tab w (.slice none 0 0) [] := ⟨none, 0, rfl, by simp, by simp, fun _ => rfl, .inl rfl⟩

/-- A row of a table, in a later world. -/
theorem Tab.row {w wr : World} {a : Option Addr} {n cap : Nat} {t : List Row} (h : Tab w (.slice a n cap) t) (hb : Below w.heap.size w wr) (k : Nat) (hk : k < t.length) :
    ∃ b off, a = some ⟨b, off, none⟩ ∧ Cells5 wr b (off + k * 5) (t.getD k Row.zero) := by
  obtain ⟨a', cap', e, _, _, _, h⟩ := h.later hb
  simp only [Value.slice.injEq] at e
  rcases h with h | ⟨b, off, e', _, hc⟩
  · rw [h] at hk; simp at hk
  · exact ⟨b, off, e.1.trans e', hc k hk⟩

theorem Tab.open' {w : World} {v : Value} {t : List Row} (h : Tab w v t) : ∃ a cap, v = .slice a t.length cap ∧ t.length ≤ 9223372036854775807 := by
  obtain ⟨a, cap, e, h1, h2, _⟩ := h
  unfold maxLen at h2
  exact ⟨a, cap, e, by omega⟩

/-- Texts that the contracts below serve. -/
def Short (t : List Row) : Prop := ∀ r ∈ t, r.c.length ≤ 4294967296 ∧ r.v.st.length ≤ 4294967296

theorem Short.get {t : List Row} (h : Short t) {k : Nat} (hk : k < t.length) : (t.getD k Row.zero).c.length ≤ 4294967296 ∧ (t.getD k Row.zero).v.st.length ≤ 4294967296 := by
  rw [← row_get hk]
  exact h _ (List.getElem_mem hk)

/-! ### '==' -/

theorem val_eqIn (d : Nat) (a b c a' b' c' : Int) (s s' : List UInt8) (w : World) :
    (Op.equalIn (d + 1 + 1) 35 (.agg #[.int .i64 a, .int .i64 b, .int .i64 c, .string ⟨s.toArray⟩]) (.agg #[.int .i64 a', .int .i64 b', .int .i64 c', .string ⟨s'.toArray⟩])).run Try.prog w = .ok (vSame ⟨a, b, c, s⟩ ⟨a', b', c', s'⟩) w := by
  have hS : Try.prog.underlying 35 = some (.struct (Try.prog.fieldsOf 35)) := by kernel_rfl
  have hp : Try.prog.stoodInHeld 35 = false := by kernel_rfl
  have u3 := Try.underlying3
  have u9 := Try.underlying9
  have a3 := Try.isAgg3
  have z3 := Try.sizeOf3
  have a9 := Try.isAgg9
  have z9 := Try.sizeOf9
  rw [run_equalIn_agg w (d + 1) 35 _ _ hS hp]
  simp only [Program.fieldsOf, Try.underlying35]
  go_simp
  unfold vSame
  by_cases h1 : a = a' <;> by_cases h2 : b = b' <;> by_cases h3 : c = c' <;> by_cases h4 : s = s' <;> simp [h1, h2, h3, h4]

theorem val_eql5 (a b c a' b' c' : Int) (s s' : List UInt8) (w : World) :
    (binOp .eql 35 (.agg #[.int .i64 a, .int .i64 b, .int .i64 c, .string ⟨s.toArray⟩]) (.agg #[.int .i64 a', .int .i64 b', .int .i64 c', .string ⟨s'.toArray⟩])).run Try.prog w = .ok (.bool (vSame ⟨a, b, c, s⟩ ⟨a', b', c', s'⟩)) w := by
  rw [run_eql_struct, show (10000 : Nat) = 9998 + 1 + 1 from rfl, val_eqIn 9998]
  rfl

theorem val_neq5 (a b c a' b' c' : Int) (s s' : List UInt8) (w : World) :
    (binOp .neq 35 (.agg #[.int .i64 a, .int .i64 b, .int .i64 c, .string ⟨s.toArray⟩]) (.agg #[.int .i64 a', .int .i64 b', .int .i64 c', .string ⟨s'.toArray⟩])).run Try.prog w = .ok (.bool (!vSame ⟨a, b, c, s⟩ ⟨a', b', c', s'⟩)) w := by
  rw [run_neq_struct, show (10000 : Nat) = 9998 + 1 + 1 from rfl, val_eqIn 9998]
  rfl

theorem row_eqIn (d : Nat) (k k' : List UInt8) (a b c a' b' c' : Int) (s s' : List UInt8) (w : World) :
    (Op.equalIn (d + 1 + 1 + 1) 48 (.agg #[.string ⟨k.toArray⟩, .int .i64 a, .int .i64 b, .int .i64 c, .string ⟨s.toArray⟩]) (.agg #[.string ⟨k'.toArray⟩, .int .i64 a', .int .i64 b', .int .i64 c', .string ⟨s'.toArray⟩])).run Try.prog w = .ok (rSame ⟨k, a, b, c, s⟩ ⟨k', a', b', c', s'⟩) w := by
  have hS : Try.prog.underlying 48 = some (.struct (Try.prog.fieldsOf 48)) := by kernel_rfl
  have hp : Try.prog.stoodInHeld 48 = false := by kernel_rfl
  have u9 := Try.underlying9
  have a9 := Try.isAgg9
  have z9 := Try.sizeOf9
  have a35 := Try.isAgg35
  have z35 := Try.sizeOf35
  have hv := fun w => val_eqIn d a b c a' b' c' s s' w
  rw [run_equalIn_agg w (d + 1 + 1) 48 _ _ hS hp]
  simp only [Program.fieldsOf, Try.underlying48]
  clear hS hp
  go_simp
  unfold rSame
  by_cases hk : k = k'
  · subst hk
    cases vSame ⟨a, b, c, s⟩ ⟨a', b', c', s'⟩ <;> simp
  · have : (k == k') = false := by simpa using hk
    rw [if_neg hk]
    simp [this]

theorem row_eql5 (k k' : List UInt8) (a b c a' b' c' : Int) (s s' : List UInt8) (w : World) :
    (binOp .eql 48 (.agg #[.string ⟨k.toArray⟩, .int .i64 a, .int .i64 b, .int .i64 c, .string ⟨s.toArray⟩]) (.agg #[.string ⟨k'.toArray⟩, .int .i64 a', .int .i64 b', .int .i64 c', .string ⟨s'.toArray⟩])).run Try.prog w = .ok (.bool (rSame ⟨k, a, b, c, s⟩ ⟨k', a', b', c', s'⟩)) w := by
  rw [run_eql_struct, show (10000 : Nat) = 9997 + 1 + 1 + 1 from rfl, row_eqIn 9997]
  rfl

theorem row_neq5 (k k' : List UInt8) (a b c a' b' c' : Int) (s s' : List UInt8) (w : World) :
    (binOp .neq 48 (.agg #[.string ⟨k.toArray⟩, .int .i64 a, .int .i64 b, .int .i64 c, .string ⟨s.toArray⟩]) (.agg #[.string ⟨k'.toArray⟩, .int .i64 a', .int .i64 b', .int .i64 c', .string ⟨s'.toArray⟩])).run Try.prog w = .ok (.bool (!rSame ⟨k, a, b, c, s⟩ ⟨k', a', b', c', s'⟩)) w := by
  rw [run_neq_struct, show (10000 : Nat) = 9997 + 1 + 1 + 1 from rfl, row_eqIn 9997]
  rfl

theorem chg_eqIn (d : Nat) (k k' : List UInt8) (o o' : Bool) (a b c a' b' c' : Int) (s s' : List UInt8) (w : World) :
    (Op.equalIn (d + 1 + 1 + 1) 37 (.agg #[.string ⟨k.toArray⟩, .bool o, .int .i64 a, .int .i64 b, .int .i64 c, .string ⟨s.toArray⟩]) (.agg #[.string ⟨k'.toArray⟩, .bool o', .int .i64 a', .int .i64 b', .int .i64 c', .string ⟨s'.toArray⟩])).run Try.prog w = .ok (cSame ⟨k, o, a, b, c, s⟩ ⟨k', o', a', b', c', s'⟩) w := by
  have hS : Try.prog.underlying 37 = some (.struct (Try.prog.fieldsOf 37)) := by kernel_rfl
  have hp : Try.prog.stoodInHeld 37 = false := by kernel_rfl
  have u4 := Try.underlying4
  have a4 := Try.isAgg4
  have z4 := Try.sizeOf4
  have u9 := Try.underlying9
  have a9 := Try.isAgg9
  have z9 := Try.sizeOf9
  have a35 := Try.isAgg35
  have z35 := Try.sizeOf35
  have hv := fun w => val_eqIn d a b c a' b' c' s s' w
  rw [run_equalIn_agg w (d + 1 + 1) 37 _ _ hS hp]
  simp only [Program.fieldsOf, Try.underlying37]
  clear hS hp
  go_simp
  unfold cSame
  by_cases hk : k = k'
  · subst hk
    cases o <;> cases o' <;> cases vSame ⟨a, b, c, s⟩ ⟨a', b', c', s'⟩ <;> simp
  · have : (k == k') = false := by simpa using hk
    rw [if_neg hk]
    simp [this]

theorem chg_neq6 (k k' : List UInt8) (o o' : Bool) (a b c a' b' c' : Int) (s s' : List UInt8) (w : World) :
    (binOp .neq 37 (.agg #[.string ⟨k.toArray⟩, .bool o, .int .i64 a, .int .i64 b, .int .i64 c, .string ⟨s.toArray⟩]) (.agg #[.string ⟨k'.toArray⟩, .bool o', .int .i64 a', .int .i64 b', .int .i64 c', .string ⟨s'.toArray⟩])).run Try.prog w = .ok (.bool (!cSame ⟨k, o, a, b, c, s⟩ ⟨k', o', a', b', c', s'⟩)) w := by
  rw [run_neq_struct, show (10000 : Nat) = 9997 + 1 + 1 + 1 from rfl, chg_eqIn 9997]
  rfl

theorem chg_eql6 (k k' : List UInt8) (o o' : Bool) (a b c a' b' c' : Int) (s s' : List UInt8) (w : World) :
    (binOp .eql 37 (.agg #[.string ⟨k.toArray⟩, .bool o, .int .i64 a, .int .i64 b, .int .i64 c, .string ⟨s.toArray⟩]) (.agg #[.string ⟨k'.toArray⟩, .bool o', .int .i64 a', .int .i64 b', .int .i64 c', .string ⟨s'.toArray⟩])).run Try.prog w = .ok (.bool (cSame ⟨k, o, a, b, c, s⟩ ⟨k', o', a', b', c', s'⟩)) w := by
  rw [run_eql_struct, show (10000 : Nat) = 9997 + 1 + 1 + 1 from rfl, chg_eqIn 9997]
  rfl

/-! ### Few -/

def fewT (t : List Row) : Bool := decide (t.length ≤ 40) && t.all fun r => decide (r.c.length ≤ 60) && decide (r.v.st.length ≤ 100)

theorem fewT_yes {t : List Row} (h : fewT t = true) : t.length ≤ 40 ∧ ∀ r ∈ t, r.c.length ≤ 60 ∧ r.v.st.length ≤ 100 := by
  unfold fewT at h
  simp only [Bool.and_eq_true, decide_eq_true_eq, List.all_eq_true] at h
  exact h

theorem fewT_short {t : List Row} (h : fewT t = true) : Short t := fun r hr => by
  have := (fewT_yes h).2 r hr
  omega

theorem fewT_off {t : List Row} {k : Nat} (hk : k < t.length) (h : 60 < (t.getD k Row.zero).c.length ∨ 100 < (t.getD k Row.zero).v.st.length) : fewT t = false := by
  rw [Bool.eq_false_iff]
  intro h'
  have hm : t.getD k Row.zero ∈ t := by rw [← row_get hk]; exact List.getElem_mem hk
  have := (fewT_yes h').2 _ hm
  omega

theorem fewT_on {t : List Row} (h1 : t.length ≤ 40) (h2 : ∀ k, k < t.length → (t.getD k Row.zero).c.length ≤ 60 ∧ (t.getD k Row.zero).v.st.length ≤ 100) : fewT t = true := by
  unfold fewT
  simp only [Bool.and_eq_true, decide_eq_true_eq, List.all_eq_true]
  refine ⟨h1, fun r hr => ?_⟩
  obtain ⟨k, hk, rfl⟩ := List.getElem_of_mem hr
  rw [row_get hk]
  exact h2 k hk

set_option maxHeartbeats 400000 in
set_option maxRecDepth 100000 in
theorem fewt_any {w : World} {v : Value} {t : List Row} (hv : Tab w v t) :
    Calls Try.prog 15 #[v] w fun e w' => e = .returned (.bool (fewT t)) ∧ w = w' := by
  have HV := Lib.hid hv
  obtain ⟨a, cap, rfl, hm⟩ := hv.open'
  clear hv
  by_cases h : 40 < t.length
  · have HR : Hid (fewT t = false) := by show _ = _; unfold fewT; simp; omega
    go_enter Try.func15, Try.ntmps15
    go_wp2_with fail
    go_ret
    exact ⟨by rw [HR.out]; rfl, rfl⟩
  · go_enter Try.func15, Try.ntmps15
    go_wp2_with fail
    go_loop [3] (fun i => ∃ k : Nat, k ≤ t.length ∧ i = .int .i64 k ∧ Hid (∀ j, j < k → (t.getD j Row.zero).c.length ≤ 60 ∧ (t.getD j Row.zero).v.st.length ≤ 100)) (fun i => t.length - (intOf i).toNat)
    case atStart => exact ⟨0, by omega, rfl, fun j hj => absurd hj (by omega)⟩
    case round =>
      obtain ⟨k, hk, rfl, HA⟩ := hrel
      by_cases hlt : k < t.length
      · obtain ⟨b, off, rfl, h0, h1, h2, h3, h4⟩ := HV.out.row (Below.refl _ _) k hlt
        obtain ⟨r, hr⟩ : ∃ r, t.getD k Row.zero = r := ⟨_, rfl⟩
        rw [hr] at h0 h1 h2 h3 h4
        have HRr := Lib.hid hr
        clear hr
        by_cases hn : 60 < r.c.length
        · have HR : Hid (fewT t = false) := by show _ = _; exact fewT_off hlt (.inl (by rw [HRr.out]; exact hn))
          have t1 : decide (60 < r.c.length) = true := by simpa using hn
          go_wp2_with fail
          go_ret
          exact ⟨by rw [HR.out]; rfl, rfl⟩
        · by_cases hs : 100 < r.v.st.length
          · have HR : Hid (fewT t = false) := by show _ = _; exact fewT_off hlt (.inr (by rw [HRr.out]; exact hs))
            go_wp2_with fail
            go_ret
            exact ⟨by rw [HR.out]; rfl, rfl⟩
          · have HN : Hid (∀ j, j < k + 1 → (t.getD j Row.zero).c.length ≤ 60 ∧ (t.getD j Row.zero).v.st.length ≤ 100) := by
              show ∀ j, j < k + 1 → _
              intro j hj
              by_cases hjk : j = k
              · rw [hjk, HRr.out]; omega
              · exact HA.out j (by omega)
            go_wp2_with fail
            go_round
            case rel => exact ⟨k + 1, by omega, by go_num, HN⟩
            case measure => simp [intOf]; omega
      · obtain rfl : k = t.length := by omega
        have HR : Hid (fewT t = true) := by show _ = _; exact fewT_on (by omega) HA.out
        go_wp2_with fail
        go_ret
        exact ⟨by rw [HR.out]; rfl, rfl⟩

theorem fewt_eq {w : World} {v : Value} {t : List Row} (hv : Tab w v t) {r : Bool} (h : Hid (fewT t = r)) :
    Calls Try.prog 15 #[v] w fun e w' => e = .returned (.bool r) ∧ w = w' := by
  have := fewt_any hv
  rwa [h.out] at this

/-! ### Two tables -/

theorem tSame_next {t u : List Row} {k : Nat} (h : (List.range k).all (fun i => rSame (t.getD i Row.zero) (u.getD i Row.zero)) = true) (hk : rSame (t.getD k Row.zero) (u.getD k Row.zero) = true) :
    (List.range (k + 1)).all (fun i => rSame (t.getD i Row.zero) (u.getD i Row.zero)) = true := range_all_succ h hk

set_option maxHeartbeats 800000 in
set_option maxRecDepth 100000 in
theorem tsame_any {w : World} {v u : Value} {t s : List Row} (hv : Tab w v t) (hu : Tab w u s) :
    Calls Try.prog 25 #[v, u] w fun e w' => e = .returned (.bool (tSame t s)) ∧ Below w.heap.size w w' := by
  have HV := Lib.hid hv
  have HU := Lib.hid hu
  obtain ⟨a, cap, rfl, hm⟩ := hv.open'
  obtain ⟨a2, cap2, rfl, hm2⟩ := hu.open'
  clear hv hu
  by_cases hl : t.length = s.length
  · have HL := Lib.hid hl
    have t1 : ((t.length : Int) != (s.length : Int)) = false := by simp [hl]
    clear hl
    go_enter Try.func25, Try.ntmps25
    go_wp2_with fail
    go_loopw [5] (fun i wr => ∃ k : Nat, k ≤ t.length ∧ i = .int .i64 k ∧ Hid (Below w.heap.size w wr) ∧ Hid ((List.range k).all (fun i => rSame (t.getD i Row.zero) (s.getD i Row.zero)) = true)) (fun i _ => t.length - (intOf i).toNat)
    case atStart => exact ⟨0, by omega, rfl, Below.refl _ _, by show _ = _; simp⟩
    case round =>
      obtain ⟨k, hk, rfl, HN, HA⟩ := hrel
      by_cases hlt : k < t.length
      · obtain ⟨b, off, rfl, h0, h1, h2, h3, h4⟩ := HV.out.row HN.out k hlt
        obtain ⟨b2, off2, rfl, i0, i1, i2, i3, i4⟩ := HU.out.row HN.out k (by rw [← HL.out]; exact hlt)
        have hlt2 : k < s.length := by rw [← HL.out]; exact hlt
        obtain ⟨⟨c, ⟨x, y, z, st⟩⟩, hr⟩ : ∃ r, t.getD k Row.zero = r := ⟨_, rfl⟩
        obtain ⟨⟨c', ⟨x', y', z', st'⟩⟩, hr'⟩ : ∃ r, s.getD k Row.zero = r := ⟨_, rfl⟩
        rw [hr] at h0 h1 h2 h3 h4
        rw [hr'] at i0 i1 i2 i3 i4
        have hgd : Try.prog.eqGuardType Try.prog.depth 48 = false := by kernel_rfl
        have hne := row_neq5 c c' x y z x' y' z' st st'
        cases hs : rSame ⟨c, x, y, z, st⟩ ⟨c', x', y', z', st'⟩ with
        | false =>
          have HR : Hid (tSame t s = false) := by show _ = _; exact tSame_off hlt (by rw [hr, hr']; exact hs)
          rw [hs] at hne
          simp only at h0 h1 h2 h3 h4 i0 i1 i2 i3 i4
          clear hr hr' hs
          go_wp2_with fail
          go_region
          go_wp2_with fail
          go_ret
          exact ⟨by rw [HR.out]; rfl, HN.out.drew⟩
        | true =>
          have HA2 : Hid ((List.range (k + 1)).all (fun i => rSame (t.getD i Row.zero) (s.getD i Row.zero)) = true) := by show _ = _; exact tSame_next HA.out (by rw [hr, hr']; exact hs)
          rw [hs] at hne
          simp only at h0 h1 h2 h3 h4 i0 i1 i2 i3 i4
          clear hr hr' hs
          go_wp2_with fail
          go_region
          go_wp2_with fail
          go_roundw
          case rel => exact ⟨k + 1, by omega, by go_num, HN.out.drew, HA2⟩
          case measure => simp [intOf]; omega
      · obtain rfl : k = t.length := by omega
        have HR : Hid (tSame t s = true) := by show _ = _; exact tSame_on HL.out HA.out
        go_wp2_with fail
        go_ret
        exact ⟨by rw [HR.out]; rfl, HN.out⟩
  · have HR := Lib.hid (tSame_len hl)
    have t1 : ((t.length : Int) != (s.length : Int)) = true := by simp; omega
    clear hl
    go_enter Try.func25, Try.ntmps25
    go_wp2_with fail
    go_ret
    exact ⟨by rw [HR.out]; rfl, Below.refl _ _⟩

theorem tsame_eq {w : World} {v u : Value} {t s : List Row} (hv : Tab w v t) (hu : Tab w u s) {r : Bool} (h : Hid (tSame t s = r)) :
    Calls Try.prog 25 #[v, u] w fun e w' => e = .returned (.bool r) ∧ Below w.heap.size w w' := by
  have := tsame_any hv hu
  rwa [h.out] at this

end Go.Proofs.Ytocjeehoghfnmaa
