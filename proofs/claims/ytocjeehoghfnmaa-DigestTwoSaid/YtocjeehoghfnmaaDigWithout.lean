/-
  THE CONTRACTS OF slices.Clone (of rows) AND OF digest.without.
-/
import Derived.Test.YtocjeehoghfnmaaDigDel
namespace Go.Proofs.Ytocjeehoghfnmaa
open Go.RowKit

/-- The cells of a table, at its slice's address. -/
theorem Tab.src {w : World} {ad : Addr} {n cap : Nat} {t : List Row} (h : Tab w (.slice (some ad) n cap) t) : SrcR w ad t := by
  obtain ⟨a', cap', e, _, _, _, h⟩ := h
  simp only [Value.slice.injEq] at e
  intro j u hu
  have hj := (List.getElem?_eq_some_iff.1 hu).1
  rw [cellsOf_len] at hj
  rcases h with h | ⟨b, off, e', _, hc⟩
  · rw [h] at hj; simp at hj
  · have e2 := e.1.trans e'
    injection e2 with e2
    subst e2
    have hd : j = j / 5 * 5 + j % 5 := by omega
    rw [hd, cellsOf_at t (j / 5) (j % 5) (by omega) (by omega)] at hu
    have := cells5_get (hc (j / 5) (by omega)) (j % 5) u hu
    rw [Addr.add_lit, hd, ← Nat.add_assoc]
    exact this

theorem eql_nil_some (w : World) (x : Addr) (n c : Nat) : (binOp .eql 22 (.slice (some x) n c) (.slice none 0 0)).run Try.prog w = .ok (.bool false) w := by
  rw [Lib.run_eql_slice_nil w _ _ _ _ _ _ _ Try.underlying22]
  rfl

theorem eql_nil_nil (w : World) (n c : Nat) : (binOp .eql 22 (.slice none n c) (.slice none 0 0)).run Try.prog w = .ok (.bool true) w := by
  rw [Lib.run_eql_slice_nil w _ _ _ _ _ _ _ Try.underlying22]
  rfl

set_option maxHeartbeats 800000 in
set_option maxRecDepth 100000 in
theorem clone_any {w : World} {v : Value} {t : List Row} (hv : Tab w v t) (hl : t.length ≤ 4294967) :
    Calls Try.prog 94 #[v] w fun e w' => ∃ u, e = .returned u ∧ OwnR w' w.heap.size u t ∧ Below w.heap.size w w' := by
  have HV := Lib.hid hv
  obtain ⟨a, cap, rfl, h1, h2, h3, h4⟩ := hv
  cases a with
  | none =>
    obtain rfl : cap = 0 := h3 rfl
    obtain rfl : t = [] := List.length_eq_zero_iff.1 (by omega)
    have heq := fun w => eql_nil_nil w 0 0
    clear h4
    go_enter Try.func94, Try.ntmps94
    go_wp2_with fail
    go_ret
    exact ⟨_, rfl, ownR_nil _ _, Below.refl _ _⟩
  | some x =>
    have HS := Lib.hid (HV.out.later ((Below.refl _ _).alloc (Nat.le_refl _) (.cells #[] 48))).src
    have heq := fun w => eql_nil_some w x t.length cap
    clear h4 h3
    go_enter Try.func94, Try.ntmps94
    go_wp2_with (at_builtin; go_must (refine wpList_append_rows rfl _ _ rfl w.heap.size _ [] rfl (by exact ownR_made w) (some x) t.length cap t rfl rfl (fun e => nomatch e) ?c1 (by simp only [List.length_nil]; omega) (by simp) ?_))
    case c1 => intro ad had; obtain rfl := Option.some.inj had; exact HS.out
    intro v' w' ho' hb'
    have O := Lib.hid ho'
    have hbB : Hid (Below w.heap.size w w') := ((Below.refl w.heap.size w).alloc (Nat.le_refl _) _).trans hb'
    clear ho' hb'
    go_wp2_with fail
    go_ret
    exact ⟨_, rfl, by have := O.out; simpa using this, hbB.out⟩

theorem deletef_any {w : World} {base : Nat} {v : Value} {t : List Row} (ho : OwnR w base v t) {B : Nat} {key : List UInt8} (hk : w.cell? ⟨B, 0, none⟩ = some (.string ⟨key.toArray⟩)) (hB : B < base) (hbase : base ≤ w.heap.size) :
    Calls Try.prog 93 #[v, .func (.func 95) #[] #[.pointer (some ⟨B, 0, none⟩)]] w fun e w' => ∃ u, e = .returned u ∧ OwnR w' base u (diRest t key) ∧ Below base w w' := by
  rcases ho.2 with ⟨rfl, h0⟩ | ⟨g, cap, cur, rfl, _⟩
  · obtain rfl : t = [] := List.length_eq_zero_iff.1 h0
    have HI := Lib.hid (indexf_any ho.tab hk)
    clear ho hk h0
    go_enter Try.func93, Try.ntmps93
    go_wp2_with fail
    refine HI.out.mono ?_
    rintro e w1 ⟨m, rfl, hf, hb1⟩
    have B1 := Lib.hid hb1
    clear hb1 HI
    rcases hf with ⟨k, hk, _⟩ | ⟨rfl, _⟩
    · simp at hk
    · go_wp2_with fail
      go_ret
      exact ⟨_, rfl, ownR_nil _ _, B1.out.mono hbase⟩
  · exact deletef_some ho hk hB hbase

set_option maxHeartbeats 800000 in
set_option maxRecDepth 100000 in
theorem without_any {w : World} {v : Value} {t : List Row} (hv : Tab w v t) (hl : t.length ≤ 4294967) (key : List UInt8) :
    Calls Try.prog 64 #[v, .string ⟨key.toArray⟩] w fun e w' => ∃ u, e = .returned u ∧ OwnR w' (w.heap.size + 1) u (diRest t key) ∧ Below w.heap.size w w' ∧ w.heap.size < w'.heap.size := by
  have HC := Lib.hid (clone_any (hv.later ((Below.refl _ _).alloc (Nat.le_refl _) (.cells #[.string ⟨key.toArray⟩] 9))) hl)
  obtain ⟨a, cap, rfl, _⟩ := hv.open'
  clear hv
  go_enter Try.func64, Try.ntmps64
  go_wp2_with fail
  refine HC.out.mono ?_
  rintro e w1 ⟨u, rfl, ho1, hb1⟩
  have hk : w1.cell? ⟨w.heap.size, 0, none⟩ = some (.string ⟨key.toArray⟩) := cell_later (by simp) hb1
  have hsz := hb1.size
  simp at hsz
  have ho2 : OwnR w1 (w.heap.size + 1) u t := by simpa using ho1
  have HD := Lib.hid (deletef_any ho2 hk (Nat.lt_succ_self _) hsz)
  have B1 : Hid (Below w.heap.size w w1) := below2' ((Below.refl _ _).alloc (Nat.le_refl _) _) hb1
  clear ho1 ho2 hb1 hk HC
  go_wp2_with fail
  refine HD.out.mono ?_
  rintro e w2 ⟨u2, rfl, ho3, hb3⟩
  have O3 := Lib.hid ho3
  have B3 := Lib.hid (B1.out.trans (hb3.mono (Nat.le_succ _)))
  have hz3 := hb3.size
  clear ho3 hb3
  go_wp2_with fail
  go_ret
  exact ⟨_, rfl, O3.out, B3.out, by omega⟩

end Go.Proofs.Ytocjeehoghfnmaa
