/-
  LAYER 10: calls of a heap that came in, and the heap on which they were called.
-/
import Derived.Test.YtfnlmckcedembabHeaAbs
namespace Go.Proofs.Ytfnlmckcedembab
open Go.RowKit

structure HOp where
  act : Int
  id : Int
  r0 : Int
  r1 : Int
  r2 : Int

def HOp.zero : HOp := ⟨0, 0, 0, 0, 0⟩
def HOp.sl (o : HOp) : Sl := ⟨o.id, o.r0, o.r1, o.r2⟩

def opVals (o : HOp) : List Value := [.int .i64 o.act, .int .i64 o.id, .int .i64 o.r0, .int .i64 o.r1, .int .i64 o.r2]

theorem opOK : RowOK Try.prog opVals 5 HOp.zero 43 22 (.agg #[.int .i64 0, .int .i64 0, .int .i64 0, .int .i64 0, .int .i64 0]) 40 where
  len _ := rfl
  one a u hu := by
    simp only [opVals, List.mem_cons, List.not_mem_nil, or_false] at hu
    rcases hu with rfl | rfl | rfl | rfl | rfl <;> rfl
  pos := by decide
  small := by decide
  under := Try.underlying22
  info := by kernel_rfl
  zvals := rfl
  fits := by decide

theorem cells5o {w : World} {b o : Nat} {s : HOp} (h : CellsAt w b o (opVals s)) :
    w.cell? ⟨b, o, none⟩ = some (.int .i64 s.act) ∧ w.cell? ⟨b, o + 1, none⟩ = some (.int .i64 s.id) ∧ w.cell? ⟨b, o + 2, none⟩ = some (.int .i64 s.r0) ∧ w.cell? ⟨b, o + 3, none⟩ = some (.int .i64 s.r1) ∧ w.cell? ⟨b, o + 4, none⟩ = some (.int .i64 s.r2) :=
  ⟨h 0 _ rfl, h 1 _ rfl, h 2 _ rfl, h 3 _ rfl, h 4 _ rfl⟩

/-- Calls that came in: their slice may be read, and lies below 'base'. -/
def OpsAt (w : World) (v : Value) (l : List HOp) : Prop := RdS opVals 5 HOp.zero w v l ∧ ∀ o ∈ l, (Lit.int .i64 o.id).wf = true

/-- What a call makes of the slots. -/
def stepS (L : List Sl) (o : HOp) : List Sl := if o.act = 1 then slDel L o.id else slPut L o.sl

def runS (l : List HOp) : List Sl := l.foldl stepS []

theorem runS_next {l : List HOp} {k : Nat} (hk : k < l.length) : runS (l.take (k + 1)) = stepS (runS (l.take k)) (l.getD k HOp.zero) := by
  unfold runS
  rw [List.take_succ_eq_append_getElem hk, List.foldl_append]
  rw [List.getD_eq_getElem?_getD, List.getElem?_eq_getElem hk]
  rfl

theorem stepS_len (L : List Sl) (o : HOp) : (stepS L o).length ≤ L.length + 1 := by
  unfold stepS
  split
  · exact Nat.le_succ_of_le (List.length_filter_le _ _)
  · rw [slPut_len]; split <;> omega

theorem RdS.below {α : Type} {vals : α → List Value} {sz : Nat} {zero : α} {w w' : World} {v : Value} {l : List α} (h : RdS vals sz zero w v l) (hb : Below w.heap.size w w') : RdS vals sz zero w' v l := h.later hb

set_option maxHeartbeats 3200000 in
set_option maxRecDepth 100000 in
theorem some_any {w : World} {v : Value} {l : List HOp} (hv : OpsAt w v l) (hl : l.length ≤ 100) :
    Calls Try.prog 24 #[v] w fun e w' => ∃ B u M, e = .returned (.pointer (some ⟨B, 0, none⟩)) ∧ HpAt w' w.heap.size B u M (runS l) ∧ Below w.heap.size w w' := by
  have HV := Lib.hid hv.1
  have HW := Lib.hid hv.2
  obtain ⟨a, cap, rfl, hm⟩ := hv.1.open'
  clear hv
  go_enter Try.func24, Try.ntmps24
  go_wp2_with fail
  refine (hp_new w).mono ?_
  rintro e w1 ⟨B, v0, M, rfl, h0, b0⟩
  have B1 := Lib.hid b0
  have H1 := Lib.hid h0
  clear b0 h0
  go_wp2_with fail
  go_loopw [4] (fun i wr => ∃ (k : Nat) (u : Value), k ≤ l.length ∧ i = .int .i64 k ∧ Hid ((runS (l.take k)).length ≤ k) ∧ Hid (HpAt wr w.heap.size B u M (runS (l.take k))) ∧ Hid (Below w.heap.size w wr)) (fun i _ => l.length - (intOf i).toNat)
  case atStart => exact ⟨0, v0, by omega, rfl, by show _ ≤ _; simp [runS], H1, B1⟩
  case round =>
    clear H1 B1
    obtain ⟨k, u, hk, rfl, HL, HH, HB⟩ := hrel
    by_cases hlt : k < l.length
    · obtain ⟨b, off, rfl, hc⟩ := HV.out.row HB.out k hlt
      have hbw : b < w.heap.size := by
        obtain ⟨b', off', e', hc'⟩ := HV.out.row (Below.refl _ _) k hlt
        injection e' with e'
        injection e' with e1 e2 _
        subst e1 e2
        exact World.block_lt_of_cell? w _ (hc' 0 _ rfl)
      obtain ⟨⟨t, id, r0, r1, r2⟩, hr⟩ : ∃ r, l.getD k HOp.zero = r := ⟨_, rfl⟩
      have hid : (Lit.int .i64 id).wf = true := by
        have hmem : l.getD k HOp.zero ∈ l := by rw [List.getD_eq_getElem?_getD, List.getElem?_eq_getElem hlt]; exact List.getElem_mem hlt
        have := HW.out _ hmem
        rwa [hr] at this
      have hnx := runS_next hlt
      rw [hr] at hc hnx
      obtain ⟨c0, c1, c2, c3, c4⟩ := cells5o hc
      simp only at c0 c1 c2 c3 c4
      have hsl := stepS_len (runS (l.take k)) ⟨t, id, r0, r1, r2⟩
      rw [← hnx] at hsl
      have HL2 : Hid ((runS (l.take (k + 1))).length ≤ k + 1) := by show _ ≤ _; have := HL.out; omega
      have HNX := Lib.hid hnx
      have HL3 : Hid ((runS (l.take k)).length < 1000) := by show _ < _; have := HL.out; omega
      clear hr hc hnx hsl
      by_cases ht : t = 1
      · subst ht
        obtain ⟨q, hq⟩ : ∃ q, (spot (runS (l.take k)) id).isSome = q := ⟨_, rfl⟩
        have HD := Lib.hid (hp_drop HH.out id hid hq)
        clear hq
        go_wp2_with fail
        refine HD.out.mono ?_
        rintro e w2 ⟨u2, rfl, h2, t2⟩
        have H2 := Lib.hid (show HpAt w2 w.heap.size B u2 M (runS (l.take (k + 1))) by rw [HNX.out]; exact h2)
        have B2 := Lib.hid (HB.out.trans t2.turn.below)
        clear h2 t2 c0 c1 c2 c3 c4 HD
        go_wp2_with fail
        go_roundw
        case rel => exact ⟨k + 1, u2, by omega, by go_num, HL2, H2, B2⟩
        case measure => simp [intOf]; omega
      · have t1 : (t == 1) = false := by rw [beq_eq_false_iff_ne]; exact ht
        obtain ⟨q, hq⟩ : ∃ q, (spot (runS (l.take k)) id).isNone = q := ⟨_, rfl⟩
        have HT := Lib.hid ht
        have HQ := Lib.hid hq
        have HD2 := Lib.hid (show HpAt wr.drew w.heap.size B u M (runS (l.take k)) from HpAt.spared HH.out ⟨rfl, rfl, fun _ _ _ _ => rfl⟩)
        have C1 := Lib.hid (show wr.drew.cell? ⟨b, off + k * 5 + 1, none⟩ = some (.int .i64 id) from c1)
        have C2 := Lib.hid (show wr.drew.cell? ⟨b, off + k * 5 + 2, none⟩ = some (.int .i64 r0) from c2)
        have C3 := Lib.hid (show wr.drew.cell? ⟨b, off + k * 5 + 3, none⟩ = some (.int .i64 r1) from c3)
        have C4 := Lib.hid (show wr.drew.cell? ⟨b, off + k * 5 + 4, none⟩ = some (.int .i64 r2) from c4)
        clear ht hq
        go_wp2_with fail
        go_region_held (fun w' => w'.cell? ⟨b, off + k * 5 + 1, none⟩ = some (.int .i64 id) ∧ w'.cell? ⟨b, off + k * 5 + 2, none⟩ = some (.int .i64 r0) ∧ w'.cell? ⟨b, off + k * 5 + 3, none⟩ = some (.int .i64 r1) ∧ w'.cell? ⟨b, off + k * 5 + 4, none⟩ = some (.int .i64 r2)) ((first | exact ⟨C1.out, C2.out, C3.out, C4.out⟩ | exact ⟨k1, k2, k3, k4⟩))
          ((go_at_call 28; refine (hp_put HD2.out HL3.out id r0 r1 r2 hid HQ.out).mono ?_; rintro e w2 ⟨u2, rfl, h2, t2⟩; have k1 := (t2.turn.below.cell (p := ⟨b, off + k * 5 + 1, none⟩) hbw).trans C1.out; have k2 := (t2.turn.below.cell (p := ⟨b, off + k * 5 + 2, none⟩) hbw).trans C2.out; have k3 := (t2.turn.below.cell (p := ⟨b, off + k * 5 + 3, none⟩) hbw).trans C3.out; have k4 := (t2.turn.below.cell (p := ⟨b, off + k * 5 + 4, none⟩) hbw).trans C4.out))
        have H2 := Lib.hid (show HpAt w2 w.heap.size B u2 M (runS (l.take (k + 1))) by
          rw [HNX.out]
          unfold stepS
          rw [if_neg HT.out]
          exact h2)
        have B2 := Lib.hid (HB.out.trans ((Below.refl _ wr).drew.trans t2.turn.below))
        clear h2 t2 c0 c1 c2 c3 c4 k1 k2 k3 k4
        go_wp2_with fail
        go_roundw
        case rel => exact ⟨k + 1, u2, by omega, by go_num, HL2, H2, B2⟩
        case measure => simp [intOf]; omega
    · obtain rfl : k = l.length := by omega
      have H2 := Lib.hid (show HpAt wr w.heap.size B u M (runS l) by have := HH.out; rwa [List.take_length] at this)
      go_wp2_with fail
      go_ret
      exact ⟨B, u, M, rfl, H2.out, HB.out⟩

end Go.Proofs.Ytfnlmckcedembab
