/-
  THE CONTRACT OF THE DOCUMENT'S Merge.
-/
import Derived.Test.YtkmbnpjnjlcjmaaIdRput
namespace Go.Proofs.Ytkmbnpjnjlcjmaa
open Go.RowKit

theorem ins_len (x : List UInt8) : ∀ ls, (ins x ls).length ≤ ls.length + 1 ∧ 1 ≤ (ins x ls).length
  | [] => by simp [ins]
  | y :: ls => by
    have := ins_len x ls
    unfold ins
    split
    · simp only [List.length_cons]; omega
    · split <;> simp

theorem mrg_snoc (l : List (List UInt8)) (x : List UInt8) : mrg (l ++ [x]) = ins x (mrg l) := by
  unfold mrg
  rw [List.foldl_append]
  rfl

theorem mrg_len (l : List (List UInt8)) : (mrg l).length ≤ l.length := by
  have : ∀ acc : List (List UInt8), (l.foldl (fun out x => ins x out) acc).length ≤ acc.length + l.length := by
    induction l with
    | nil => intro acc; simp
    | cons x l ih =>
      intro acc
      have h1 := ih (ins x acc)
      have h2 := (ins_len x acc).1
      simp only [List.foldl_cons, List.length_cons]
      omega
  simpa [mrg] using this []

theorem heaped_ins {w : World} {v : Value} {ls : List (List UInt8)} {x : List UInt8} (h : Texts w v (ins x ls)) : Heaped w v (ins x ls) := by
  refine ⟨h, fun e => ?_⟩
  have := (ins_len x ls).2
  rw [e] at this
  simp at this

theorem Heaped.later {w w' : World} {v : Value} {ls : List (List UInt8)} (h : Heaped w v ls) (hb : Below w.heap.size w w') : Heaped w' v ls := ⟨h.1.later hb, h.2⟩

/-- A cell of a row, in a later world. -/
theorem Texts.cell {w wr : World} {a : Option Addr} {n cap : Nat} {ls : List (List UInt8)} (h : Texts w (.slice a n cap) ls) (hb : Below w.heap.size w wr) (k : Nat) (hk : k < ls.length) :
    ∃ b off, a = some ⟨b, off, none⟩ ∧ wr.cell? ⟨b, off + k, none⟩ = some (.string ⟨(ls.getD k []).toArray⟩) := by
  obtain ⟨a', cap', e, _, _, _, h⟩ := h.later hb
  simp only [Value.slice.injEq] at e
  rcases h with h | ⟨b, off, e', _, hc⟩
  · rw [h] at hk; simp at hk
  · exact ⟨b, off, e.1.trans e', hc k hk⟩

set_option maxHeartbeats 1600000 in
set_option maxRecDepth 100000 in
theorem irmerge_any {w : World} {va vb : Value} {as' bs' : List (List UInt8)} (ha : Texts w va as') (hb : Texts w vb bs') (hal : as'.length ≤ 100) (hbl : bs'.length ≤ 100) :
    Calls Try.prog 55 #[va, vb] w fun e w' => ∃ v, e = .returned v ∧ Texts w' v (mrg (as' ++ bs')) ∧ Below w.heap.size w w' := by
  have HA := Lib.hid ha
  have HB := Lib.hid hb
  obtain ⟨a, cap, rfl, _, _, _, _⟩ := ha
  obtain ⟨a2, cap2, rfl, _, _, _, _⟩ := hb
  go_enter Try.func55, Try.ntmps55
  go_wp2_with fail
  go_loopw [5, 6] (fun v i wr => ∃ k : Nat, k ≤ as'.length ∧ i = .int .i64 k ∧ Hid (Heaped wr v (mrg (as'.take k))) ∧ Below w.heap.size w wr) (fun _ i _ => as'.length - (intOf i).toNat)
  case atStart => exact ⟨0, by omega, rfl, ⟨texts_nil w, fun _ => rfl⟩, Below.refl _ _⟩
  case round =>
    rename_i v0 _ wr _
    obtain ⟨k, hk, rfl, HV, hnx⟩ := hrel
    have HN := Lib.hid hnx
    by_cases hlt : k < as'.length
    · obtain ⟨b1, o1, e1, hc1⟩ := HA.out.cell HN.out k hlt
      subst e1
      obtain ⟨x, hx⟩ : ∃ x, as'.getD k [] = x := ⟨_, rfl⟩
      rw [hx] at hc1
      have HM : Hid (mrg (as'.take (k + 1)) = ins x (mrg (as'.take k))) := by
        show _ = _
        rw [List.take_succ_eq_append_getElem hlt, mrg_snoc]
        congr 1
        rw [← hx]
        simp [List.getD, List.getElem?_eq_getElem hlt]
      have hml := mrg_len (as'.take k)
      have hml' : (mrg (as'.take k)).length ≤ 1000 := by
        have : (as'.take k).length ≤ k := List.length_take_le _ _
        omega
      have HP := Lib.hid (iput_any HV.out hml' x)
      clear hx hnx hml hml'
      go_wp2_with fail
      refine HP.out.mono ?_
      rintro e w1 ⟨v1, rfl, ht1, hb1⟩
      have HT1 : Hid (Heaped w1 v1 (mrg (as'.take (k + 1)))) := by show Heaped _ _ _; rw [HM.out]; exact heaped_ins ht1
      have HN1 := Lib.hid (below2' HN.out hb1)
      clear ht1 hb1 HP
      go_wp2_with fail
      go_roundw
      case rel => exact ⟨k + 1, by omega, by go_num, HT1, HN1.out⟩
      case measure => simp [intOf]; omega
    · obtain rfl : k = as'.length := by omega
      rw [List.take_length] at HV
      have hfull : as'.length ≤ as'.length := Nat.le_refl _
      clear hnx
      go_wp2_with fail
      go_loopw [5, 7] (fun v i ws => ∃ k : Nat, k ≤ bs'.length ∧ i = .int .i64 k ∧ Hid (Heaped ws v (mrg (as' ++ bs'.take k))) ∧ Below w.heap.size w ws) (fun _ i _ => bs'.length - (intOf i).toNat)
      case atStart => exact ⟨0, by omega, rfl, by show Heaped _ _ _; simpa using HV.out, HN.out⟩
      case round =>
        obtain ⟨k, hk, rfl, HV2, hnx⟩ := hrel
        have HN2 := Lib.hid hnx
        by_cases hlt2 : k < bs'.length
        · obtain ⟨b1, o1, e1, hc1⟩ := HB.out.cell HN2.out k hlt2
          subst e1
          obtain ⟨x, hx⟩ : ∃ x, bs'.getD k [] = x := ⟨_, rfl⟩
          rw [hx] at hc1
          have HM : Hid (mrg (as' ++ bs'.take (k + 1)) = ins x (mrg (as' ++ bs'.take k))) := by
            show _ = _
            rw [List.take_succ_eq_append_getElem hlt2, ← List.append_assoc, mrg_snoc]
            congr 1
            rw [← hx]
            simp [List.getD, List.getElem?_eq_getElem hlt2]
          have hml := mrg_len (as' ++ bs'.take k)
          have hml' : (mrg (as' ++ bs'.take k)).length ≤ 1000 := by
            have : (bs'.take k).length ≤ k := List.length_take_le _ _
            rw [List.length_append] at hml
            omega
          have HP := Lib.hid (iput_any HV2.out hml' x)
          clear hx hnx hml hml'
          go_wp2_with fail
          refine HP.out.mono ?_
          rintro e w1 ⟨v1, rfl, ht1, hb1⟩
          have HT1 : Hid (Heaped w1 v1 (mrg (as' ++ bs'.take (k + 1)))) := by show Heaped _ _ _; rw [HM.out]; exact heaped_ins ht1
          have HN1 := Lib.hid (below2' HN2.out hb1)
          clear ht1 hb1 HP
          go_wp2_with fail
          go_roundw
          case rel => exact ⟨k + 1, by omega, by go_num, HT1, HN1.out⟩
          case measure => simp [intOf]; omega
        · obtain rfl : k = bs'.length := by omega
          rw [List.take_length] at HV2
          clear hnx
          go_wp2_with fail
          go_ret
          exact ⟨_, rfl, HV2.out.1, HN2.out⟩

end Go.Proofs.Ytkmbnpjnjlcjmaa
