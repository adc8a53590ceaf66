/-
  THE CONTRACTS OF digest.Get AND OF THE DOCUMENT'S ANSWER TO IT.
-/
import Derived.Test.YtocjeehoghfnmaaDigRtake
namespace Go.Proofs.Ytocjeehoghfnmaa
open Go.RowKit

theorem diGet_at {t : List Row} {k : Nat} (hk : k < t.length) {c st : List UInt8} {x y z : Int} (hr : t.getD k Row.zero = ⟨c, x, y, z, st⟩) (key : List UInt8) :
    (c = key → diGet (t.drop k) key = (⟨x, y, z, st⟩, true)) ∧ (¬ c = key → diGet (t.drop k) key = diGet (t.drop (k + 1)) key) := by
  have e : t.drop k = ⟨c, x, y, z, st⟩ :: t.drop (k + 1) := by rw [List.drop_eq_getElem_cons hk, row_get hk, hr]
  rw [e]
  exact ⟨fun h => diGet_hit h _, fun h => diGet_miss h _⟩

theorem four_set_alloc (w : World) (B : Nat) (o : Obj) (a b c d : Value) {a' b' c' d' : Value} (h0 : w.cell? ⟨B, 0, none⟩ = some a') (h1 : w.cell? ⟨B, 1, none⟩ = some b') (h2 : w.cell? ⟨B, 2, none⟩ = some c') (h3 : w.cell? ⟨B, 3, none⟩ = some d') :
    ((set4 w B a b c d).alloc o).cell? ⟨B, 0, none⟩ = some a ∧ ((set4 w B a b c d).alloc o).cell? ⟨B, 1, none⟩ = some b ∧ ((set4 w B a b c d).alloc o).cell? ⟨B, 2, none⟩ = some c ∧ ((set4 w B a b c d).alloc o).cell? ⟨B, 3, none⟩ = some d := by
  obtain ⟨r0, r1, r2, r3⟩ := four_set w B a b c d _ _ _ _ h0 h1 h2 h3
  have hb : Below (set4 w B a b c d).heap.size (set4 w B a b c d) ((set4 w B a b c d).alloc o) := (Below.refl _ _).alloc (Nat.le_refl _) _
  exact ⟨cell_later r0 hb, cell_later r1 hb, cell_later r2 hb, cell_later r3 hb⟩

/-- A new block of four cells, and whatever came behind it. -/
theorem block4 {w w1 : World} {a b c d : Value} {t1 : TypeId} (hb : Below (w.alloc (.cells #[a, b, c, d] t1)).heap.size (w.alloc (.cells #[a, b, c, d] t1)) w1) :
    (w1.cell? ⟨w.heap.size, 0, none⟩ = some a ∧ w1.cell? ⟨w.heap.size, 1, none⟩ = some b ∧ w1.cell? ⟨w.heap.size, 2, none⟩ = some c ∧ w1.cell? ⟨w.heap.size, 3, none⟩ = some d) ∧
    (w1.frozen? ⟨w.heap.size, 0, none⟩ = false ∧ w1.frozen? ⟨w.heap.size, 1, none⟩ = false ∧ w1.frozen? ⟨w.heap.size, 2, none⟩ = false ∧ w1.frozen? ⟨w.heap.size, 3, none⟩ = false) ∧ Below w.heap.size w w1 ∧ w.heap.size < w1.heap.size := by
  have hA : ∀ o, w1.cell? ⟨w.heap.size, o, none⟩ = #[a, b, c, d][o]? := fun o => by
    rw [hb.cell (p := ⟨w.heap.size, o, none⟩) (by show w.heap.size < _; simp), World.cell?_alloc_at _ _ _ _ rfl]
  have hF : ∀ o, w1.frozen? ⟨w.heap.size, o, none⟩ = false := fun o => by
    rw [hb.frozen (p := ⟨w.heap.size, o, none⟩) (by show w.heap.size < _; simp)]
    simp
  have hs := hb.size
  exact ⟨⟨hA 0, hA 1, hA 2, hA 3⟩, ⟨hF 0, hF 1, hF 2, hF 3⟩, below2' ((Below.refl _ _).alloc (Nat.le_refl _) _) hb, by simp at hs; omega⟩

/-- Two results: value, whether it is there. -/
def pairG (r : Val × Bool) : Value := .tuple #[valV r.1, .bool r.2]

set_option maxHeartbeats 1600000 in
set_option maxRecDepth 100000 in
theorem diget_any {w : World} {v : Value} {t : List Row} (hv : Tab w v t) (key : List UInt8) :
    Calls Try.prog 26 #[v, .string ⟨key.toArray⟩] w fun e w' => e = .returned (pairG (diGet t key)) ∧ Below w.heap.size w w' := by
  have HV := Lib.hid hv
  obtain ⟨a, cap, rfl, hm⟩ := hv.open'
  clear hv
  go_enter Try.func26, Try.ntmps26
  go_wp2_with fail
  go_loopw [10] (fun i wr => ∃ k : Nat, k ≤ t.length ∧ i = .int .i64 k ∧ Hid (Below (w.alloc (.cells #[.int .i64 0, .int .i64 0, .int .i64 0, .string ⟨#[]⟩] 35)).heap.size (w.alloc (.cells #[.int .i64 0, .int .i64 0, .int .i64 0, .string ⟨#[]⟩] 35)) wr) ∧ Hid (diGet t key = diGet (t.drop k) key)) (fun i _ => t.length - (intOf i).toNat)
  case atStart => exact ⟨0, by omega, rfl, Below.refl _ _, rfl⟩
  case round =>
    obtain ⟨k, hk, rfl, HN, HA⟩ := hrel
    obtain ⟨⟨q0, q1, q2, q3⟩, ⟨f0, f1, f2, f3⟩, hB, hz⟩ := block4 HN.out
    have HB := Lib.hid hB
    clear hB
    by_cases hlt : k < t.length
    · obtain ⟨b, off, rfl, h0, h1, h2, h3, h4⟩ := HV.out.row HB.out k hlt
      obtain ⟨⟨c, ⟨x, y, z, st⟩⟩, hr⟩ : ∃ r, t.getD k Row.zero = r := ⟨_, rfl⟩
      rw [hr] at h0 h1 h2 h3 h4
      obtain ⟨e1, e2⟩ := diGet_at hlt hr key
      simp only at h0 h1 h2 h3 h4
      by_cases hc : c = key
      · have HR : Hid (diGet t key = (⟨x, y, z, st⟩, true)) := by show _ = _; rw [HA.out]; exact e1 hc
        subst hc
        clear e1 e2 hr
        have Q0 := Lib.hid q0
        have Q1 := Lib.hid q1
        have Q2 := Lib.hid q2
        have Q3 := Lib.hid q3
        go_wp2_with fail
        obtain ⟨r0, r1, r2, r3⟩ := four_set_alloc wr w.heap.size (.cells #[.string ⟨c.toArray⟩, .int .i64 x, .int .i64 y, .int .i64 z, .string ⟨st.toArray⟩] 48) (.int .i64 x) (.int .i64 y) (.int .i64 z) (.string ⟨st.toArray⟩) Q0.out Q1.out Q2.out Q3.out
        unfold set4 at r0 r1 r2 r3
        exact bodyPost_ret (v := pairG (⟨x, y, z, st⟩, true)) (by simp [results, Try.results26, go_sem, pairG, valV, r0, r1, r2, r3]) rfl ⟨by rw [HR.out], bl_alloc (set4_below HB.out _ (Nat.le_refl _) _ _ _ _) _⟩
      · have HA2 : Hid (diGet t key = diGet (t.drop (k + 1)) key) := by show _ = _; rw [HA.out]; exact e2 hc
        have t1 : (c == key) = false := by simpa using hc
        have HN2 := Lib.hid (HN.out.alloc HN.out.size (.cells #[.string ⟨c.toArray⟩, .int .i64 x, .int .i64 y, .int .i64 z, .string ⟨st.toArray⟩] 48))
        clear e1 e2 hr hc
        go_wp2_with fail
        go_roundw
        case rel => exact ⟨k + 1, by omega, by go_num, HN2, HA2⟩
        case measure => simp [intOf]; omega
    · obtain rfl : k = t.length := by omega
      have HR : Hid (diGet t key = (Val.zero, false)) := by show _ = _; rw [HA.out, List.drop_length]; rfl
      have Q0 := Lib.hid q0
      have Q1 := Lib.hid q1
      have Q2 := Lib.hid q2
      have Q3 := Lib.hid q3
      go_wp2_with fail
      obtain ⟨r0, r1, r2, r3⟩ := four_set wr w.heap.size (.int .i64 0) (.int .i64 0) (.int .i64 0) (.string ⟨#[]⟩) _ _ _ _ Q0.out Q1.out Q2.out Q3.out
      unfold set4 at r0 r1 r2 r3
      exact bodyPost_ret (v := pairG (Val.zero, false)) (by simp [results, Try.results26, go_sem, pairG, valV, Val.zero, r0, r1, r2, r3]) rfl ⟨by rw [HR.out], set4_below HB.out _ (Nat.le_refl _) _ _ _ _⟩

set_option maxHeartbeats 1600000 in
set_option maxRecDepth 100000 in
theorem rdiget_any {w : World} {v : Value} {t : List Row} (hv : Tab w v t) (key : List UInt8) :
    Calls Try.prog 27 #[v, .string ⟨key.toArray⟩] w fun e w' => e = .returned (pairG (diGet t key)) ∧ Below w.heap.size w w' := by
  have HV := Lib.hid hv
  obtain ⟨a, cap, rfl, hm⟩ := hv.open'
  clear hv
  go_enter Try.func27, Try.ntmps27
  go_wp2_with fail
  go_loopw [6] (fun i wr => ∃ k : Nat, k ≤ t.length ∧ i = .int .i64 k ∧ Hid (Below (w.alloc (.cells #[.int .i64 0, .int .i64 0, .int .i64 0, .string ⟨#[]⟩] 35)).heap.size (w.alloc (.cells #[.int .i64 0, .int .i64 0, .int .i64 0, .string ⟨#[]⟩] 35)) wr) ∧ Hid (diGet t key = diGet (t.drop k) key)) (fun i _ => t.length - (intOf i).toNat)
  case atStart => exact ⟨0, by omega, rfl, Below.refl _ _, rfl⟩
  case round =>
    obtain ⟨k, hk, rfl, HN, HA⟩ := hrel
    obtain ⟨⟨q0, q1, q2, q3⟩, ⟨f0, f1, f2, f3⟩, hB, hz⟩ := block4 HN.out
    have HB := Lib.hid hB
    clear hB
    by_cases hlt : k < t.length
    · obtain ⟨b, off, rfl, h0, h1, h2, h3, h4⟩ := HV.out.row HB.out k hlt
      obtain ⟨⟨c, ⟨x, y, z, st⟩⟩, hr⟩ : ∃ r, t.getD k Row.zero = r := ⟨_, rfl⟩
      rw [hr] at h0 h1 h2 h3 h4
      obtain ⟨e1, e2⟩ := diGet_at hlt hr key
      simp only at h0 h1 h2 h3 h4
      by_cases hc : c = key
      · have HR : Hid (diGet t key = (⟨x, y, z, st⟩, true)) := by show _ = _; rw [HA.out]; exact e1 hc
        subst hc
        clear e1 e2 hr
        have Q0 := Lib.hid q0
        have Q1 := Lib.hid q1
        have Q2 := Lib.hid q2
        have Q3 := Lib.hid q3
        go_wp2_with fail
        obtain ⟨r0, r1, r2, r3⟩ := four_set wr w.heap.size (.int .i64 x) (.int .i64 y) (.int .i64 z) (.string ⟨st.toArray⟩) _ _ _ _ Q0.out Q1.out Q2.out Q3.out
        unfold set4 at r0 r1 r2 r3
        exact bodyPost_ret (v := pairG (⟨x, y, z, st⟩, true)) (by simp [results, Try.results27, go_sem, pairG, valV, r0, r1, r2, r3]) rfl ⟨by rw [HR.out], set4_below HB.out _ (Nat.le_refl _) _ _ _ _⟩
      · have HA2 : Hid (diGet t key = diGet (t.drop (k + 1)) key) := by show _ = _; rw [HA.out]; exact e2 hc
        have t1 : (c == key) = false := by simpa using hc
        clear e1 e2 hr hc
        go_wp2_with fail
        go_roundw
        case rel => exact ⟨k + 1, by omega, by go_num, HN, HA2⟩
        case measure => simp [intOf]; omega
    · obtain rfl : k = t.length := by omega
      have HR : Hid (diGet t key = (Val.zero, false)) := by show _ = _; rw [HA.out, List.drop_length]; rfl
      have Q0 := Lib.hid q0
      have Q1 := Lib.hid q1
      have Q2 := Lib.hid q2
      have Q3 := Lib.hid q3
      go_wp2_with fail
      obtain ⟨r0, r1, r2, r3⟩ := four_set wr w.heap.size (.int .i64 0) (.int .i64 0) (.int .i64 0) (.string ⟨#[]⟩) _ _ _ _ Q0.out Q1.out Q2.out Q3.out
      unfold set4 at r0 r1 r2 r3
      exact bodyPost_ret (v := pairG (Val.zero, false)) (by simp [results, Try.results27, go_sem, pairG, valV, Val.zero, r0, r1, r2, r3]) rfl ⟨by rw [HR.out], set4_below HB.out _ (Nat.le_refl _) _ _ _ _⟩

theorem diget_eq {w : World} {v : Value} {t : List Row} (hv : Tab w v t) (key : List UInt8) {x y z : Int} {st : List UInt8} {b : Bool} (h : Hid (diGet t key = (⟨x, y, z, st⟩, b))) :
    Calls Try.prog 26 #[v, .string ⟨key.toArray⟩] w fun e w' => e = .returned (.tuple #[.agg #[.int .i64 x, .int .i64 y, .int .i64 z, .string ⟨st.toArray⟩], .bool b]) ∧ Below w.heap.size w w' := by
  have := diget_any hv key
  rwa [h.out] at this

theorem rdiget_eq {w : World} {v : Value} {t : List Row} (hv : Tab w v t) (key : List UInt8) {x y z : Int} {st : List UInt8} {b : Bool} (h : Hid (diGet t key = (⟨x, y, z, st⟩, b))) :
    Calls Try.prog 27 #[v, .string ⟨key.toArray⟩] w fun e w' => e = .returned (.tuple #[.agg #[.int .i64 x, .int .i64 y, .int .i64 z, .string ⟨st.toArray⟩], .bool b]) ∧ Below w.heap.size w w' := by
  have := rdiget_any hv key
  rwa [h.out] at this

end Go.Proofs.Ytocjeehoghfnmaa
