/-
  THE WALK OF IdentOrder, out of the contracts.
-/
import Derived.Test.YtmbgdkelghoghaaIdLive
namespace Go.Proofs.Ytmbgdkelghoghaa
open Go.RowKit

theorem three_box (w : World) (o : Obj) : Below w.heap.size w (w.alloc o).drew := ((Below.refl _ _).alloc (Nat.le_refl _) _).drew

set_option maxHeartbeats 1600000 in
set_option maxRecDepth 1000000 in
theorem identOrder_first {w : World} (a b c : List UInt8) (_ha : a.length ≤ 100) (_hb : b.length ≤ 100) (_hc : c.length ≤ 100) (h1 : Hid (idLess a b = true)) (h2 : Hid (idLess b a = false)) (hq : (a == b) = false)
    (r : Bool) (h3 : Hid (idLess b c = r)) (h4 : r = true → Hid (idLess a c = true)) :
    Calls Try.prog 7 #[.agg #[.string ⟨a.toArray⟩, .string ⟨b.toArray⟩, .string ⟨c.toArray⟩]] w fun e w' => e = .returned (.bool true) ∧ Below w.heap.size w w' := by
  go_enter Try.func7, Try.ntmps7
  go_wp2_with fail
  go_region
  go_wp2_with fail
  refine (less_eq a b h1 _).mono ?_
  rintro e w1 ⟨rfl, x⟩
  have B1 := Lib.hid (below2' (three_box _ _) x)
  clear x
  go_wp2_with fail
  refine (less_eq b a h2 _).mono ?_
  rintro e w2 ⟨rfl, x⟩
  have B2 := Lib.hid (below2' B1.out x)
  clear x B1
  go_wp2_with fail
  refine (less_eq a b h1 _).mono ?_
  rintro e w3 ⟨rfl, x⟩
  have B3 := Lib.hid (below2' B2.out x)
  clear x B2
  go_wp2_with fail
  cases r with
  | false =>
    refine (less_eq b c h3 _).mono ?_
    rintro e w4 ⟨rfl, x⟩
    have B4 := Lib.hid (below2' B3.out x)
    clear x B3
    go_wp2_with fail
    refine (live3 _).mono ?_
    rintro e w6 ⟨rfl, x⟩
    have B6 := Lib.hid (below2' B4.out x)
    clear x B4
    go_wp2_with fail
    go_ret
    exact ⟨rfl, B6.out⟩
  | true =>
    have H4 := h4 rfl
    clear h4
    refine (less_eq b c h3 _).mono ?_
    rintro e w4 ⟨rfl, x⟩
    have B4 := Lib.hid (below2' B3.out x)
    clear x B3
    go_wp2_with fail
    refine (less_eq a c H4 _).mono ?_
    rintro e w5 ⟨rfl, x⟩
    have B5 := Lib.hid (below2' B4.out x)
    clear x B4
    go_wp2_with fail
    refine (live3 _).mono ?_
    rintro e w6 ⟨rfl, x⟩
    have B6 := Lib.hid (below2' B5.out x)
    clear x B5
    go_wp2_with fail
    go_ret
    exact ⟨rfl, B6.out⟩

set_option maxHeartbeats 1600000 in
set_option maxRecDepth 1000000 in
theorem identOrder_behind {w : World} (a b c : List UInt8) (_ha : a.length ≤ 100) (_hb : b.length ≤ 100) (_hc : c.length ≤ 100) (h1 : Hid (idLess a b = false)) (h2 : Hid (idLess b a = true)) (hq : (a == b) = false) :
    Calls Try.prog 7 #[.agg #[.string ⟨a.toArray⟩, .string ⟨b.toArray⟩, .string ⟨c.toArray⟩]] w fun e w' => e = .returned (.bool true) ∧ Below w.heap.size w w' := by
  go_enter Try.func7, Try.ntmps7
  go_wp2_with fail
  go_region
  go_wp2_with fail
  refine (less_eq a b h1 _).mono ?_
  rintro e w1 ⟨rfl, x⟩
  have B1 := Lib.hid (below2' (three_box _ _) x)
  clear x
  go_wp2_with fail
  refine (less_eq b a h2 _).mono ?_
  rintro e w2 ⟨rfl, x⟩
  have B2 := Lib.hid (below2' B1.out x)
  clear x B1
  go_wp2_with fail
  refine (less_eq a b h1 _).mono ?_
  rintro e w3 ⟨rfl, x⟩
  have B3 := Lib.hid (below2' B2.out x)
  clear x B2
  go_wp2_with fail
  refine (live3 _).mono ?_
  rintro e w6 ⟨rfl, x⟩
  have B6 := Lib.hid (below2' B3.out x)
  clear x B3
  go_wp2_with fail
  go_ret
  exact ⟨rfl, B6.out⟩

set_option maxHeartbeats 1600000 in
set_option maxRecDepth 1000000 in
theorem identOrder_same {w : World} (a c : List UInt8) (_ha : a.length ≤ 100) (_hc : c.length ≤ 100) (h1 : Hid (idLess a a = false)) :
    Calls Try.prog 7 #[.agg #[.string ⟨a.toArray⟩, .string ⟨a.toArray⟩, .string ⟨c.toArray⟩]] w fun e w' => e = .returned (.bool true) ∧ Below w.heap.size w w' := by
  go_enter Try.func7, Try.ntmps7
  go_wp2_with fail
  go_region
  go_wp2_with fail
  refine (less_eq a a h1 _).mono ?_
  rintro e w1 ⟨rfl, x⟩
  have B1 := Lib.hid (below2' (three_box _ _) x)
  clear x
  go_wp2_with fail
  refine (less_eq a a h1 _).mono ?_
  rintro e w2 ⟨rfl, x⟩
  have B2 := Lib.hid (below2' B1.out x)
  clear x B1
  go_wp2_with fail
  refine (less_eq a a h1 _).mono ?_
  rintro e w3 ⟨rfl, x⟩
  have B3 := Lib.hid (below2' B2.out x)
  clear x B2
  go_wp2_with fail
  refine (live3 _).mono ?_
  rintro e w6 ⟨rfl, x⟩
  have B6 := Lib.hid (below2' B3.out x)
  clear x B3
  go_wp2_with fail
  go_ret
  exact ⟨rfl, B6.out⟩

set_option maxHeartbeats 1600000 in
set_option maxRecDepth 1000000 in
theorem walkIdentOrder3 {w : World} (a b c : List UInt8) (_ha : a.length ≤ maxLen) (_hb : b.length ≤ maxLen) (_hc : c.length ≤ maxLen) :
    Calls Try.prog 7 #[.agg #[.string ⟨a.toArray⟩, .string ⟨b.toArray⟩, .string ⟨c.toArray⟩]] w fun e w' => e = .returned (.bool true) ∧ Below w.heap.size w w' := by
  unfold maxLen at _ha _hb _hc
  have hcase : 100 < a.length ∨ (a.length ≤ 100 ∧ 100 < b.length) ∨ (a.length ≤ 100 ∧ b.length ≤ 100 ∧ 100 < c.length) ∨ (a.length ≤ 100 ∧ b.length ≤ 100 ∧ c.length ≤ 100) := by omega
  rcases hcase with h1 | ⟨h1, h2⟩ | ⟨h1, h2, h3⟩ | ⟨h1, h2, h3⟩
  case inr.inr.inr =>
    rcases idLess_tri a b with ⟨e1, e2, e3⟩ | ⟨e1, e2, e3⟩ | ⟨e1, e2, rfl⟩
    · refine identOrder_first a b c h1 h2 h3 e1 e2 (by simpa using e3) _ (Lib.hid rfl) (fun h => Lib.hid (idLess_trans e1 h))
    · exact identOrder_behind a b c h1 h2 h3 e1 e2 (by simpa using e3)
    · exact identOrder_same a c h1 h3 e1
  all_goals
    go_enter Try.func7, Try.ntmps7
    go_wp2_with fail
    go_region
    go_wp2_with fail
    refine (live3 _).mono ?_
    rintro e w6 ⟨rfl, x⟩
    have B6 := Lib.hid (below2' (three_box _ _) x)
    clear x
    go_wp2_with fail
    go_ret
    exact ⟨rfl, B6.out⟩

theorem walkIdentOrder {w : World} (zs : List (List UInt8)) (h : zs.length = 3 ∧ ∀ z ∈ zs, z.length ≤ maxLen) :
    Calls Try.prog 7 #[.agg (zs.map (fun z => Value.string ⟨z.toArray⟩)).toArray] w fun e w' => e = .returned (.bool true) ∧ Below w.heap.size w w' := by
  match zs, h with
  | [a, b, c], ⟨_, h⟩ => exact walkIdentOrder3 a b c (h a (by simp)) (h b (by simp)) (h c (by simp))

end Go.Proofs.Ytmbgdkelghoghaa
