/-
  THE WALK OF ValueTakes, out of the contracts.
-/
import Derived.Test.YtmbgdkelghoghaaDoorValLive
namespace Go.Proofs.YtmbgdkelghoghaaDoor
open Go.RowKit

theorem val_same (a b c : Int) (s : List UInt8) (w : World) :
    (binOp .eql 23 (.agg #[.int .i64 a, .int .i64 b, .int .i64 c, .string ⟨s.toArray⟩]) (.agg #[.int .i64 a, .int .i64 b, .int .i64 c, .string ⟨s.toArray⟩])).run Tryd.prog w = .ok (.bool true) w := by
  rw [val_eql, vaEq_iff.2 rfl]

/-- A new block of four cells, and whatever came behind it. -/
theorem one_block {w w1 : World} {a b c d : Value} {t1 : TypeId} (hb : Below (w.alloc (.cells #[a, b, c, d] t1)).heap.size (w.alloc (.cells #[a, b, c, d] t1)) w1) :
    w1.cell? ⟨w.heap.size, 0, none⟩ = some a ∧ w1.cell? ⟨w.heap.size, 1, none⟩ = some b ∧ w1.cell? ⟨w.heap.size, 2, none⟩ = some c ∧ w1.cell? ⟨w.heap.size, 3, none⟩ = some d :=
  keep4 hb (four_cells w a b c d t1)

set_option maxHeartbeats 800000 in
set_option maxRecDepth 1000000 in
theorem walkValueTakes {w : World} (hL : Laid w) (l : List UInt8) (_hl : l.length ≤ maxLen) (p : Int) (_ : (Lit.int .i64 p).wf = true) :
    Calls Tryd.prog 4 #[.string ⟨l.toArray⟩, .int .i64 p] w fun e w' => e = .returned (.bool true) ∧ Below w.heap.size w w' := by
  unfold maxLen at _hl
  by_cases h : 300 < l.length
  · go_enter Tryd.func4, Tryd.ntmps4
    go_wp2_with fail
    refine (live4 _ hL).mono ?_
    rintro e w3 ⟨rfl, hb3⟩
    go_wp2_with fail
    go_ret
    exact ⟨rfl, hb3⟩
  · have hl : l.length ≤ 4294967296 := by omega
    obtain ⟨a, b, c, t, f, er, ht⟩ : ∃ a b c t f er, Hid (vaTake l p = (⟨a, b, c, t⟩, f, er)) := ⟨_, _, _, _, _, _, rfl⟩
    have hgd : Tryd.prog.eqGuardType Tryd.prog.depth 23 = false := by kernel_rfl
    have heq := val_same a b c t
    go_enter Tryd.func4, Tryd.ntmps4
    go_wp2_with fail
    refine (vatake_eq l hl p ht _).mono ?_
    rintro e w1 ⟨rfl, hb1⟩
    have B1 := Lib.hid hb1
    clear hb1
    go_wp2_with fail
    refine (rvatake_eq l hl p ht _).mono ?_
    rintro e w2 ⟨rfl, hb2⟩
    have B2 := Lib.hid (below2' (bl_alloc B1.out _) hb2)
    obtain ⟨k0, k1, k2, k3⟩ := one_block hb2
    have hz := World.block_lt_of_cell? w2 _ k0
    simp only at hz
    have HL := Lib.hid (hL.later (bl_alloc B2.out (.cells #[.int .i64 a, .int .i64 b, .int .i64 c, .string ⟨t.toArray⟩] 23)))
    clear hb2 hL
    go_wp2_with fail
    refine (live4 _ HL.out).mono ?_
    rintro e w3 ⟨rfl, hb3⟩
    have B3 := Lib.hid (below2' (bl_alloc B2.out _) hb3)
    clear hb3 k0 k1 k2 k3
    go_wp2_with fail
    go_ret
    exact ⟨rfl, B3.out⟩

end Go.Proofs.YtmbgdkelghoghaaDoor
