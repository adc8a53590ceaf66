/-
  THE WALK OF HeapNil.
-/
import Derived.Test.YtfnlmckcedembabHeaLive
namespace Go.Proofs.Ytfnlmckcedembab
open Go.RowKit

theorem three {α : Type} {l : List α} (h : l.length = 3) : ∃ a b c, l = [a, b, c] := by
  match l, h with
  | [a, b, c], _ => exact ⟨a, b, c, rfl⟩

set_option maxHeartbeats 3200000 in
set_option maxRecDepth 100000 in
theorem walkHeapNil {w : World} (id : Int) (_hid : (Lit.int .i64 id).wf = true) (zs : List Int) (hz : zs.length = 3 ∧ ∀ z ∈ zs, (Lit.int .i64 z).wf = true) :
    Calls Try.prog 7 #[.int .i64 id, .agg (zs.map (Value.int .i64)).toArray] w fun e w' => e = .returned (.bool true) ∧ Below w.heap.size w w' := by
  obtain ⟨r0, r1, r2, rfl⟩ := three hz.1
  simp only [List.map_cons, List.map_nil]
  clear hz
  have hx := cellsAt_made (w := w) (cs := #[.int .i64 r0, .int .i64 r1, .int .i64 r2]) (vs := [.int .i64 r0, .int .i64 r1, .int .i64 r2]) rfl 30 rfl
  have X0 := Lib.hid hx
  have B0 := Lib.hid (bl_newZ w (.cells #[.int .i64 r0, .int .i64 r1, .int .i64 r2] 30))
  clear hx
  go_enter Try.func7, Try.ntmps7
  go_wp2_with fail
  refine (top_nil _).mono ?_
  rintro e w1 ⟨rfl, b1⟩
  have b1' := bl_allocZ b1 (.cells #[.int .i64 0, .int .i64 0, .int .i64 0, .int .i64 0] 33)
  have B1 := Lib.hid (below2Z B0.out b1')
  have X1 := Lib.hid (X0.out.later b1')
  clear b1 b1'
  go_wp2_with fail
  generalize hW1 : w1.alloc (.cells #[.int .i64 0, .int .i64 0, .int .i64 0, .int .i64 0] 33) = w2 at B1 X1 ⊢
  clear hW1
  refine (get_nil id _).mono ?_
  rintro e w3 ⟨rfl, b3⟩
  have b3' := bl_allocZ b3 (.cells #[.int .i64 0, .int .i64 0, .int .i64 0] 31)
  have B3 := Lib.hid (below2Z B1.out b3')
  have X3 := Lib.hid (X1.out.later b3')
  obtain ⟨x0, x1, x2⟩ : _ ∧ _ ∧ _ := ⟨X3.out 0 _ rfl, X3.out 1 _ rfl, X3.out 2 _ rfl⟩
  simp only [Nat.zero_add] at x0 x1 x2
  clear b3 b3'
  go_wp2_with fail
  generalize hW3 : w3.alloc (.cells #[.int .i64 0, .int .i64 0, .int .i64 0] 31) = w4 at B3 X3 x0 x1 x2 ⊢
  clear hW3
  refine (put_nil id r0 r1 r2 _).mono ?_
  rintro e w5 ⟨rfl, b5⟩
  have B5 := Lib.hid (below2Z B3.out b5)
  clear b5 x0 x1 x2
  go_wp2_with fail
  refine (drop_nil id _).mono ?_
  rintro e w6 ⟨rfl, b6⟩
  have B6 := Lib.hid (below2Z B5.out b6)
  clear b6
  go_wp2_with fail
  refine (slots_nil _).mono ?_
  rintro e w7 ⟨rfl, rfl⟩
  go_wp2_with fail
  refine (len_nil _).mono ?_
  rintro e w7 ⟨rfl, rfl⟩
  go_wp2_with fail
  refine (live10 _).mono ?_
  rintro e w8 ⟨rfl, b8⟩
  have B8 := Lib.hid (below2Z B6.out b8)
  clear b8
  go_wp2_with fail
  go_ret
  exact ⟨rfl, B8.out⟩

end Go.Proofs.Ytfnlmckcedembab
