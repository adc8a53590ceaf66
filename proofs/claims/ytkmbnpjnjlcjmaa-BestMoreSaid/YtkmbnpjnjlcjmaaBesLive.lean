/-
  LAYER 11: what the law says is alive.
-/
import Derived.Test.YtkmbnpjnjlcjmaaBesVal
import Derived.Test.YtkmbnpjnjlcjmaaBesWor
import Derived.Test.YtkmbnpjnjlcjmaaHeaEq
namespace Go.Proofs.Ytkmbnpjnjlcjmaa
open Go.RowKit

theorem val_eql (a b c a' b' c' : Int) (s s' : List UInt8) (w : World) : (binOp .eql 32 (.agg #[.int .i64 a, .int .i64 b, .int .i64 c, .string ⟨s.toArray⟩]) (.agg #[.int .i64 a', .int .i64 b', .int .i64 c', .string ⟨s'.toArray⟩])).run Try.prog w = .ok (.bool (valSame ⟨a, b, c, s⟩ ⟨a', b', c', s'⟩)) w := by
  rw [run_eql_struct, show (10000 : Nat) = 9998 + 1 + 1 from rfl, val_eqInS 9998]
  rfl

def lvA : Ses := ⟨[97], 1, ⟨2, 5, 3, [120]⟩⟩
def lvB : Ses := ⟨[97], 0, ⟨4, 1, 9, []⟩⟩

theorem fit_lv : ∀ s ∈ [lvB, lvA], SesFit s := by
  intro s hs
  simp only [List.mem_cons, List.not_mem_nil, or_false] at hs
  rcases hs with rfl | rfl <;> exact ⟨by decide, by decide, by decide, by decide⟩

theorem lv_value (w : World) (B : Nat) (hB : B = w.heap.size) : Calls Try.prog 32 #[.slice (some ⟨B, 0, none⟩) 2 2] (w.alloc (.cells #[.string ⟨#[97]⟩, .int .i64 0, .int .i64 4, .int .i64 1, .int .i64 9, .string ⟨#[]⟩, .string ⟨#[97]⟩, .int .i64 1, .int .i64 2, .int .i64 5, .int .i64 3, .string ⟨#[120]⟩] 34)) fun e w' => e = .returned (.tuple #[.agg #[.int .i64 4, .int .i64 5, .int .i64 3, .string ⟨#[120]⟩], .bool true]) ∧ Below (w.alloc (.cells #[.string ⟨#[97]⟩, .int .i64 0, .int .i64 4, .int .i64 1, .int .i64 9, .string ⟨#[]⟩, .string ⟨#[97]⟩, .int .i64 1, .int .i64 2, .int .i64 5, .int .i64 3, .string ⟨#[120]⟩] 34)).heap.size (w.alloc (.cells #[.string ⟨#[97]⟩, .int .i64 0, .int .i64 4, .int .i64 1, .int .i64 9, .string ⟨#[]⟩, .string ⟨#[97]⟩, .int .i64 1, .int .i64 2, .int .i64 5, .int .i64 3, .string ⟨#[120]⟩] 34)) w' :=
  bvalue_yes (rdS_made sesOK (l := [lvB, lvA]) rfl (by decide) hB) fit_lv (by decide) (by rfl)

theorem lv_best (w : World) (B : Nat) (hB : B = w.heap.size) : Calls Try.prog 64 #[.slice (some ⟨B, 0, none⟩) 2 2] (w.alloc (.cells #[.string ⟨#[97]⟩, .int .i64 0, .int .i64 4, .int .i64 1, .int .i64 9, .string ⟨#[]⟩, .string ⟨#[97]⟩, .int .i64 1, .int .i64 2, .int .i64 5, .int .i64 3, .string ⟨#[120]⟩] 34)) fun e w' => e = .returned (.tuple #[.agg #[.string ⟨#[97]⟩, .int .i64 1, .int .i64 2, .int .i64 5, .int .i64 3, .string ⟨#[120]⟩], .bool true]) ∧ Below (w.alloc (.cells #[.string ⟨#[97]⟩, .int .i64 0, .int .i64 4, .int .i64 1, .int .i64 9, .string ⟨#[]⟩, .string ⟨#[97]⟩, .int .i64 1, .int .i64 2, .int .i64 5, .int .i64 3, .string ⟨#[120]⟩] 34)).heap.size (w.alloc (.cells #[.string ⟨#[97]⟩, .int .i64 0, .int .i64 4, .int .i64 1, .int .i64 9, .string ⟨#[]⟩, .string ⟨#[97]⟩, .int .i64 1, .int .i64 2, .int .i64 5, .int .i64 3, .string ⟨#[120]⟩] 34)) w' :=
  best_yes (rdS_made sesOK (l := [lvB, lvA]) rfl (by decide) hB) fit_lv (by decide) (by rfl)

set_option maxHeartbeats 3200000 in
set_option maxRecDepth 100000 in
theorem live11 (w : World) : Calls Try.prog 31 #[] w fun e w' => e = .returned (.bool true) ∧ Below w.heap.size w w' := by
  have HWo1 := Lib.hid (bworth_eq 4 1 9 2 5 3 [] [120] (by decide) (by decide) (by decide) (by decide) (r := 1) (by decide))
  have HWo2 := Lib.hid (bworth_eq 2 5 3 4 1 9 [120] [] (by decide) (by decide) (by decide) (by decide) (r := -1) (by decide))
  have HWo3 := Lib.hid (bworth_eq 2 5 3 2 5 3 [120] [120] (by decide) (by decide) (by decide) (by decide) (r := 0) (by decide))
  have HSl := Lib.hid (bslot_any [97] [120] 1 2 5 3)
  have HSh := Lib.hid (bshown_any [97] [120] 1 2 5 3)
  have e1 : ∀ w, (binOp .eql 32 (.agg #[.int .i64 4, .int .i64 5, .int .i64 3, .string ⟨#[120]⟩]) (.agg #[.int .i64 4, .int .i64 5, .int .i64 3, .string ⟨#[120]⟩])).run Try.prog w = .ok (.bool true) w := fun w => val_eql 4 5 3 4 5 3 [120] [120] w
  have e2 : ∀ w, (binOp .eql 34 (.agg #[.string ⟨#[97]⟩, .int .i64 1, .int .i64 2, .int .i64 5, .int .i64 3, .string ⟨#[120]⟩]) (.agg #[.string ⟨#[97]⟩, .int .i64 1, .int .i64 2, .int .i64 5, .int .i64 3, .string ⟨#[120]⟩])).run Try.prog w = .ok (.bool true) w := fun w => ses_eql [97] [97] 1 2 5 3 1 2 5 3 [120] [120] w
  have e3 : ∀ w, (binOp .eql 92 (.agg #[.int .i64 1, .int .i64 5, .int .i64 3, .int .i64 0]) (.agg #[.int .i64 1, .int .i64 5, .int .i64 3, .int .i64 0])).run Try.prog w = .ok (.bool true) w := fun w => slot_eql 1 5 3 0 1 5 3 0 w
  have e4 : ∀ w, (binOp .eql 92 (.agg #[.int .i64 1, .int .i64 2, .int .i64 5, .int .i64 3]) (.agg #[.int .i64 1, .int .i64 2, .int .i64 5, .int .i64 3])).run Try.prog w = .ok (.bool true) w := fun w => slot_eql 1 2 5 3 1 2 5 3 w
  have HA := Lib.hid ((cellsAt_made (w := w) (cs := #[.string ⟨#[97]⟩, .int .i64 1, .int .i64 2, .int .i64 5, .int .i64 3, .string ⟨#[120]⟩]) (vs := [.string ⟨#[97]⟩, .int .i64 1, .int .i64 2, .int .i64 5, .int .i64 3, .string ⟨#[120]⟩]) rfl 34 rfl).later (bl_newZ _ (.cells #[.string ⟨#[97]⟩, .int .i64 0, .int .i64 4, .int .i64 1, .int .i64 9, .string ⟨#[]⟩] 34)))
  have HB := Lib.hid (cellsAt_made (w := w.alloc (.cells #[.string ⟨#[97]⟩, .int .i64 1, .int .i64 2, .int .i64 5, .int .i64 3, .string ⟨#[120]⟩] 34)) (cs := #[.string ⟨#[97]⟩, .int .i64 0, .int .i64 4, .int .i64 1, .int .i64 9, .string ⟨#[]⟩]) (vs := [.string ⟨#[97]⟩, .int .i64 0, .int .i64 4, .int .i64 1, .int .i64 9, .string ⟨#[]⟩]) rfl 34 (B := w.heap.size + 1) (by simp))
  have BB := Lib.hid (show Below w.heap.size w ((w.alloc (.cells #[.string ⟨#[97]⟩, .int .i64 1, .int .i64 2, .int .i64 5, .int .i64 3, .string ⟨#[120]⟩] 34)).alloc (.cells #[.string ⟨#[97]⟩, .int .i64 0, .int .i64 4, .int .i64 1, .int .i64 9, .string ⟨#[]⟩] 34)) from ((Below.refl _ _).alloc (Nat.le_refl _) _).alloc (by simp) _)
  go_enter Try.func31, Try.ntmps31
  go_wp2_with fail
  generalize hW0 : (w.alloc (.cells #[.string ⟨#[97]⟩, .int .i64 1, .int .i64 2, .int .i64 5, .int .i64 3, .string ⟨#[120]⟩] 34)).alloc (.cells #[.string ⟨#[97]⟩, .int .i64 0, .int .i64 4, .int .i64 1, .int .i64 9, .string ⟨#[]⟩] 34) = W0 at HA HB BB ⊢
  have hs0 : w.heap.size + 1 + 1 = W0.heap.size := by rw [← hW0]; simp
  clear hW0
  refine (lv_value W0 _ hs0).mono ?_
  rintro e w1 ⟨rfl, b1⟩
  have bb := bl_newZ w1 (.cells #[.int .i64 4, .int .i64 5, .int .i64 3, .string ⟨#[120]⟩] 32)
  have b2 := below2Z (below2Z (bl_newZ W0 (.cells #[.string ⟨#[97]⟩, .int .i64 0, .int .i64 4, .int .i64 1, .int .i64 9, .string ⟨#[]⟩, .string ⟨#[97]⟩, .int .i64 1, .int .i64 2, .int .i64 5, .int .i64 3, .string ⟨#[120]⟩] 34)) b1) bb
  replace HA := Lib.hid (HA.out.later b2)
  replace HB := Lib.hid (HB.out.later b2)
  replace BB := Lib.hid (below2Z BB.out b2)
  have H3 := Lib.hid (cellsAt_made (w := w1) (cs := #[.int .i64 4, .int .i64 5, .int .i64 3, .string ⟨#[120]⟩]) (vs := [.int .i64 4, .int .i64 5, .int .i64 3, .string ⟨#[120]⟩]) rfl 32 rfl)
  clear b1 bb b2
  have ha0 := HA.out 0 _ rfl
  have ha1 := HA.out 1 _ rfl
  have ha2 := HA.out 2 _ rfl
  have ha3 := HA.out 3 _ rfl
  have ha4 := HA.out 4 _ rfl
  have ha5 := HA.out 5 _ rfl
  simp only [Nat.zero_add] at ha0 ha1 ha2 ha3 ha4 ha5
  have hb0 := HB.out 0 _ rfl
  have hb1 := HB.out 1 _ rfl
  have hb2 := HB.out 2 _ rfl
  have hb3 := HB.out 3 _ rfl
  have hb4 := HB.out 4 _ rfl
  have hb5 := HB.out 5 _ rfl
  simp only [Nat.zero_add] at hb0 hb1 hb2 hb3 hb4 hb5
  have h30 := H3.out 0 _ rfl
  have h31 := H3.out 1 _ rfl
  have h32 := H3.out 2 _ rfl
  have h33 := H3.out 3 _ rfl
  simp only [Nat.zero_add] at h30 h31 h32 h33
  go_wp2_with fail
  generalize hW1 : w1.alloc (.cells #[.int .i64 4, .int .i64 5, .int .i64 3, .string ⟨#[120]⟩] 32) = W1 at HA HB H3 BB ⊢
  clear ha0 ha1 ha2 ha3 ha4 ha5 hb0 hb1 hb2 hb3 hb4 hb5 h30 h31 h32 h33
  have hs1 : w1.heap.size + 1 = W1.heap.size := by rw [← hW1]; simp
  clear hW1
  refine (lv_best W1 _ hs1).mono ?_
  rintro e w2 ⟨rfl, b1⟩
  have bb := bl_newZ w2 (.cells #[.string ⟨#[97]⟩, .int .i64 1, .int .i64 2, .int .i64 5, .int .i64 3, .string ⟨#[120]⟩] 34)
  have b2 := below2Z (below2Z (bl_newZ W1 (.cells #[.string ⟨#[97]⟩, .int .i64 0, .int .i64 4, .int .i64 1, .int .i64 9, .string ⟨#[]⟩, .string ⟨#[97]⟩, .int .i64 1, .int .i64 2, .int .i64 5, .int .i64 3, .string ⟨#[120]⟩] 34)) b1) bb
  replace HA := Lib.hid (HA.out.later b2)
  replace HB := Lib.hid (HB.out.later b2)
  replace H3 := Lib.hid (H3.out.later b2)
  replace BB := Lib.hid (below2Z BB.out b2)
  have H5 := Lib.hid (cellsAt_made (w := w2) (cs := #[.string ⟨#[97]⟩, .int .i64 1, .int .i64 2, .int .i64 5, .int .i64 3, .string ⟨#[120]⟩]) (vs := [.string ⟨#[97]⟩, .int .i64 1, .int .i64 2, .int .i64 5, .int .i64 3, .string ⟨#[120]⟩]) rfl 34 rfl)
  clear b1 bb b2
  go_wp2_with fail
  generalize hW2 : w2.alloc (.cells #[.string ⟨#[97]⟩, .int .i64 1, .int .i64 2, .int .i64 5, .int .i64 3, .string ⟨#[120]⟩] 34) = W2 at HA HB H3 H5 BB ⊢
  clear hW2
  refine (bvalue_no (rdS_nil _)).mono ?_
  rintro e w3 ⟨rfl, b1⟩
  have bb := bl_newZ w3 (.cells #[.int .i64 0, .int .i64 0, .int .i64 0, .string ⟨#[]⟩] 32)
  have b2 := below2Z (b1) bb
  replace HA := Lib.hid (HA.out.later b2)
  replace HB := Lib.hid (HB.out.later b2)
  replace H3 := Lib.hid (H3.out.later b2)
  replace H5 := Lib.hid (H5.out.later b2)
  replace BB := Lib.hid (below2Z BB.out b2)
  clear b1 bb b2
  have ha0 := HA.out 0 _ rfl
  have ha1 := HA.out 1 _ rfl
  have ha2 := HA.out 2 _ rfl
  have ha3 := HA.out 3 _ rfl
  have ha4 := HA.out 4 _ rfl
  have ha5 := HA.out 5 _ rfl
  simp only [Nat.zero_add] at ha0 ha1 ha2 ha3 ha4 ha5
  have hb0 := HB.out 0 _ rfl
  have hb1 := HB.out 1 _ rfl
  have hb2 := HB.out 2 _ rfl
  have hb3 := HB.out 3 _ rfl
  have hb4 := HB.out 4 _ rfl
  have hb5 := HB.out 5 _ rfl
  simp only [Nat.zero_add] at hb0 hb1 hb2 hb3 hb4 hb5
  have h30 := H3.out 0 _ rfl
  have h31 := H3.out 1 _ rfl
  have h32 := H3.out 2 _ rfl
  have h33 := H3.out 3 _ rfl
  simp only [Nat.zero_add] at h30 h31 h32 h33
  have h50 := H5.out 0 _ rfl
  have h51 := H5.out 1 _ rfl
  have h52 := H5.out 2 _ rfl
  have h53 := H5.out 3 _ rfl
  have h54 := H5.out 4 _ rfl
  have h55 := H5.out 5 _ rfl
  simp only [Nat.zero_add] at h50 h51 h52 h53 h54 h55
  go_wp2_with fail
  generalize w3.alloc (.cells #[.int .i64 0, .int .i64 0, .int .i64 0, .string ⟨#[]⟩] 32) = W3 at HA HB H3 H5 BB ⊢
  clear ha0 ha1 ha2 ha3 ha4 ha5 hb0 hb1 hb2 hb3 hb4 hb5 h30 h31 h32 h33 h50 h51 h52 h53 h54 h55
  refine (HSl.out _).mono ?_
  rintro e v0 ⟨rfl, b1⟩
  have b2 := b1
  replace HA := Lib.hid (HA.out.later b2)
  replace HB := Lib.hid (HB.out.later b2)
  replace H3 := Lib.hid (H3.out.later b2)
  replace H5 := Lib.hid (H5.out.later b2)
  replace BB := Lib.hid (below2Z BB.out b2)
  clear b1 b2
  have ha0 := HA.out 0 _ rfl
  have ha1 := HA.out 1 _ rfl
  have ha2 := HA.out 2 _ rfl
  have ha3 := HA.out 3 _ rfl
  have ha4 := HA.out 4 _ rfl
  have ha5 := HA.out 5 _ rfl
  simp only [Nat.zero_add] at ha0 ha1 ha2 ha3 ha4 ha5
  have hb0 := HB.out 0 _ rfl
  have hb1 := HB.out 1 _ rfl
  have hb2 := HB.out 2 _ rfl
  have hb3 := HB.out 3 _ rfl
  have hb4 := HB.out 4 _ rfl
  have hb5 := HB.out 5 _ rfl
  simp only [Nat.zero_add] at hb0 hb1 hb2 hb3 hb4 hb5
  have h30 := H3.out 0 _ rfl
  have h31 := H3.out 1 _ rfl
  have h32 := H3.out 2 _ rfl
  have h33 := H3.out 3 _ rfl
  simp only [Nat.zero_add] at h30 h31 h32 h33
  have h50 := H5.out 0 _ rfl
  have h51 := H5.out 1 _ rfl
  have h52 := H5.out 2 _ rfl
  have h53 := H5.out 3 _ rfl
  have h54 := H5.out 4 _ rfl
  have h55 := H5.out 5 _ rfl
  simp only [Nat.zero_add] at h50 h51 h52 h53 h54 h55
  go_wp2_with fail
  clear ha0 ha1 ha2 ha3 ha4 ha5 hb0 hb1 hb2 hb3 hb4 hb5 h30 h31 h32 h33 h50 h51 h52 h53 h54 h55
  refine (HSh.out _).mono ?_
  rintro e v1 ⟨rfl, b1⟩
  have b2 := b1
  replace HA := Lib.hid (HA.out.later b2)
  replace HB := Lib.hid (HB.out.later b2)
  replace H3 := Lib.hid (H3.out.later b2)
  replace H5 := Lib.hid (H5.out.later b2)
  replace BB := Lib.hid (below2Z BB.out b2)
  clear b1 b2
  have ha0 := HA.out 0 _ rfl
  have ha1 := HA.out 1 _ rfl
  have ha2 := HA.out 2 _ rfl
  have ha3 := HA.out 3 _ rfl
  have ha4 := HA.out 4 _ rfl
  have ha5 := HA.out 5 _ rfl
  simp only [Nat.zero_add] at ha0 ha1 ha2 ha3 ha4 ha5
  have hb0 := HB.out 0 _ rfl
  have hb1 := HB.out 1 _ rfl
  have hb2 := HB.out 2 _ rfl
  have hb3 := HB.out 3 _ rfl
  have hb4 := HB.out 4 _ rfl
  have hb5 := HB.out 5 _ rfl
  simp only [Nat.zero_add] at hb0 hb1 hb2 hb3 hb4 hb5
  have h30 := H3.out 0 _ rfl
  have h31 := H3.out 1 _ rfl
  have h32 := H3.out 2 _ rfl
  have h33 := H3.out 3 _ rfl
  simp only [Nat.zero_add] at h30 h31 h32 h33
  have h50 := H5.out 0 _ rfl
  have h51 := H5.out 1 _ rfl
  have h52 := H5.out 2 _ rfl
  have h53 := H5.out 3 _ rfl
  have h54 := H5.out 4 _ rfl
  have h55 := H5.out 5 _ rfl
  simp only [Nat.zero_add] at h50 h51 h52 h53 h54 h55
  go_wp2_with fail
  clear ha0 ha1 ha2 ha3 ha4 ha5 hb0 hb1 hb2 hb3 hb4 hb5 h30 h31 h32 h33 h50 h51 h52 h53 h54 h55
  refine (HWo1.out _).mono ?_
  rintro e v2 ⟨rfl, b1⟩
  have b2 := b1
  replace HA := Lib.hid (HA.out.later b2)
  replace HB := Lib.hid (HB.out.later b2)
  replace H3 := Lib.hid (H3.out.later b2)
  replace H5 := Lib.hid (H5.out.later b2)
  replace BB := Lib.hid (below2Z BB.out b2)
  clear b1 b2
  have ha0 := HA.out 0 _ rfl
  have ha1 := HA.out 1 _ rfl
  have ha2 := HA.out 2 _ rfl
  have ha3 := HA.out 3 _ rfl
  have ha4 := HA.out 4 _ rfl
  have ha5 := HA.out 5 _ rfl
  simp only [Nat.zero_add] at ha0 ha1 ha2 ha3 ha4 ha5
  have hb0 := HB.out 0 _ rfl
  have hb1 := HB.out 1 _ rfl
  have hb2 := HB.out 2 _ rfl
  have hb3 := HB.out 3 _ rfl
  have hb4 := HB.out 4 _ rfl
  have hb5 := HB.out 5 _ rfl
  simp only [Nat.zero_add] at hb0 hb1 hb2 hb3 hb4 hb5
  have h30 := H3.out 0 _ rfl
  have h31 := H3.out 1 _ rfl
  have h32 := H3.out 2 _ rfl
  have h33 := H3.out 3 _ rfl
  simp only [Nat.zero_add] at h30 h31 h32 h33
  have h50 := H5.out 0 _ rfl
  have h51 := H5.out 1 _ rfl
  have h52 := H5.out 2 _ rfl
  have h53 := H5.out 3 _ rfl
  have h54 := H5.out 4 _ rfl
  have h55 := H5.out 5 _ rfl
  simp only [Nat.zero_add] at h50 h51 h52 h53 h54 h55
  go_wp2_with fail
  clear ha0 ha1 ha2 ha3 ha4 ha5 hb0 hb1 hb2 hb3 hb4 hb5 h30 h31 h32 h33 h50 h51 h52 h53 h54 h55
  refine (HWo2.out _).mono ?_
  rintro e v3 ⟨rfl, b1⟩
  have b2 := b1
  replace HA := Lib.hid (HA.out.later b2)
  replace HB := Lib.hid (HB.out.later b2)
  replace H3 := Lib.hid (H3.out.later b2)
  replace H5 := Lib.hid (H5.out.later b2)
  replace BB := Lib.hid (below2Z BB.out b2)
  clear b1 b2
  have ha0 := HA.out 0 _ rfl
  have ha1 := HA.out 1 _ rfl
  have ha2 := HA.out 2 _ rfl
  have ha3 := HA.out 3 _ rfl
  have ha4 := HA.out 4 _ rfl
  have ha5 := HA.out 5 _ rfl
  simp only [Nat.zero_add] at ha0 ha1 ha2 ha3 ha4 ha5
  have hb0 := HB.out 0 _ rfl
  have hb1 := HB.out 1 _ rfl
  have hb2 := HB.out 2 _ rfl
  have hb3 := HB.out 3 _ rfl
  have hb4 := HB.out 4 _ rfl
  have hb5 := HB.out 5 _ rfl
  simp only [Nat.zero_add] at hb0 hb1 hb2 hb3 hb4 hb5
  have h30 := H3.out 0 _ rfl
  have h31 := H3.out 1 _ rfl
  have h32 := H3.out 2 _ rfl
  have h33 := H3.out 3 _ rfl
  simp only [Nat.zero_add] at h30 h31 h32 h33
  have h50 := H5.out 0 _ rfl
  have h51 := H5.out 1 _ rfl
  have h52 := H5.out 2 _ rfl
  have h53 := H5.out 3 _ rfl
  have h54 := H5.out 4 _ rfl
  have h55 := H5.out 5 _ rfl
  simp only [Nat.zero_add] at h50 h51 h52 h53 h54 h55
  go_wp2_with fail
  clear ha0 ha1 ha2 ha3 ha4 ha5 hb0 hb1 hb2 hb3 hb4 hb5 h30 h31 h32 h33 h50 h51 h52 h53 h54 h55
  refine (HWo3.out _).mono ?_
  rintro e v4 ⟨rfl, b1⟩
  have b2 := b1
  replace HA := Lib.hid (HA.out.later b2)
  replace HB := Lib.hid (HB.out.later b2)
  replace H3 := Lib.hid (H3.out.later b2)
  replace H5 := Lib.hid (H5.out.later b2)
  replace BB := Lib.hid (below2Z BB.out b2)
  clear b1 b2
  go_wp2_with fail
  go_ret
  exact ⟨rfl, BB.out⟩

end Go.Proofs.Ytkmbnpjnjlcjmaa
