/-
  THE WALK OF IdentFolds, out of the contracts.
-/
import Derived.Test.YtmbgdkelghoghaaIdLive
namespace Go.Proofs.Ytmbgdkelghoghaa
open Go.RowKit
attribute [local go_sem] ByteArray.mk_append_mk

set_option maxHeartbeats 800000 in
set_option maxRecDepth 1000000 in
theorem identFolds_no {w : World} (l : List UInt8) (hl : l.length ≤ 100) (m : List UInt8) (hm : m.length ≤ 100) (ht : Hid (idFold l = ([], false))) (hu : Hid (idPut l = ([], false))) (hi : Hid (idIs l = false)) :
    Calls Try.prog 6 #[.string ⟨l.toArray⟩, .string ⟨m.toArray⟩] w fun e w' => e = .returned (.bool true) ∧ Below w.heap.size w w' := by
  have hl' : l.length ≤ 4294967296 := by omega
  go_enter Try.func6, Try.ntmps6
  go_wp2_with fail
  refine (fold_eq l hl' ht _).mono ?_
  rintro e w1 ⟨rfl, b⟩
  have B1 := Lib.hid b
  clear b
  go_wp2_with fail
  refine (idput_eq l hl' hu _).mono ?_
  rintro e w2 ⟨rfl, b⟩
  have B2 := Lib.hid (below2' B1.out b)
  clear b B1
  go_wp2_with fail
  refine (is_eq l hl' hi _).mono ?_
  rintro e w3 ⟨rfl, b⟩
  have B3 := Lib.hid (below2' B2.out b)
  clear b B2
  go_wp2_with fail
  refine (live3 _).mono ?_
  rintro e w7 ⟨rfl, b⟩
  have B7 := Lib.hid (below2' B3.out b)
  clear b B3
  go_wp2_with fail
  go_ret
  exact ⟨rfl, B7.out⟩

set_option maxHeartbeats 1600000 in
set_option maxRecDepth 1000000 in
theorem identFolds_yes {w : World} (l : List UInt8) (hl : l.length ≤ 100) (m : List UInt8) (hm : m.length ≤ 100) (t p : List UInt8) (r : Bool) (htl : t.length = l.length) (hpl : p.length ≤ 200)
    (ht : Hid (idFold l = (t, true))) (ht2 : Hid (idFold t = (t, true))) (hu : Hid (idPut t = (p, true))) (hk : Hid (idTake (p ++ m) 0 = (t, p.length, 0))) (hi : Hid (idIs t = true)) (hr : Hid (idIs l = r)) (hq : (l == t) = r) :
    Calls Try.prog 6 #[.string ⟨l.toArray⟩, .string ⟨m.toArray⟩] w fun e w' => e = .returned (.bool true) ∧ Below w.heap.size w w' := by
  have hl' : l.length ≤ 4294967296 := by omega
  have ht' : t.length ≤ 4294967296 := by omega
  have hc : ((t.length : Int) == (l.length : Int)) = true := by rw [htl]; simp
  go_enter Try.func6, Try.ntmps6
  go_wp2_with fail
  refine (fold_eq l hl' ht _).mono ?_
  rintro e w1 ⟨rfl, b⟩
  have B1 := Lib.hid b
  clear b
  go_wp2_with fail
  refine (fold_eq t ht' ht2 _).mono ?_
  rintro e w2 ⟨rfl, b⟩
  have B2 := Lib.hid (below2' B1.out b)
  clear b B1
  go_wp2_with fail
  refine (idput_eq t ht' hu _).mono ?_
  rintro e w3 ⟨rfl, b⟩
  have B3 := Lib.hid (below2' B2.out b)
  clear b B2
  go_wp2_with fail
  refine (idtake_eq (p ++ m) (by simp; omega) 0 hk _).mono ?_
  rintro e w4 ⟨rfl, b⟩
  have B4 := Lib.hid (below2' B3.out b)
  clear b B3
  go_wp2_with fail
  refine (is_eq t ht' hi _).mono ?_
  rintro e w5 ⟨rfl, b⟩
  have B5 := Lib.hid (below2' B4.out b)
  clear b B4
  go_wp2_with fail
  refine (is_eq l hl' hr _).mono ?_
  rintro e w6 ⟨rfl, b⟩
  have B6 := Lib.hid (below2' B5.out b)
  clear b B5
  go_wp2_with fail
  refine (live3 _).mono ?_
  rintro e w7 ⟨rfl, b⟩
  have B7 := Lib.hid (below2' B6.out b)
  clear b B6
  go_wp2_with fail
  go_ret
  exact ⟨rfl, B7.out⟩

set_option maxHeartbeats 800000 in
set_option maxRecDepth 1000000 in
theorem walkIdentFolds {w : World} (l : List UInt8) (hl : l.length ≤ maxLen) (m : List UInt8) (hm : m.length ≤ maxLen) :
    Calls Try.prog 6 #[.string ⟨l.toArray⟩, .string ⟨m.toArray⟩] w fun e w' => e = .returned (.bool true) ∧ Below w.heap.size w w' := by
  unfold maxLen at hl hm
  by_cases h : 100 < l.length
  · go_enter Try.func6, Try.ntmps6
    go_wp2_with fail
    refine (live3 _).mono ?_
    rintro e w1 ⟨rfl, b⟩
    go_wp2_with fail
    go_ret
    exact ⟨rfl, b⟩
  · by_cases h2 : 100 < m.length
    · go_enter Try.func6, Try.ntmps6
      go_wp2_with fail
      refine (live3 _).mono ?_
      rintro e w1 ⟨rfl, b⟩
      go_wp2_with fail
      go_ret
      exact ⟨rfl, b⟩
    · rcases idFold_cases l with ⟨h3, h4⟩ | ⟨h3, _, h5⟩
      · have hlen := idIs_parts h4
        have hpl := vput_len_le (idLow l).length
        refine identFolds_yes l (by omega) m (by omega) (idLow l) (idPut (idLow l)).1 (idIs l) (idLow_len l) ?_ h3 (idFold_name h4) ?_ (idTake_put h4 m) h4 rfl ?_
        · unfold idPut
          rw [if_pos h4, List.length_append]
          omega
        · show _ = _
          unfold idPut
          rw [if_pos h4]
        · cases hi : idIs l with
          | true => rw [idIs_low hi]; simp
          | false =>
            rw [beq_eq_false_iff_ne]
            intro e
            rw [← e, hi] at h4
            cases h4
      · refine identFolds_no l (by omega) m (by omega) h3 ?_ h5
        show _ = _
        unfold idPut
        rw [h5]
        rfl

end Go.Proofs.Ytmbgdkelghoghaa
