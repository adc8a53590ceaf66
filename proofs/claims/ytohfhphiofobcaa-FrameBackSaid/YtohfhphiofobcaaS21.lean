/-
  TEXTS OF THE PROOF, one behind the other: FraRfew, FraW.
-/
import Derived.Test.YtohfhphiofobcaaS08
import Derived.Test.YtohfhphiofobcaaS18

section

/-
  LAYER 6, THE DOCUMENT: Few.
-/
namespace Go.Proofs.Ytohfhphiofobcaa
open Go.RowKit

/-- Few rows, of few bytes. -/
def fewF (f : Frm) : Bool := fewT f.t && (decide (f.c.length ≤ 60) && decide (f.v.st.length ≤ 100))

set_option maxHeartbeats 800000 in
set_option maxRecDepth 100000 in
theorem fewf_eq {w : World} {v : Value} {t : List Row} (hv : Tab w v t) (k s : Int) (on : Bool) (c : List UInt8) (sh pr si : Int) (st : List UInt8) (sum : Nat) (hc : c.length ≤ maxLen) (hst : st.length ≤ maxLen)
    {r : Bool} (h : Hid (fewF ⟨k, s, on, c, ⟨sh, pr, si, st⟩, sum, t⟩ = r)) :
    Calls Try.prog 10 #[.agg #[.int .i64 k, .int .i64 s, .bool on, .string ⟨c.toArray⟩, .int .i64 sh, .int .i64 pr, .int .i64 si, .string ⟨st.toArray⟩, .int .u64 sum, v]] w fun e w' => e = .returned (.bool r) ∧ Below w.heap.size w w' := by
  unfold maxLen at hc hst
  have B0 : Hid (Below w.heap.size w (w.alloc (.cells #[.int .i64 k, .int .i64 s, .bool on, .string ⟨c.toArray⟩, .int .i64 sh, .int .i64 pr, .int .i64 si, .string ⟨st.toArray⟩, .int .u64 sum, v] 27))) := Lib.hid ((Below.refl _ _).alloc (Nat.le_refl _) _)
  have HV := Lib.hid (hv.later B0.out)
  obtain ⟨z, hz⟩ : ∃ z, fewT t = z := ⟨_, rfl⟩
  have HF := Lib.hid (fewt_eq HV.out (Lib.hid hz))
  have e := h.out
  unfold fewF at e
  simp only [hz] at e
  clear h hz hv
  cases z with
  | false =>
    obtain rfl : false = r := by simpa using e
    go_enter Try.func10, Try.ntmps10
    go_wp2_with fail
    refine HF.out.mono ?_
    rintro e w1 ⟨rfl, rfl⟩
    go_wp2_with fail
    go_ret
    exact ⟨rfl, B0.out⟩
  | true =>
    by_cases h1 : c.length ≤ 60
    · by_cases h2 : st.length ≤ 100
      · obtain rfl : true = r := by simpa [h1, h2] using e
        have t1 : decide ((c.length : Int) ≤ 60) = true := by simp; omega
        have t2 : decide ((st.length : Int) ≤ 100) = true := by simp; omega
        clear h1 h2
        go_enter Try.func10, Try.ntmps10
        go_wp2_with fail
        refine HF.out.mono ?_
        rintro e w1 ⟨rfl, rfl⟩
        go_wp2_with fail
        go_ret
        exact ⟨rfl, B0.out⟩
      · obtain rfl : false = r := by simpa [h1, h2] using e
        have t1 : decide ((c.length : Int) ≤ 60) = true := by simp; omega
        have t2 : decide ((st.length : Int) ≤ 100) = false := by simp; omega
        clear h1 h2
        go_enter Try.func10, Try.ntmps10
        go_wp2_with fail
        refine HF.out.mono ?_
        rintro e w1 ⟨rfl, rfl⟩
        go_wp2_with fail
        go_ret
        exact ⟨rfl, B0.out⟩
    · obtain rfl : false = r := by simpa [h1] using e
      have t2 : decide ((c.length : Int) ≤ 60) = false := by simp; omega
      go_enter Try.func10, Try.ntmps10
      go_wp2_with fail
      refine HF.out.mono ?_
      rintro e w1 ⟨rfl, rfl⟩
      go_wp2_with fail
      go_ret
      exact ⟨rfl, B0.out⟩

end Go.Proofs.Ytohfhphiofobcaa

end

section

/-
  FOR THE WALKS OF LAYER 6.
-/
namespace Go.Proofs.Ytohfhphiofobcaa
open Go.RowKit

theorem rfrsame_eqW {w : World} {v v2 : Value} {t t2 : List Row} (hv : Tab w v t) (hv2 : Tab w v2 t2) {k s : Int} {on : Bool} {c : List UInt8} {sh pr si : Int} {st : List UInt8} {sum : Nat} {k2 s2 : Int} {on2 : Bool} {c2 : List UInt8} {sh2 pr2 si2 : Int} {st2 : List UInt8} {sum2 : Nat} {r : Bool} (h : Hid (frSame ⟨k, s, on, c, ⟨sh, pr, si, st⟩, sum, t⟩ ⟨k2, s2, on2, c2, ⟨sh2, pr2, si2, st2⟩, sum2, t2⟩ = r)) :
    Calls Try.prog 17 #[.agg #[.int .i64 k, .int .i64 s, .bool on, .string ⟨c.toArray⟩, .int .i64 sh, .int .i64 pr, .int .i64 si, .string ⟨st.toArray⟩, .int .u64 sum, v], .agg #[.int .i64 k2, .int .i64 s2, .bool on2, .string ⟨c2.toArray⟩, .int .i64 sh2, .int .i64 pr2, .int .i64 si2, .string ⟨st2.toArray⟩, .int .u64 sum2, v2]] w fun e w' => e = .returned (.bool r) ∧ Below w.heap.size w w' := by
  have := rfrsame_any hv hv2 k s on c sh pr si st sum k2 s2 on2 c2 sh2 pr2 si2 st2 sum2
  rw [h.out] at this
  exact this

theorem fewF_get {f : Frm} (h : fewF f = true) : Short f.t ∧ f.c.length ≤ 4294967296 ∧ f.v.st.length ≤ 4294967296 := by
  unfold fewF at h
  simp only [Bool.and_eq_true, decide_eq_true_eq] at h
  exact ⟨fewT_short h.1, by omega, by omega⟩

end Go.Proofs.Ytohfhphiofobcaa

end
