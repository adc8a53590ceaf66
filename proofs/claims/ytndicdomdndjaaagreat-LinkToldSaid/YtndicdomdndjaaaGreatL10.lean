/-
  TEXTS OF THE PROOF, one behind the other: LnkP.
-/
import Derived.Test.YtndicdomdndjaaaGreatL09

/-
  LAYER 18: words for the walks of what is told.
-/
namespace Go.Proofs.YtndicdomdndjaaaGreat
open Go.RowKit

theorem fewt_eqL {w : World} {v : Value} {t : List Row} (hv : Tab w v t) {r : Bool} (h : Hid (fewT t = r)) :
    Calls Tryz.prog 22 #[v] w fun e w' => e = .returned (.bool r) ∧ Below w.heap.size w w' := by
  rw [← h.out]
  exact (fewt_any hv).mono fun _ _ ⟨he, hw⟩ => ⟨he, hw ▸ Below.refl _ _⟩

theorem rptime_eqL (n : Int) {r : Bool} (h : Hid (pcTime n = r)) (w : World) :
    Calls Tryz.prog 27 #[.int .i64 n] w fun e w' => e = .returned (.bool r) ∧ Below w.heap.size w w' := by
  rw [← h.out]
  exact (rptime_any n w).mono fun _ _ ⟨he, hw⟩ => ⟨he, hw ▸ Below.refl _ _⟩

theorem emit_run {c : Cfg} {l : Lnk} {view : List Row} {now : Int} (h1 : lnMay c l = true) (h2 : diMay view = true) (h3 : pcTime now = true) : lnEmit c l view now = lnRun c view now 65 l := by
  unfold lnEmit
  rw [if_pos (by rw [h1, h2, h3]; rfl)]

theorem emit_again {c : Cfg} {l M : Lnk} {view : List Row} {now : Int} {fs : List Frm} (h1 : lnMay c l = true) (h2 : diMay view = true) (h3 : pcTime now = true) (hE : lnEmit c l view now = (M, fs)) : lnMay c M = true ∧ lnEmit c M view now = (M, []) := by
  have h4 := (run_may h2 h3 65 l h1).1
  have h5 := run_again h2 h3 h1
  rw [← emit_run h1 h2 h3, hE] at h4 h5
  exact ⟨h4, by rw [emit_run h4 h2 h3]; exact h5⟩

theorem emit_asked {c : Cfg} {l : Lnk} {view : List Row} {now : Int} (h1 : lnMay c l = true) (h2 : diMay view = true) (h3 : pcTime now = true) (hq : l.seq < 1099511627776) :
    (pcLevel c l.b now = 0 → lnEmit c (lnAsk l) view now = (lnAsk l, [])) ∧
    (¬ pcLevel c l.b now = 0 → lnEmit c (lnAsk l) view now = (⟨l.seq + 1, ⟨[], false⟩, (pcTake c l.b now).1, false, now⟩, [⟨3, l.seq, false, [], Val.zero, 0, view⟩])) := by
  rw [emit_run (ask_may h1) h2 h3, pcLevel_in (lnMay_iff.1 h1).1 h3]
  exact run_asked h3 h1 hq

theorem quiet_told (seq : Int) (b : Bkt) (dg : Int) : lnQuiet ⟨seq, ⟨[], false⟩, b, false, dg⟩ = true := rfl

end Go.Proofs.YtndicdomdndjaaaGreat
