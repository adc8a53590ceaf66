/-
  FOR THE FRAMES OF LAYER 4's PROOFS: what the listed variable gives; a value that came in, opened.
-/
import Derived.Test.YtmbgdkelghoghaaDoorValLive
import Derived.ProofKit
import Derived.LaidMore
import Derived.OpenShut
import Derived.Stop.Joined
import Derived.Lib.SmallJoins
namespace Go.Proofs.YtmbgdkelghoghaaDoor
open Go.ChangeShapes Go.WideShapes Go.ChangeAt Go.WideMaps Go.WideElems Go.RowKit

abbrev laidW : List (String × DataW Unit) := [("rollcall/value.words", Rows.laid_rollcall_value_words)]

theorem gWords : Tryd.prog.globalNamed "rollcall/value.words" = some 0 := by kernel_rfl
theorem tWords : (Tryd.prog.globals[0]?).map (·.type) = some 44 := by kernel_rfl

/-- The door's own heap meets the condition: three closed facts. -/
theorem door_met (os : Os) (args : Array Value) : laidMetH Tryd.prog laidW ((World.doorLaid Tryd.prog 400 os).forCall (fun _ _ => 0) ⟨#[], args, []⟩).memory :=
  laidMetH_of_parts3 (fuel := 8) (laidMet_of_run' 8 (by kernel_rfl) (by kernel_rfl)) (by kernel_rfl) (by kernel_rfl)

theorem of_laid {W : World} (h : laidMetH Tryd.prog laidW W) : Laid W := by
  rw [MakeChecks.laidMetH_plain _ _ _ (by kernel_rfl)] at h
  obtain ⟨ps, ⟨g0, t0, cs0, f0, p0, q0, hg0, ht0, hv0, hd0, _, _⟩, _, _⟩ := h
  obtain rfl := Option.some.inj (gWords.symm.trans hg0)
  obtain rfl := Option.some.inj (tWords.symm.trans ht0)
  obtain ⟨xs, m1, rfl, hx1, hlen, hn5, hel⟩ := DataW.trod_array Tryd.underlying44 hd0
  have c9 : Tryd.prog.cellsOf 9 = 1 := by kernel_rfl
  have c44 : Tryd.prog.cellsOf 44 = 5 := by kernel_rfl
  simp only [Prod.mk.injEq] at hx1
  have hx := hx1.1
  unfold Rows.laid_rollcall_value_words at hx
  simp only [DataW.agg.injEq] at hx
  intro i hi
  have h1 := hel i hi
  have hxi : xs[i]? = some (xs[i]'(by omega)) := List.getElem?_eq_getElem (by omega)
  rw [hxi] at h1
  obtain ⟨s, e1, e2, _⟩ := DataW.trod_string Tryd.underlying9 h1
  rw [c9, Nat.mul_one] at e1
  have h2 : cs0.toList[i]? = some (.string s) := by
    have := congrArg (fun l => l[0]?) e1
    simpa [List.getElem?_take, List.getElem?_drop] using this
  have h3 := congrArg (fun l => l[i]?) hx
  simp only [List.getElem?_map, hxi, Option.map_some, e2] at h3
  have h4 : shows[i]? = some s.data.toList := by
    match i, hi, h3 with
    | 0, _, h3 => simpa [shows] using h3
    | 1, _, h3 => simpa [shows] using h3
    | 2, _, h3 => simpa [shows] using h3
    | 3, _, h3 => simpa [shows] using h3
    | 4, _, h3 => simpa [shows] using h3
  have h5 : shows.getD i [] = s.data.toList := by simp [List.getD, h4]
  have := World.var?_cell hg0 hv0 i
  rw [this, h5]
  simpa using h2

/-- A value that came in. -/
theorem open_val {H : Type} {enc : TypeId × Value → H} {w : World} {b0 base : Nat} {spare : Nat → Bool} {held : Bool} {r : Reach} {v : Value} {d : DataW H} {p : List MemPlace}
    (hv : Value.okWide Tryd.prog w r b0 23 v) (h : DataW.Trod enc Tryd.prog w base spare held 23 v d p) :
    ∃ (a b c : Int) (l : List UInt8), v = .agg #[.int .i64 a, .int .i64 b, .int .i64 c, .string ⟨l.toArray⟩] ∧ (Lit.int .i64 a).wf = true ∧ (Lit.int .i64 b).wf = true ∧ (Lit.int .i64 c).wf = true ∧ l.length ≤ maxLen := by
  obtain ⟨v0, v1, v2, v3, y0, y1, y2, y3, n, rfl, _, _, h0, h1, h2, h3⟩ := Joins.open_agg4 Tryd.underlying23 (by kernel_rfl) (by kernel_rfl) hv h
  obtain ⟨a, ea, _, wa⟩ := DataW.trod_int Tryd.underlying3 h0
  obtain ⟨b, eb, _, wb⟩ := DataW.trod_int Tryd.underlying3 h1
  obtain ⟨c, ec, _, wc⟩ := DataW.trod_int Tryd.underlying3 h2
  obtain ⟨s, es, _, ws⟩ := DataW.trod_string Tryd.underlying9 h3
  simp only [List.cons.injEq, and_true] at ea eb ec es
  subst ea eb ec es
  refine ⟨a, b, c, s.data.toList, by cases s; simp, wa, wb, wc, ?_⟩
  exact Nat.le_trans (Nat.le_of_eq (Array.length_toList (xs := s.data))) ws

end Go.Proofs.YtmbgdkelghoghaaDoor
