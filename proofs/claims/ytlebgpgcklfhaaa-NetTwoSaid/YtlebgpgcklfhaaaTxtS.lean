/-
  ROWS OF TEXTS AS ROWS OF ONE CELL, AND PARTS OF THEM.
-/
import Derived.Test.YtlebgpgcklfhaaaProg
import Derived.Test.YtlebgpgcklfhaaaSeq
import Derived.Test.YtlebgpgcklfhaaaIdRow
namespace Go.Proofs.Ytlebgpgcklfhaaa
open Go.RowKit

def txtVals (t : List UInt8) : List Value := [encS t]

theorem txtOK : RowOK Try.prog txtVals 1 [] 9 22 (.string ⟨#[]⟩) 16 where
  len _ := rfl
  one a u hu := by
    simp only [txtVals, List.mem_cons, List.not_mem_nil, or_false] at hu
    subst hu
    rfl
  pos := by decide
  small := by decide
  under := Try.underlying22
  info := by kernel_rfl
  zvals := rfl
  fits := by decide

theorem cells_txt : ∀ ls : List (List UInt8), cellsS txtVals ls = ls.map encS
  | [] => rfl
  | a :: t => by rw [cellsS_cons, cells_txt t]; rfl

theorem ownT_of {w : World} {base : Nat} {v : Value} {ls : List (List UInt8)} (h : OwnS txtVals 1 9 w base v ls) : OwnT w base 9 v ls := by
  unfold OwnS at h
  rwa [cells_txt] at h

theorem Texts.rd {w : World} {v : Value} {ls : List (List UInt8)} (h : Texts w v ls) : RdS txtVals 1 [] w v ls := by
  obtain ⟨a, cap, h1, h2, h3, h4, h5⟩ := h
  refine ⟨a, cap, h1, h2, h3, h4, ?_⟩
  rcases h5 with h5 | ⟨b, off, e, hlt, hc⟩
  · exact .inl h5
  · refine .inr ⟨b, off, e, hlt, fun i hi j u hu => ?_⟩
    have hj : j < 1 := (List.getElem?_eq_some_iff.1 hu).1
    obtain rfl : j = 0 := by omega
    simp only [txtVals, List.getElem?_cons_zero, Option.some.injEq] at hu
    subst hu
    rw [Nat.mul_one, Nat.add_zero]
    exact hc i hi

/-- A part of a slice of texts. -/
theorem texts_cut {w : World} {a : Option Addr} {n cap : Nat} {ls : List (List UInt8)} (h : Texts w (.slice a n cap) ls) (l m : Nat) (h1 : l ≤ m) (h2 : m ≤ ls.length) :
    Texts w (sliced a l m cap 1) ((ls.drop l).take (m - l)) := by
  obtain ⟨a', cap', e, p1, p2, p3, p4⟩ := h
  simp only [Value.slice.injEq] at e
  obtain ⟨rfl, rfl, rfl⟩ := e
  have hlen : ((ls.drop l).take (m - l)).length = m - l := by rw [List.length_take, List.length_drop]; omega
  unfold sliced
  refine ⟨_, cap - l, by rw [hlen], by rw [hlen]; omega, by omega, ?_, ?_⟩
  · intro e
    split at e
    · omega
    · cases a with
      | none => have := p3 rfl; omega
      | some x => simp at e
  · by_cases hm : l = m
    · left
      exact List.length_eq_zero_iff.1 (by omega)
    · rcases p4 with rfl | ⟨b, off, rfl, hlt, hc⟩
      · simp at h2; omega
      · refine .inr ⟨b, off + l, ?_, hlt, fun i hi => ?_⟩
        · rw [if_neg (by omega), Option.map_some, Addr.add_lit, Nat.mul_one]
        · rw [hlen] at hi
          have := hc (l + i) (by omega)
          have e2 : ((ls.drop l).take (m - l)).getD i [] = ls.getD (l + i) [] := by
            rw [List.getD_eq_getElem?_getD, List.getD_eq_getElem?_getD, List.getElem?_take, if_pos hi, List.getElem?_drop]
          rw [e2, Nat.add_assoc]
          exact this

theorem run_cut_lh (w : World) (a : Option Addr) (n cap l m : Nat) (L M : Int) (hL : L = (l : Int)) (hM : M = (m : Int)) (h1 : l ≤ m) (h2 : m ≤ cap) :
    (Instr.slice 22 (.slice a n cap) (some (.int .i64 L)) (some (.int .i64 M)) none).run Try.prog w = .ok (sliced a l m cap 1) w := by
  obtain ⟨i, hi, hz, hsize, hby⟩ := info_parts txtOK.info
  subst hL hM
  have he : Try.prog.elem 22 = 9 := by unfold Program.elem; rw [txtOK.under]
  rw [run_slice_lh w 22 a n cap (by rw [he]; exact txtOK.under) .i64 .i64 l m (by omega) (by omega) (by omega), he, run_sizeOf w hi]
  have hc : Try.prog.cellsOf 9 = 1 := by unfold Program.cellsOf; rw [hi]; exact hsize
  simp only [Result.andThen, Int.toNat_natCast, hc]

theorem run_cut_h (w : World) (a : Option Addr) (n cap m : Nat) (M : Int) (hM : M = (m : Int)) (h2 : m ≤ cap) :
    (Instr.slice 22 (.slice a n cap) none (some (.int .i64 M)) none).run Try.prog w = .ok (sliced a 0 m cap 1) w := by
  obtain ⟨i, hi, hz, hsize, hby⟩ := info_parts txtOK.info
  subst hM
  have he : Try.prog.elem 22 = 9 := by unfold Program.elem; rw [txtOK.under]
  rw [run_slice_h w 22 a n cap (by rw [he]; exact txtOK.under) .i64 m (by omega) (by omega), he, run_sizeOf w hi]
  have hc : Try.prog.cellsOf 9 = 1 := by unfold Program.cellsOf; rw [hi]; exact hsize
  simp only [Result.andThen, Int.toNat_natCast, hc]

/-- s[l:]. -/
theorem run_cut_l (w : World) (a : Option Addr) (n cap l : Nat) (L : Int) (hL : L = (l : Int)) (h2 : l ≤ n) :
    (Instr.slice 22 (.slice a n cap) (some (.int .i64 L)) none none).run Try.prog w = .ok (sliced a l n cap 1) w := by
  obtain ⟨i, hi, hz, hsize, hby⟩ := info_parts txtOK.info
  subst hL
  have he : Try.prog.elem 22 = 9 := by unfold Program.elem; rw [txtOK.under]
  rw [run_slice_l w 22 a n cap (by rw [he]; exact txtOK.under) .i64 l (by omega) (by omega), he, run_sizeOf w hi]
  have hc : Try.prog.cellsOf 9 = 1 := by unfold Program.cellsOf; rw [hi]; exact hsize
  simp only [Result.andThen, Int.toNat_natCast, hc]

end Go.Proofs.Ytlebgpgcklfhaaa
