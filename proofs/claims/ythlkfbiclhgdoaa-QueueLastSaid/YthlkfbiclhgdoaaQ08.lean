/-
  TEXTS OF THE PROOF, one behind the other: QueLastP.
-/
import Derived.Test.YthlkfbiclhgdoaaQ01

/-
  THE PLAIN MATHEMATICS OF QueueLast: what a push and a pop keep.
-/
namespace Go.Proofs.Ythlkfbiclhgdoaa

/-- What was told, what waits over it, and what all changes make. -/
structure QKeep (told now : List Row) (q : List Chg) (room : Int) (k : Nat) : Prop where
  may : quMay ⟨q, false⟩ room = true
  rise : RRise told
  over : setAll told q = now
  few : told.length + q.length ≤ 32 + k
  seen : now.length ≤ 32 + k

theorem rest_few (t : List Row) (x : List UInt8) : (diRest t x).length ≤ t.length := List.length_filter_le _ _

theorem set_few (t : List Row) (c : Chg) : (diSet t c).length ≤ t.length + 1 := by
  have := rest_few t c.c
  unfold diSet
  split
  · rw [show (diIns (diRest t c.c) ⟨c.c, c.v⟩).length = (diRest t c.c).length + 1 from by unfold diIns; simp; try omega]
    omega
  · omega

theorem qkeep_push {told now : List Row} {q : List Chg} {room : Int} {k : Nat} (h : QKeep told now q room k) {c : Chg} (hc : quOne c = true) {ql : List Chg} (hp : quPush ⟨q, false⟩ c room = ⟨ql, false⟩) : QKeep told (diSet now c) ql room (k + 1) := by
  obtain ⟨h1, h2, h3, h4, h5⟩ := h
  have hm := quMay_iff.1 h1
  have hla : (quPush ⟨q, false⟩ c room).la = false := by rw [hp]
  have ho := over_push h2 hm.2.2.2 hla
  have hcount := quPush_count hla
  rw [hp] at ho hcount
  simp only at ho hcount
  refine ⟨?_, h2, ?_, ?_, ?_⟩
  · have := quPush_may h1 hc
    rwa [hp] at this
  · rw [ho, h3]
  · split at hcount <;> omega
  · have := set_few now c
    omega

theorem qkeep_pop {told now : List Row} {c : Chg} {q : List Chg} {room : Int} {k : Nat} (h : QKeep told now (c :: q) room k) : QKeep (diSet told c) now q room k := by
  obtain ⟨h1, h2, h3, h4, h5⟩ := h
  obtain ⟨m1, m2, m3, m4⟩ := quMay_iff.1 h1
  refine ⟨quMay_iff.2 ⟨?_, (fun e => by cases e), fun x hx => m3 x (List.mem_cons_of_mem _ hx), quNo2_tail m4⟩, set_rise h2 c, ?_, ?_, h5⟩
  · simp only [List.length_cons] at m1
    simp only
    omega
  · rw [← h3]; rfl
  · have := set_few told c
    simp only [List.length_cons] at h4
    omega

end Go.Proofs.Ythlkfbiclhgdoaa
