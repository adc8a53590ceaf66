/-
  LAYERS 11 AND 12, PLAIN: with a session more; turned about; what the tops of two heaps tell.
-/
import Derived.Test.YtkmbnpjnjlcjmaaBesPure
namespace Go.Proofs.Ytkmbnpjnjlcjmaa

theorem sat_leftM {l m : List Ses} {i : Nat} (h : i < l.length) : sat (l ++ m) i = sat l i := by
  show (l ++ m).getD i Ses.zero = l.getD i Ses.zero
  rw [List.getD_eq_getElem?_getD, List.getD_eq_getElem?_getD, List.getElem?_append_left h]

/-- With sessions more the presence shows no less, and its Prio is no less. -/
theorem besV_more {l m : List Ses} (h : 0 < l.length) : (besV l).sh ≤ (besV (l ++ m)).sh ∧ (besV l).pr ≤ (besV (l ++ m)).pr := by
  have h2 : 0 < (l ++ m).length := by rw [List.length_append]; omega
  refine ⟨?_, ?_⟩
  · obtain ⟨-, i, hi, e⟩ := besV_sh h
    have := (besV_sh h2).1 i (by rw [List.length_append]; omega)
    rw [sat_leftM hi] at this
    omega
  · obtain ⟨j, h3, h4, -, -⟩ := besOf_spec h
    obtain ⟨k, -, h5, h6, -⟩ := besOf_spec h2
    have := h6 j (by rw [List.length_append]; omega)
    rw [sat_leftM h3, sbet_no] at this
    show (besOf l).v.pr ≤ (besOf (l ++ m)).v.pr
    rw [h4, h5]
    omega

theorem sat_back {l : List Ses} {i : Nat} (h : i < l.length) : sat l.reverse i = sat l (l.length - 1 - i) := by
  show l.reverse.getD i Ses.zero = l.getD _ Ses.zero
  rw [List.getD_eq_getElem?_getD, List.getD_eq_getElem?_getD, List.getElem?_reverse h]

theorem sat_id {l : List Ses} (hn : (l.map Ses.id).Nodup) {i j : Nat} (hi : i < l.length) (hj : j < l.length) (e : (sat l i).id = (sat l j).id) : i = j := by
  rw [show sat l i = l[i] from sgetDB hi, show sat l j = l[j] from sgetDB hj] at e
  exact (List.getElem_inj (xs := l.map Ses.id) (h₀ := by rw [List.length_map]; exact hi) (h₁ := by rw [List.length_map]; exact hj) hn).1 (by rw [List.getElem_map, List.getElem_map]; exact e)

/-- One that is no worse than all others, of unlike ids: the best one. -/
theorem besOf_unlike {l : List Ses} (hn : (l.map Ses.id).Nodup) {j : Nat} (hj : j < l.length) (h : ∀ i, i < l.length → sbet (sat l i) (sat l j) = false) : besOf l = sat l j := by
  refine besOf_one hj h fun i hi => ?_
  have h1 := h i (by omega)
  have h2 : (sat l i).id ≠ (sat l j).id := fun e => by
    have := sat_id hn (by omega) hj e
    omega
  rw [sbet_no] at h1
  rw [sbet_iff]
  omega

theorem besOf_back {l : List Ses} (h : 0 < l.length) (hn : (l.map Ses.id).Nodup) : besOf l.reverse = besOf l := by
  obtain ⟨j, h1, h2, h3, -⟩ := besOf_spec h
  have hj : sat l.reverse (l.length - 1 - j) = sat l j := by
    rw [sat_back (by omega), show l.length - 1 - (l.length - 1 - j) = j by omega]
  rw [h2, ← hj]
  refine besOf_unlike ?_ (by rw [List.length_reverse]; omega) fun i hi => ?_
  · rw [List.map_reverse]
    exact (List.reverse_perm _).nodup_iff.2 hn
  · rw [List.length_reverse] at hi
    rw [sat_back hi, hj]
    exact h3 _ (by omega)

/-- Sessions of unlike ids have the presence that they have turned about. -/
theorem besV_back {l : List Ses} (h : 0 < l.length) (hn : (l.map Ses.id).Nodup) : besV l.reverse = besV l := by
  have h2 : 0 < l.reverse.length := by rw [List.length_reverse]; exact h
  have hb := besOf_back h hn
  refine besV_ext ?_ (congrArg (fun s => s.v.pr) hb) (congrArg (fun s => s.v.si) hb) (congrArg (fun s => s.v.st) hb)
  obtain ⟨a1, i, a2, a3⟩ := besV_sh h
  obtain ⟨b1, k, b2, b3⟩ := besV_sh h2
  have c1 := b1 (l.length - 1 - i) (by rw [List.length_reverse]; omega)
  rw [sat_back (by omega), show l.length - 1 - (l.length - 1 - i) = i by omega] at c1
  rw [List.length_reverse] at b2
  rw [sat_back b2] at b3
  have c2 := a1 (l.length - 1 - k) (by omega)
  omega

/-! ### Two heaps -/

/-- The top of the Slots is the best one's. -/
theorem agg_top {S : List Ses} (h : 0 < S.length) {L : List Sl} (hp : L.Perm (S.map besSlot)) : besSlot (besOf S) ∈ L ∧ ∀ x ∈ L, slBet x (besSlot (besOf S)) = false := by
  obtain ⟨j, h1, h2, h3, -⟩ := besOf_spec h
  rw [h2]
  refine ⟨hp.mem_iff.2 (List.mem_map.2 ⟨sat S j, ?_, rfl⟩), fun x hx => ?_⟩
  · rw [show sat S j = S[j] from sgetDB h1]
    exact List.getElem_mem h1
  · obtain ⟨s, hs, rfl⟩ := List.mem_map.1 (hp.mem_iff.1 hx)
    obtain ⟨i, hi, rfl⟩ := List.getElem_of_mem hs
    have := h3 i hi
    rwa [show sat S i = S[i] from sgetDB hi] at this

/-- The top of the Showns tells the greatest Show. -/
theorem agg_most {S : List Ses} (h : 0 < S.length) {L : List Sl} (hp : L.Perm (S.map besShown)) {t : Sl} (ht : t ∈ L ∧ ∀ x ∈ L, slBet x t = false) : t.r0 = (besV S).sh := by
  obtain ⟨a1, i, a2, a3⟩ := besV_sh h
  obtain ⟨s, hs, rfl⟩ := List.mem_map.1 (hp.mem_iff.1 ht.1)
  obtain ⟨k, hk, rfl⟩ := List.getElem_of_mem hs
  have c1 := a1 k hk
  rw [show sat S k = S[k] from sgetDB hk] at c1
  have c2 := ht.2 (besShown (sat S i)) (hp.mem_iff.2 (List.mem_map.2 ⟨sat S i, by rw [show sat S i = S[i] from sgetDB a2]; exact List.getElem_mem a2, rfl⟩))
  rw [slBet_no] at c2
  simp only [besShown] at c2 ⊢
  omega

end Go.Proofs.Ytkmbnpjnjlcjmaa
