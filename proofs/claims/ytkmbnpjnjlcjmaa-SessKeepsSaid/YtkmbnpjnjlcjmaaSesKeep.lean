/-
  LAYER 9, PLAIN: who stands at an id, behind a Put and behind a Drop.
-/
import Derived.Test.YtkmbnpjnjlcjmaaSesPure
namespace Go.Proofs.Ytkmbnpjnjlcjmaa

/-- How many of the first k have that id. -/
def cntI (F : List Ses) (id : Int) (k : Nat) : Nat := ((F.take k).filter fun y => decide (y.id = id)).length

theorem cntI_zero (F : List Ses) (id : Int) : cntI F id 0 = 0 := by simp [cntI]

theorem cntI_yes {F : List Ses} {id : Int} {k : Nat} (hk : k < F.length) (h : (F.getD k Ses.zero).id = id) : cntI F id (k + 1) = cntI F id k + 1 := by
  unfold cntI
  rw [sgetD hk] at h
  rw [List.take_succ_eq_append_getElem hk, List.filter_append, List.length_append, List.filter_cons, if_pos (by simpa using h)]
  rfl

theorem cntI_no {F : List Ses} {id : Int} {k : Nat} (hk : k < F.length) (h : ¬ (F.getD k Ses.zero).id = id) : cntI F id (k + 1) = cntI F id k := by
  unfold cntI
  rw [sgetD hk] at h
  rw [List.take_succ_eq_append_getElem hk, List.filter_append, List.length_append, List.filter_cons, if_neg (by simpa using h)]
  rfl

theorem cntI_le (F : List Ses) (id : Int) (k : Nat) : cntI F id k ≤ k := by
  unfold cntI
  refine Nat.le_trans (List.length_filter_le _ _) ?_
  rw [List.length_take]
  omega

theorem keep_eq {l m : List Ses} {s : Ses} (h : sePut l s = (m, 0)) {y : Ses} (hy : y ∈ seOf m s.u) (hi : y.id = s.id) : y = s := by
  obtain ⟨h1, h2, rfl, h3⟩ := sePut_ok h
  have hr := (seMay_rise h1).2.1
  exact rise_mem seOrd (rise_putO seOrd hr s) (mem_of.1 hy).1 ((mem_putO seOrd hr s s).2 (.inl rfl)) (seIs_iff.2 ⟨(mem_of.1 hy).2, hi⟩)

theorem keep_one {l m : List Ses} {s : Ses} (h : sePut l s = (m, 0)) : cntI (seOf m s.u) s.id (seOf m s.u).length = 1 := by
  have hk := @keep_eq l m s h
  obtain ⟨h1, h2, rfl, h3⟩ := sePut_ok h
  have hr := (seMay_rise h1).2.1
  unfold cntI
  rw [List.take_length]
  have : (seOf (putO seLt seIs l s) s.u).filter (fun y => decide (y.id = s.id)) = [s] := by
    refine rise_unique seOrd (List.Pairwise.filter _ (List.Pairwise.filter _ (rise_putO seOrd hr s))) (List.pairwise_singleton _ _) (fun y => ?_)
    rw [List.mem_filter, List.mem_singleton]
    constructor
    · rintro ⟨hy, hi⟩
      exact hk hy (by simpa using hi)
    · rintro rfl
      exact ⟨mem_of.2 ⟨(mem_putO seOrd hr y y).2 (.inl rfl), rfl⟩, by simp⟩
  rw [this]
  rfl

theorem keep_none {l : List Ses} {s y : Ses} (hy : y ∈ seOf (dropO seIs l s) s.u) : ¬ y.id = s.id := by
  intro hi
  have h1 := (mem_of.1 hy).2
  have h2 := ((mem_dropO l s y).1 (mem_of.1 hy).1).2
  rw [seIs_iff.2 ⟨h1, hi⟩] at h2
  cases h2

end Go.Proofs.Ytkmbnpjnjlcjmaa
