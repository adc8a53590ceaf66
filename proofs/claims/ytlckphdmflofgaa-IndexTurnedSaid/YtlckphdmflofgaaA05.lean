/-
  TEXTS OF THE PROOF, one behind the other: IxTurnP.
-/
import Derived.Test.YtlckphdmflofgaaA01

/-
  LAYER 13, PLAIN: pairs turned about.
-/
namespace Go.Proofs.Ytlckphdmflofgaa

def sw (p : Pr) : Pr := (p.2, p.1)

theorem sw_inj {p q : Pr} : sw p = sw q ↔ p = q := by
  obtain ⟨a, b⟩ := p
  obtain ⟨c, d⟩ := q
  unfold sw
  simp only [Prod.mk.injEq]
  exact ⟨fun h => ⟨h.2, h.1⟩, fun h => ⟨h.2, h.1⟩⟩

theorem mem_sw {L : List Pr} {p : Pr} : sw p ∈ L.map sw ↔ p ∈ L := by
  rw [List.mem_map]
  constructor
  · rintro ⟨q, h, e⟩
    rwa [← sw_inj.1 e]
  · exact fun h => ⟨p, h, rfl⟩

theorem has_sw (L : List Pr) (p : Pr) : ixHas (L.map sw) (sw p) = ixHas L p := by
  unfold ixHas
  exact decide_eq_decide.2 mem_sw

theorem filter_sw (L : List Pr) (p : Pr → Bool) : (L.map sw).filter p = (L.filter (fun q => p (sw q))).map sw := by
  rw [List.filter_map]
  rfl

theorem set_sw {L : List Pr} {p : Pr} {on : Bool} {L' : List Pr} {r : Bool} (h : ixSet L p on = (L', r)) : ixSet (L.map sw) (sw p) on = (L'.map sw, r) := by
  unfold ixSet at h ⊢
  rw [has_sw]
  split at h
  · rename_i g
    rw [if_pos g]
    cases h
    rfl
  · rename_i g
    rw [if_neg g]
    cases h
    congr 1
    cases on with
    | true => rw [if_pos rfl, if_pos rfl, List.map_append]; rfl
    | false =>
      rw [if_neg (by decide), if_neg (by decide), filter_sw]
      congr 1
      refine List.filter_congr fun q _ => ?_
      exact decide_eq_decide.2 (not_congr sw_inj)

theorem forget_sw (L : List Pr) (u : List UInt8) : ixForget (L.map sw) u = (ixForget L u).map sw := by
  unfold ixForget
  rw [filter_sw]
  congr 1
  refine List.filter_congr fun q _ => ?_
  unfold ixFree sw
  exact decide_eq_decide.2 And.comm

theorem side_sw (L : List Pr) (s : Bool) (u : List UInt8) : ixSide (L.map sw) s u = ixSide L (!s) u := by
  unfold ixSide
  rw [filter_sw, List.map_map]
  have e1 : ∀ q : Pr, pcOf s (sw q) = pcOf (!s) q := fun q => by cases s <;> rfl
  have e2 : pcOf (!s) ∘ sw = pcOf (!!s) := funext fun q => by cases s <;> rfl
  rw [e2]
  congr 2
  refine List.filter_congr fun q _ => ?_
  rw [e1]

end Go.Proofs.Ytlckphdmflofgaa
