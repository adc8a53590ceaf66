/-
  LAYER 9, PLAIN: all users' sessions, one user behind the other, are all of them; nobody has more than four.
-/
import Derived.Test.YtkmbnpjnjlcjmaaSesPure
namespace Go.Proofs.Ytkmbnpjnjlcjmaa

theorem ints_few : ∀ (l : List Int) (a b : Int), l.Pairwise (fun x y => x < y) → (∀ x ∈ l, a ≤ x ∧ x < b) → l.length ≤ (b - a).toNat
  | [], _, _, _, _ => by simp
  | x :: t, a, b, h, hb => by
    have h0 := hb x (by simp)
    have hp := List.pairwise_cons.1 h
    have := ints_few t (x + 1) b hp.2 (fun y hy => ⟨by have := hp.1 y hy; omega, (hb y (by simp [hy])).2⟩)
    simp only [List.length_cons]
    omega

theorem of_rise {l : List Ses} (hr : RiseO seLt l) (u : List UInt8) : RiseO seLt (seOf l u) := List.Pairwise.filter _ hr

theorem of_few {l : List Ses} (h : seMay l = true) (u : List UInt8) : (seOf l u).length ≤ 4 := by
  obtain ⟨_, g2, g3⟩ := seMay_rise h
  have h1 : ((seOf l u).map Ses.id).Pairwise (fun x y => x < y) := by
    rw [List.pairwise_map]
    refine List.Pairwise.imp_of_mem (fun {a b} ha hb hab => ?_) (of_rise g2 u)
    have ea := (mem_of.1 ha).2
    have eb := (mem_of.1 hb).2
    unfold seLt at hab
    rw [ea, eb, idLess_irrefl] at hab
    simpa using hab
  have := ints_few _ 0 4 h1 (fun x hx => by
    obtain ⟨s, hs, rfl⟩ := List.mem_map.1 hx
    have := g3 s (mem_of.1 hs).1
    unfold seOne at this
    simp only [Bool.and_eq_true, decide_eq_true_eq] at this
    exact ⟨this.2.1, this.2.2.1⟩)
  simpa using this

theorem of_some {l : List Ses} {u : List UInt8} (h : u ∈ mrg (seNames l)) : 1 ≤ (seOf l u).length := by
  rw [mrg_mem] at h
  obtain ⟨s, hs, rfl⟩ := List.mem_map.1 h
  exact List.length_pos_of_mem (mem_of.2 ⟨hs, rfl⟩)

/-- All of them. -/
theorem of_all {l : List Ses} (hr : RiseO seLt l) : ((mrg (seNames l)).map (seOf l)).flatten = l := by
  refine rise_unique seOrd ?_ hr (fun x => ?_)
  · unfold RiseO
    rw [List.pairwise_flatten]
    refine ⟨fun m hm => ?_, ?_⟩
    · obtain ⟨u, _, rfl⟩ := List.mem_map.1 hm
      exact of_rise hr u
    · rw [List.pairwise_map]
      refine List.Pairwise.imp (fun {a b} hab x hx y hy => ?_) (mrg_rising (seNames l))
      unfold seLt
      rw [(mem_of.1 hx).2, (mem_of.1 hy).2, hab]
      rfl
  · rw [List.mem_flatten]
    constructor
    · rintro ⟨m, hm, hx⟩
      obtain ⟨u, _, rfl⟩ := List.mem_map.1 hm
      exact (mem_of.1 hx).1
    · intro hx
      exact ⟨_, List.mem_map.2 ⟨x.u, (mrg_mem _ _).2 (List.mem_map.2 ⟨x, hx, rfl⟩), rfl⟩, mem_of.2 ⟨hx, rfl⟩⟩

theorem flat_take {l : List Ses} {us : List (List UInt8)} {k : Nat} (hk : k < us.length) : ((us.take (k + 1)).map (seOf l)).flatten = ((us.take k).map (seOf l)).flatten ++ seOf l (us.getD k []) := by
  rw [List.take_succ_eq_append_getElem hk, List.map_append, List.flatten_append, List.getD_eq_getElem?_getD, List.getElem?_eq_getElem hk]
  simp

theorem rising_at {us : List (List UInt8)} (h : Rising us) {k : Nat} (hk : k + 1 < us.length) : idLess (us.getD k []) (us.getD (k + 1) []) = true := by
  have := (List.pairwise_iff_getElem.1 h) k (k + 1) (by omega) hk (by omega)
  rw [List.getD_eq_getElem?_getD, List.getD_eq_getElem?_getD, List.getElem?_eq_getElem hk, List.getElem?_eq_getElem (by omega)]
  exact this

end Go.Proofs.Ytkmbnpjnjlcjmaa
