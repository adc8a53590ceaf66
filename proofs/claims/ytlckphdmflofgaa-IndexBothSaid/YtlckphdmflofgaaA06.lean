/-
  TEXTS OF THE PROOF, one behind the other: IxBothP, TxtS.
-/
import Derived.Test.YtlckphdmflofgaaA01
import Derived.Test.YtlckphdmflofgaaProg
import Derived.Test.YtlckphdmflofgaaA02

section
/-
  LAYER 13, PLAIN: how many pairs all users have, together.
-/
namespace Go.Proofs.Ytlckphdmflofgaa

theorem rising_nodup {l : List (List UInt8)} (h : Rising l) : l.Nodup := by
  unfold List.Nodup
  refine h.imp fun {a b} hab e => ?_
  subst e
  rw [idLess_irrefl] at hab
  cases hab

theorem mrg_len_nodup {l : List (List UInt8)} (h : l.Nodup) : (mrg l).length = l.length :=
  Nat.le_antisymm (nodup_le (rising_nodup (mrg_rising l)) fun x hx => (mrg_mem l x).1 hx) (nodup_le h fun x hx => (mrg_mem l x).2 hx)

theorem nodup_map_on {α β : Type} {f : α → β} : ∀ {l : List α}, l.Nodup → (∀ a ∈ l, ∀ b ∈ l, f a = f b → a = b) → (l.map f).Nodup
  | [], _, _ => List.nodup_nil
  | a :: t, hn, hf => by
    rw [List.nodup_cons] at hn
    rw [List.map_cons, List.nodup_cons]
    refine ⟨fun hm => ?_, nodup_map_on hn.2 fun x hx y hy => hf x (List.mem_cons_of_mem a hx) y (List.mem_cons_of_mem a hy)⟩
    obtain ⟨b, hb, e⟩ := List.mem_map.1 hm
    have := hf a List.mem_cons_self b (List.mem_cons_of_mem a hb) e.symm
    subst this
    exact hn.1 hb

theorem pc_inj {s : Bool} {p q : Pr} (h1 : pcOf s p = pcOf s q) (h2 : pcOf (!s) p = pcOf (!s) q) : p = q := by
  obtain ⟨a, b⟩ := p
  obtain ⟨c, d⟩ := q
  cases s with
  | false => have h1 : a = c := h1; have h2 : b = d := h2; rw [h1, h2]
  | true => have h1 : b = d := h1; have h2 : a = c := h2; rw [h1, h2]

theorem side_count {L : List Pr} (h : L.Nodup) (s : Bool) (u : List UInt8) : (ixSide L s u).length = (L.filter (fun p => pcOf s p = u)).length := by
  unfold ixSide
  rw [mrg_len_nodup, List.length_map]
  refine nodup_map_on (h.filter _) fun a ha b hb e => ?_
  rw [List.mem_filter, decide_eq_true_eq] at ha hb
  exact pc_inj (ha.2.trans hb.2.symm) e

/-- How many pairs the first k users have. -/
def sumTo (L : List Pr) (s : Bool) (ns : List (List UInt8)) (k : Nat) : Nat := ((ns.take k).map fun u => (ixSide L s u).length).sum

theorem sumTo_next {L : List Pr} {s : Bool} {ns : List (List UInt8)} {k : Nat} (hk : k < ns.length) {u : List UInt8} (hu : ns.getD k [] = u) : sumTo L s ns (k + 1) = sumTo L s ns k + (ixSide L s u).length := by
  have e : ns[k] = u := by rw [← hu, List.getD_eq_getElem?_getD, List.getElem?_eq_getElem hk]; rfl
  unfold sumTo
  rw [List.take_succ_eq_append_getElem hk, e, List.map_append, List.sum_append]
  simp

theorem sum_one (v : List UInt8) : ∀ (ns : List (List UInt8)), ns.Nodup → v ∈ ns → (ns.map fun u => if v = u then 1 else 0).sum = 1
  | [], _, h => by cases h
  | a :: t, hn, h => by
    rw [List.nodup_cons] at hn
    rw [List.map_cons, List.sum_cons]
    by_cases e : v = a
    · subst e
      rw [if_pos rfl]
      have : (t.map fun u => if v = u then 1 else 0).sum = 0 := by
        have hz : ∀ (l : List (List UInt8)), v ∉ l → (l.map fun u => if v = u then 1 else 0).sum = 0 := by
          intro l
          induction l with
          | nil => intro _; rfl
          | cons b r ih =>
            intro hb
            rw [List.mem_cons, not_or] at hb
            rw [List.map_cons, List.sum_cons, if_neg hb.1, ih hb.2]
        exact hz t hn.1
      omega
    · rw [if_neg e, sum_one v t hn.2 ((List.mem_cons.1 h).resolve_left e)]

theorem sum_filter (s : Bool) (ns : List (List UInt8)) (hn : ns.Nodup) : ∀ L : List Pr, (∀ p ∈ L, pcOf s p ∈ ns) → (ns.map fun u => (L.filter (fun p => pcOf s p = u)).length).sum = L.length
  | [], _ => by
    have : ∀ l : List (List UInt8), (l.map fun u => (([] : List Pr).filter (fun p => pcOf s p = u)).length).sum = 0 := by
      intro l
      induction l with
      | nil => rfl
      | cons a t ih => rw [List.map_cons, List.sum_cons, ih]; rfl
    exact this ns
  | p :: L, h => by
    have ih := sum_filter s ns hn L fun q hq => h q (List.mem_cons_of_mem p hq)
    have h1 := sum_one (pcOf s p) ns hn (h p List.mem_cons_self)
    have e : ∀ l : List (List UInt8), (l.map fun u => ((p :: L).filter (fun q => pcOf s q = u)).length).sum = (l.map fun u => if pcOf s p = u then 1 else 0).sum + (l.map fun u => (L.filter (fun q => pcOf s q = u)).length).sum := by
      intro l
      induction l with
      | nil => rfl
      | cons a t ih =>
        rw [List.map_cons, List.sum_cons, ih, List.map_cons, List.sum_cons, List.map_cons, List.sum_cons, List.filter_cons]
        by_cases g : pcOf s p = a
        · rw [if_pos g, if_pos (by simpa using g), List.length_cons]
          omega
        · rw [if_neg g, if_neg (by simpa using g)]
          omega
    rw [e, h1, ih, List.length_cons]
    omega

theorem sumTo_all {L : List Pr} (hL : L.Nodup) (s : Bool) {ns : List (List UInt8)} (hn : ns.Nodup) (h : ∀ p ∈ L, pcOf s p ∈ ns) : sumTo L s ns ns.length = L.length := by
  unfold sumTo
  rw [List.take_length, ← sum_filter s ns hn L h]
  congr 1
  refine List.map_congr_left fun u _ => ?_
  exact side_count hL s u

/-- Whoever is told has the pair. -/
theorem side_has {L : List Pr} {s : Bool} {u : List UInt8} {k : Nat} (hk : k < (ixSide L s u).length) {x : List UInt8} (hx : (ixSide L s u).getD k [] = x) : ixHas L (if s then (x, u) else (u, x)) = true := by
  have hm : x ∈ ixSide L s u := by
    rw [← hx, List.getD_eq_getElem?_getD, List.getElem?_eq_getElem hk]
    exact List.getElem_mem hk
  unfold ixSide at hm
  rw [mrg_mem, List.mem_map] at hm
  obtain ⟨p, hp, e⟩ := hm
  rw [List.mem_filter, decide_eq_true_eq] at hp
  unfold ixHas
  rw [decide_eq_true_eq]
  obtain ⟨a, b⟩ := p
  cases s with
  | false =>
    have h1 : a = u := hp.2
    have h2 : b = x := e
    subst h1 h2
    exact hp.1
  | true =>
    have h1 : b = u := hp.2
    have h2 : a = x := e
    subst h1 h2
    exact hp.1

/-- .. and they rise. -/
theorem side_rise {L : List Pr} {s : Bool} {u : List UInt8} {k : Nat} (hk : k + 1 < (ixSide L s u).length) {x y : List UInt8} (hx : (ixSide L s u).getD k [] = x) (hy : (ixSide L s u).getD (k + 1) [] = y) : idLess x y = true := by
  have h := mrg_rising ((L.filter (fun p => pcOf s p = u)).map (pcOf (!s)))
  have h : Rising (ixSide L s u) := h
  unfold Rising at h
  rw [List.pairwise_iff_getElem] at h
  have := h k (k + 1) (by omega) hk (by omega)
  rw [← hx, ← hy, List.getD_eq_getElem?_getD, List.getD_eq_getElem?_getD, List.getElem?_eq_getElem (by omega), List.getElem?_eq_getElem hk]
  exact this

/-- The names of calls hold those of all pairs. -/
def NamesOf (L : List Pr) (ns : List (List UInt8)) : Prop := ∀ p ∈ L, p.1 ∈ ns ∧ p.2 ∈ ns

theorem names_set {L : List Pr} {ns : List (List UInt8)} (h : NamesOf L ns) {a b : List UInt8} {on : Bool} {L' : List Pr} {r : Bool} (hs : ixSet L (a, b) on = (L', r)) : NamesOf L' (ns ++ [a, b]) := by
  have := congrArg Prod.fst hs
  unfold ixSet at this
  subst this
  intro p hp
  have old : p ∈ L → p.1 ∈ ns ++ [a, b] ∧ p.2 ∈ ns ++ [a, b] := fun hp => ⟨List.mem_append.2 (.inl (h p hp).1), List.mem_append.2 (.inl (h p hp).2)⟩
  split at hp
  · exact old hp
  · split at hp
    · rcases List.mem_append.1 hp with e | e
      · exact old e
      · rw [List.mem_singleton] at e
        subst e
        simp
    · exact old (List.mem_filter.1 hp).1

theorem names_forget {L : List Pr} {ns : List (List UInt8)} (h : NamesOf L ns) (u a b : List UInt8) : NamesOf (ixForget L u) (ns ++ [a, b]) := fun p hp =>
  ⟨List.mem_append.2 (.inl (h p (List.mem_filter.1 hp).1).1), List.mem_append.2 (.inl (h p (List.mem_filter.1 hp).1).2)⟩

theorem names_pc {L : List Pr} {ns : List (List UInt8)} (h : NamesOf L ns) (s : Bool) : ∀ p ∈ L, pcOf s p ∈ mrg (ns ++ []) := by
  intro p hp
  rw [mrg_mem, List.append_nil]
  cases s with
  | false => exact (h p hp).1
  | true => exact (h p hp).2

end Go.Proofs.Ytlckphdmflofgaa
end

section
/-
  ROWS OF TEXTS AS ROWS OF ONE CELL, AND PARTS OF THEM.
-/
namespace Go.Proofs.Ytlckphdmflofgaa
open Go.RowKit

def txtVals (t : List UInt8) : List Value := [encS t]

theorem txtOK : RowOK Try.prog txtVals 1 [] 9 38 (.string ⟨#[]⟩) 16 where
  len _ := rfl
  one a u hu := by
    simp only [txtVals, List.mem_cons, List.not_mem_nil, or_false] at hu
    subst hu
    rfl
  pos := by decide
  small := by decide
  under := Try.underlying38
  info := by kernel_rfl
  zvals := rfl
  fits := by decide

theorem cells_txt : ∀ ls : List (List UInt8), cellsS txtVals ls = ls.map encS
  | [] => rfl
  | a :: t => by rw [cellsS_cons, cells_txt t]; rfl

theorem ownT_of {w : World} {base : Nat} {v : Value} {ls : List (List UInt8)} (h : OwnS txtVals 1 9 w base v ls) : OwnT w base 9 v ls := by
  unfold OwnS at h
  rwa [cells_txt] at h

theorem Texts.rd {w : World} {v : Value} {ls : List (List UInt8)} (h : Texts w v ls) : RdS txtVals 1 [] w v ls := by
  obtain ⟨a, cap, h1, h2, h3, h4, h5⟩ := h
  refine ⟨a, cap, h1, h2, h3, h4, ?_⟩
  rcases h5 with h5 | ⟨b, off, e, hlt, hc⟩
  · exact .inl h5
  · refine .inr ⟨b, off, e, hlt, fun i hi j u hu => ?_⟩
    have hj : j < 1 := (List.getElem?_eq_some_iff.1 hu).1
    obtain rfl : j = 0 := by omega
    simp only [txtVals, List.getElem?_cons_zero, Option.some.injEq] at hu
    subst hu
    rw [Nat.mul_one, Nat.add_zero]
    exact hc i hi

end Go.Proofs.Ytlckphdmflofgaa
end
