/-
  LAYER 10, THE CODE: Drop; Slots.
-/
import Derived.Test.YtkmbnpjnjlcjmaaHeaPut
namespace Go.Proofs.Ytkmbnpjnjlcjmaa
open Go.RowKit Go.ChangeMaps Go.MapKept

theorem at0_take {l : List Sl} {n i : Nat} (h : i < n) : at0 (l.take n) i = at0 l i := by
  unfold at0
  rw [List.getD_eq_getElem?_getD, List.getD_eq_getElem?_getD, List.getElem?_take, if_pos h]

theorem take_split {l : List Sl} (h : 0 < l.length) : l = l.take (l.length - 1) ++ [at0 l (l.length - 1)] := by
  have := List.take_append_drop (l.length - 1) l
  rw [List.drop_eq_getElem_cons (by omega), show l.length - 1 + 1 = l.length by omega, List.drop_length] at this
  rw [at0_get (by omega)]
  exact this.symm

theorem heap_take {l : List Sl} (h : HeapOK l) : HeapOK (l.take (l.length - 1)) := by
  have := heap_pop h
  rwa [List.dropLast_eq_take] at this

theorem once_take {l : List Sl} (h : Once l) (n : Nat) : Once (l.take n) := by
  unfold Once at *
  rw [List.map_take]
  exact h.sublist (List.take_sublist _ _)

/-- A list without its p-th slot, the last one in its place. -/
def slCut (l : List Sl) (p : Nat) : List Sl := (l.take (l.length - 1)).set p (at0 l (l.length - 1))

theorem cut_len (l : List Sl) (p : Nat) : (slCut l p).length = l.length - 1 := by unfold slCut; rw [List.length_set, List.length_take]; omega

theorem cut_perm {l : List Sl} {p : Nat} (hp : p < l.length - 1) : (at0 l p :: slCut l p).Perm l := by
  have h1 := set_perm (l := l.take (l.length - 1)) (i := p) (at0 l (l.length - 1)) (by rw [List.length_take]; omega)
  rw [at0_take hp] at h1
  refine h1.trans ?_
  have h2 := take_split (l := l) (by omega)
  conv => rhs; rw [h2]
  exact (List.perm_append_singleton _ _).symm

theorem take_perm {l : List Sl} (h : 0 < l.length) : (at0 l (l.length - 1) :: l.take (l.length - 1)).Perm l := by
  have h2 := take_split h
  conv => rhs; rw [h2]
  exact (List.perm_append_singleton _ _).symm

theorem cut_at {l : List Sl} {p i : Nat} (hp : p < l.length - 1) (hi : i < l.length - 1) : at0 (slCut l p) i = if i = p then at0 l (l.length - 1) else at0 l i := by
  unfold slCut
  rw [set_at _ _ (by rw [List.length_take]; omega)]
  split
  · rfl
  · rw [at0_take hi]

theorem once_cut {l : List Sl} (ho : Once l) {p : Nat} (hp : p < l.length - 1) : Once (slCut l p) := by
  have := once_perm (cut_perm hp) ho
  unfold Once at this ⊢
  rw [List.map_cons, List.nodup_cons] at this
  exact this.2

theorem spot_cut {l : List Sl} (ho : Once l) {p : Nat} (hp : p < l.length - 1) : layF (layF (spot l) (at0 l p).id none) (at0 l (l.length - 1)).id (some p) = spot (slCut l p) := by
  have ho2 := once_cut ho hp
  funext x
  unfold layF
  by_cases e1 : x = (at0 l (l.length - 1)).id
  · rw [if_pos e1, eq_comm, spot_iff ho2, cut_len, cut_at hp hp, if_pos rfl]
    exact ⟨hp, e1.symm⟩
  · rw [if_neg e1]
    by_cases e2 : x = (at0 l p).id
    · rw [if_pos e2, eq_comm, spot_none_iff]
      intro q hq
      rw [cut_len] at hq
      rw [cut_at hp hq]
      split
      · exact fun h => e1 h.symm
      · next hne =>
        intro h
        rw [e2] at h
        exact hne (once_inj ho (by omega) (by omega) h)
    · rw [if_neg e2]
      cases hs : spot l x with
      | some q =>
        obtain ⟨g1, g2⟩ := spot_some hs
        have q1 : q ≠ l.length - 1 := fun e => e1 (by rw [← e]; exact g2.symm)
        have q2 : q ≠ p := fun e => e2 (by rw [← e]; exact g2.symm)
        rw [eq_comm, spot_iff ho2, cut_len, cut_at hp (by omega), if_neg q2]
        exact ⟨by omega, g2⟩
      | none =>
        rw [eq_comm, spot_none_iff]
        intro q hq
        rw [cut_len] at hq
        rw [cut_at hp hq]
        split
        · exact fun h => e1 h.symm
        · exact spot_none hs q (by omega)

theorem spot_take {l : List Sl} (ho : Once l) (h : 0 < l.length) : layF (spot l) (at0 l (l.length - 1)).id none = spot (l.take (l.length - 1)) := by
  have ho2 := once_take ho (l.length - 1)
  have hl : (l.take (l.length - 1)).length = l.length - 1 := by rw [List.length_take]; omega
  funext x
  unfold layF
  by_cases e1 : x = (at0 l (l.length - 1)).id
  · rw [if_pos e1, eq_comm, spot_none_iff]
    intro q hq
    rw [hl] at hq
    rw [at0_take hq]
    intro h'
    rw [e1] at h'
    have := once_inj ho (by omega) (by omega) h'
    omega
  · rw [if_neg e1]
    cases hs : spot l x with
    | some q =>
      obtain ⟨g1, g2⟩ := spot_some hs
      have q1 : q ≠ l.length - 1 := fun e => e1 (by rw [← e]; exact g2.symm)
      rw [eq_comm, spot_iff ho2, hl, at0_take (by omega)]
      exact ⟨by omega, g2⟩
    | none =>
      rw [eq_comm, spot_none_iff]
      intro q hq
      rw [hl] at hq
      rw [at0_take hq]
      exact spot_none hs q (by omega)

theorem wpList_places_del {w : World} {ops : Array Oper} {rest : List Oper} {o : Oper} {a : Act} {Q : Exit → Act → World → Prop} (hg : o.guard = none) (m x : Operand)
    (hop : o.op = Op.call { callee := Callee.builtin Builtin.delete, args := #[m, x], argTypes := #[151, 3] }) {M : Nat} {f : Int → Option Nat} {k : Nat} (h : PlacesAt w M f k) (hm : a.eval m = .map (some M)) (id : Int) (hid : (Lit.int .i64 id).wf = true) (hx : a.eval x = .int .i64 id) {k' : Nat} (hk' : (if (f id).isSome then k - 1 else k) = k')
    (hK : ∀ w', PlacesAt w' M (layF f id none) k' → w.mapTurned w' M → wpList Try.prog ops Q rest (a.put o.dst (.tuple #[])) w') : wpList Try.prog ops Q (o :: rest) a w := by
  refine wpList_plain hg fun K' hK' => ?_
  obtain ⟨w', hrun, r1, r2⟩ := h.del id hid o.type
  rw [hk'] at r1
  unfold Oper.wp
  simp [execOp, hop, resolve, invoke, builtin, hm, hx, hrun, Result.andThen]
  exact hK' _ _ (hK w' r1 r2)

theorem drop_no {w : World} {base B : Nat} {v : Value} {M : Nat} {l : List Sl} (h : HOk w base B v M l) (id : Int) (hid : (Lit.int .i64 id).wf = true) (hp : spot l id = none) :
    Calls Try.prog 120 #[.pointer (some ⟨B, 0, none⟩), .int .i64 id] w fun e w' => e = .returned (.bool false) ∧ w = w' := by
  have HF := Lib.hid (find_any h id hid (show (spot l id).isSome = false by rw [hp]; rfl) (show (spot l id).getD 0 = 0 by rw [hp]; rfl))
  clear h hp
  go_enter Try.func120, Try.ntmps120
  go_wp2_with fail
  refine HF.out.mono ?_
  rintro e w2 ⟨rfl, rfl⟩
  go_wp2_with fail
  go_ret
  exact ⟨rfl, rfl⟩

set_option maxHeartbeats 3200000 in
set_option maxRecDepth 100000 in
theorem drop_yes {w : World} {base B : Nat} {v : Value} {M : Nat} {l : List Sl} (h : HOk w base B v M l) (hh : HeapOK l) (id : Int) (hid : (Lit.int .i64 id).wf = true) {p : Nat} (hp : spot l id = some p) :
    Calls Try.prog 120 #[.pointer (some ⟨B, 0, none⟩), .int .i64 id] w fun e w' =>
      ∃ v' m, e = .returned (.bool true) ∧ (at0 l p :: m).Perm l ∧ HeapOK m ∧ HOk w' base B v' M m ∧ TurnV w w' base B v M v' := by
  have HF := Lib.hid (find_any h id hid (show (spot l id).isSome = true by rw [hp]; rfl) (show (spot l id).getD 0 = p by rw [hp]; rfl))
  obtain ⟨hlt, hat⟩ := spot_some hp
  obtain ⟨g, cap, rfl, hcap, hlc⟩ := h.hat.block (by omega)
  obtain ⟨⟨i, r0, r1, r2⟩, hs⟩ : ∃ s, at0 l (l.length - 1) = s := ⟨_, rfl⟩
  obtain ⟨s0, s1, s2, s3⟩ := cells4 (h.hat.own.row slOK (k := l.length - 1) (by omega))
  rw [show l.getD (l.length - 1) Sl.zero = at0 l (l.length - 1) from rfl, hs] at s0 s1 s2 s3
  simp only at s0 s1 s2 s3
  obtain ⟨c0, c1, f0, f1⟩ := h.hat.cells
  have H1 := Lib.hid (h.later (bl_newZ w (.cells #[.int .i64 i, .int .i64 r0, .int .i64 r1, .int .i64 r2] 92)))
  obtain ⟨d0, d1, e0, e1⟩ := H1.out.hat.cells
  have hl := h.few
  have hw1 : IntKind.i64.wrap ((l.length : Int) - 1) = (l.length : Int) - 1 := IntWalk.i64_in _ (by omega)
  have hn1 : ((l.length : Int) - 1).toNat = l.length - 1 := by omega
  have h01 : (1 : Int) ≤ (l.length : Int) := by omega
  have h02 : (0 : Int) ≤ (l.length : Int) - 1 := by omega
  have h03 : (l.length : Int) - 1 < (l.length : Int) := by omega
  have h04 : l.length - 1 ≤ cap := by omega
  have H := Lib.hid h
  have HH := Lib.hid hh
  have HP := Lib.hid hp
  have hk2 : Hid ((if (spot l id).isSome then l.length - 1 else l.length) = l.length - 1) := by show _ = _; rw [hp]; rfl
  clear h hh hp
  go_enter Try.func120, Try.ntmps120
  go_wp2_with fail
  refine HF.out.mono ?_
  rintro e w2 ⟨rfl, rfl⟩
  go_wp2_with (at_delete; refine wpList_places_del rfl _ _ rfl (H1.out.hat.places.kept ?k1) rfl id hid rfl (k' := l.length - 1) hk2.out ?_)
  case k1 => exact RowKit.Below.heap_setCell _ _ _ _ (Ne.symm H1.out.hat.apart.1)
  intro w5 hp5 hturn
  have hp0 : 0 < l.length := by omega
  have hlt1 : (l.take (l.length - 1)).length = l.length - 1 := by rw [List.length_take]; omega
  have h5 : HAt ((w.alloc (.cells #[.int .i64 i, .int .i64 r0, .int .i64 r1, .int .i64 r2] 92)).setCell ⟨B, 0, none⟩ (.slice (some ⟨g, 0, none⟩) (l.length - 1) cap)) base B (.slice (some ⟨g, 0, none⟩) (l.length - 1) cap) M (l.take (l.length - 1)) (spot l) l.length := hat_slice H1.out.hat rfl rfl (ownS_cut slOK H1.out.hat.own (by omega))
  have h6 : HAt w5 base B (.slice (some ⟨g, 0, none⟩) (l.length - 1) cap) M (l.take (l.length - 1)) (layF (spot l) id none) (l.length - 1) := by
    refine ⟨h5.le, h5.leM, ?_, h5.own.blocks fun g' n' c' hv => ?_, hp5⟩
    · exact (hturn.grown.block B h5.lt (fun e => h5.apart.1 (Option.some.inj e))).trans h5.head
    · exact hturn.grown.block g' (h5.own.gblock hv).1 (fun e => (h5.apart.2 g' n' c' hv).2 (Option.some.inj e))
  have T6 : Hid (TurnV w w5 base B (.slice (some ⟨g, 0, none⟩) l.length cap) M (.slice (some ⟨g, 0, none⟩) (l.length - 1) cap)) := by
    have hb := H.out.base
    refine ⟨⟨fun x hx hn => ?_, ?_, ?_⟩, fun g' n c e => ?_⟩
    · refine (hturn.grown.block x (by simp; omega) (fun e => hn (.inr (.inl (Option.some.inj e))))).trans ?_
      rw [RowKit.Below.heap_setCell _ _ _ _ (fun e => hn (.inl e))]
      exact (bl_newZ w _).block x hx
    · have := hturn.grown.size; simp at this; omega
    · refine Below.grown (Below.setCell ((bl_newZ w _).mono hb) H.out.hat.le _) hturn.grown (by simp; omega) (fun k hk => by obtain rfl := Option.some.inj hk; exact H.out.hat.leM)
    · simp only [Value.slice.injEq, Option.some.injEq, Addr.mk.injEq, and_true] at e
      exact .inl ⟨_, _, by rw [← e.1]⟩
  have hBw := H.out.hat.lt
  have hMw := H.out.hat.places.lt
  have hk : ∀ o, w5.cell? ⟨w.heap.size, o, none⟩ = (w.alloc (.cells #[.int .i64 i, .int .i64 r0, .int .i64 r1, .int .i64 r2] 92)).cell? ⟨w.heap.size, o, none⟩ := by
    intro o
    refine World.cell?_of_block ((hturn.grown.block w.heap.size (by simp) (fun e => by have := Option.some.inj e; omega)).trans ?_)
    exact RowKit.Below.heap_setCell _ _ _ _ (by show w.heap.size ≠ B; omega)
  have k0 := (hk 0).trans (show _ = some (.int .i64 i) by simp)
  have k1 := (hk 1).trans (show _ = some (.int .i64 r0) by simp)
  have k2 := (hk 2).trans (show _ = some (.int .i64 r1) by simp)
  have k3 := (hk 3).trans (show _ = some (.int .i64 r2) by simp)
  have H6 := Lib.hid h6
  clear h5 h6 hp5 hturn hk s0 s1 s2 s3 c0 c1 f0 f1 d0 d1 e0 e1
  by_cases hpe : p < l.length - 1
  · have hs2 : (spot l i).isSome = true := by
      have := spot_is H.out.once (i := l.length - 1) (by omega) hs
      exact this
    have hif : (Lit.int .i64 i).wf = true := by have := H.out.fits.at0 (i := l.length - 1) (by omega); rw [hs] at this; exact this
    have hne : ¬ i = id := by
      intro e
      have h1 : (at0 l (l.length - 1)).id = (at0 l p).id := by rw [hs, hat]; exact e
      have := once_inj H.out.once (by omega) hlt h1
      omega
    have hs3 : (layF (spot l) id none i).isSome = true := by unfold layF; rw [if_neg hne]; exact hs2
    have t1 : decide ((p : Int) < (l.length : Int) - 1) = true := by simp; omega
    have HSC := Lib.hid (spot_cut H.out.once hpe)
    have HS := Lib.hid hs
    clear hs hs2 hne
    go_wp2_with fail
    refine (lay_any H6.out (a := p) (by rw [hlt1]; exact hpe) (by rw [hlt1]; omega) (by omega) i r0 r1 r2 hif).mono ?_
    rintro e w7 ⟨rfl, h7, b7, s7, l7⟩
    have hsc := HSC.out
    rw [HS.out, hat] at hsc
    rw [if_pos hs3, hsc] at h7
    have T7 := Lib.hid (T6.out.trans (turnV_same ⟨b7, s7, l7⟩))
    have H7 : Hid (HOk w7 base B (.slice (some ⟨g, 0, none⟩) (l.length - 1) cap) M (slCut l p)) := by
      refine ⟨?_, once_cut H.out.once hpe, fun s hs => ?_, by rw [cut_len]; omega⟩
      · have e : slCut l p = (l.take (l.length - 1)).set p ⟨i, r0, r1, r2⟩ := by unfold slCut; rw [HS.out]
        rw [cut_len]
        rw [← e] at h7
        exact h7
      · exact H.out.fits s ((cut_perm hpe).mem_iff.1 (List.mem_cons_of_mem _ hs))
    have HO : Hid (Off (slCut l p) p) := off_set (heap_take HH.out) (by rw [hlt1]; exact hpe) _
    have HCP := Lib.hid (cut_perm hpe)
    clear h7 b7 s7 l7 k0 k1 k2 k3 hsc
    go_wp2_with fail
    refine (settle_any H7.out (a := p) (by rw [cut_len]; exact hpe) HO.out).mono ?_
    rintro e w8 ⟨m, rfl, p8, o8, h8, t8⟩
    have T8 := Lib.hid (T7.out.trans (turnV_same t8))
    have H8 := Lib.hid h8
    have P8 := Lib.hid ((p8.cons _).trans HCP.out)
    have O8 := Lib.hid o8
    clear h8 t8 p8 o8
    go_wp2_with fail
    go_ret
    exact ⟨_, m, rfl, P8.out, O8.out, H8.out, T8.out⟩
  · obtain rfl : p = l.length - 1 := by omega
    have t1 : decide ((((l.length - 1 : Nat) : Int)) < (l.length : Int) - 1) = false := by simp; omega
    have H7 : Hid (HOk w5 base B (.slice (some ⟨g, 0, none⟩) (l.length - 1) cap) M (l.take (l.length - 1))) := by
      refine ⟨?_, once_take H.out.once _, fun s hs => H.out.fits s (List.mem_of_mem_take hs), by rw [hlt1]; omega⟩
      rw [hlt1, ← spot_take H.out.once hp0, hat]
      exact H6.out
    have HTP := Lib.hid (take_perm hp0)
    have HO := Lib.hid (heap_take HH.out)
    clear k0 k1 k2 k3 hs
    go_wp2_with fail
    go_ret
    exact ⟨_, _, rfl, HTP.out, HO.out, H7.out, T6.out⟩

end Go.Proofs.Ytkmbnpjnjlcjmaa
