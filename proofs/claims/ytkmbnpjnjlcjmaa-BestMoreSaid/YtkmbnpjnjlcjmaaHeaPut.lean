/-
  LAYER 10, THE CODE: Put.
-/
import Derived.Test.YtkmbnpjnjlcjmaaHeaFind
import Derived.Deep.AppendLies
namespace Go.Proofs.Ytkmbnpjnjlcjmaa
open Go.RowKit

/-- A slot put: instead of the one of its id, or at the end. -/
def slPut (l : List Sl) (s : Sl) : List Sl :=
  match spot l s.id with
  | some p => l.set p s
  | none => l ++ [s]

theorem map_set_id {l : List Sl} {p : Nat} (hp : p < l.length) {s : Sl} (hs : (at0 l p).id = s.id) : (l.set p s).map Sl.id = l.map Sl.id := by
  rw [List.map_set, ← hs, at0_get hp]
  apply List.ext_getElem?
  intro i
  rw [List.getElem?_set]
  split
  · next e =>
    subst e
    rw [if_pos (by simpa using hp)]
    simp [hp]
  · rfl

theorem once_new {l : List Sl} (h : Once l) {s : Sl} (hs : spot l s.id = none) : Once (l ++ [s]) := by
  unfold Once
  rw [List.map_append, List.nodup_append]
  refine ⟨h, by simp, ?_⟩
  intro a ha b hb e
  obtain ⟨x, hx, rfl⟩ := List.mem_map.1 ha
  obtain ⟨i, hi, rfl⟩ := List.getElem_of_mem hx
  have := spot_none hs i hi
  rw [at0_get hi] at this
  simp at hb
  exact this (e.trans hb)

theorem spot_set {l : List Sl} (ho : Once l) {p : Nat} {s : Sl} (hp : spot l s.id = some p) : layF (spot l) s.id (some p) = spot (l.set p s) := by
  obtain ⟨h1, h2⟩ := spot_some hp
  have ho2 : Once (l.set p s) := by unfold Once; rw [map_set_id h1 h2]; exact ho
  funext x
  unfold layF
  by_cases e : x = s.id
  · rw [if_pos e, eq_comm, spot_iff ho2, List.length_set, set_at _ _ h1, if_pos rfl]
    exact ⟨h1, e.symm⟩
  · rw [if_neg e]
    cases hs : spot l x with
    | some q =>
      obtain ⟨g1, g2⟩ := spot_some hs
      rw [eq_comm, spot_iff ho2, List.length_set, set_at _ _ h1]
      by_cases eq : q = p
      · subst eq; rw [h2] at g2; exact absurd g2.symm e
      · rw [if_neg eq]; exact ⟨g1, g2⟩
    | none =>
      rw [eq_comm, spot_none_iff]
      intro q hq
      rw [List.length_set] at hq
      rw [set_at _ _ h1]
      split
      · exact fun h => e h.symm
      · exact spot_none hs q hq

theorem at0_app {l : List Sl} {s : Sl} : at0 (l ++ [s]) l.length = s := by unfold at0; simp

theorem at0_old {l : List Sl} {s : Sl} {i : Nat} (h : i < l.length) : at0 (l ++ [s]) i = at0 l i := by unfold at0; simp [List.getD, List.getElem?_append_left h]

theorem spot_new {l : List Sl} (ho : Once l) {s : Sl} (hs : spot l s.id = none) : layF (spot l) s.id (some l.length) = spot (l ++ [s]) := by
  have ho2 := once_new ho hs
  funext x
  unfold layF
  by_cases e : x = s.id
  · rw [if_pos e, eq_comm, spot_iff ho2, at0_app]
    exact ⟨by simp, e.symm⟩
  · rw [if_neg e]
    cases h : spot l x with
    | some q =>
      obtain ⟨g1, g2⟩ := spot_some h
      rw [eq_comm, spot_iff ho2, at0_old g1]
      exact ⟨by simp; omega, g2⟩
    | none =>
      rw [eq_comm, spot_none_iff]
      intro q hq
      by_cases e2 : q = l.length
      · subst e2; rw [at0_app]; exact fun h => e h.symm
      · have : q < l.length := by simp at hq; omega
        rw [at0_old this]; exact spot_none h q this

theorem set_last {l : List Sl} (z s : Sl) : (l ++ [z]).set l.length s = l ++ [s] := by
  rw [List.set_append_right _ _ (Nat.le_refl _)]
  simp

/-- .. and the slots' slice may have gone to a new block. -/
structure TurnV (w w' : World) (base B : Nat) (v : Value) (M : Nat) (v' : Value) : Prop where
  turn : Turn w w' base B v M
  new : ∀ g n c, v' = .slice (some ⟨g, 0, none⟩) n c → (∃ n c, v = .slice (some ⟨g, 0, none⟩) n c) ∨ w.heap.size ≤ g

theorem TurnV.trans {a b c : World} {base B : Nat} {v v' v'' : Value} {M : Nat} (h : TurnV a b base B v M v') (k : TurnV b c base B v' M v'') : TurnV a c base B v M v'' := by
  refine ⟨⟨fun x hx hn => ?_, Nat.le_trans h.turn.size k.turn.size, h.turn.below.trans k.turn.below⟩, fun g n c hv => ?_⟩
  · refine (k.turn.beside x (Nat.lt_of_lt_of_le hx h.turn.size) ?_).trans (h.turn.beside x hx hn)
    rintro (e | e | ⟨n, c, e⟩)
    · exact hn (.inl e)
    · exact hn (.inr (.inl e))
    · rcases h.new x n c e with ⟨n', c', e'⟩ | hge
      · exact hn (.inr (.inr ⟨n', c', e'⟩))
      · omega
  · rcases k.new g n c hv with ⟨n', c', e'⟩ | hge
    · exact h.new g n' c' e'
    · exact .inr (Nat.le_trans h.turn.size hge)

theorem turnV_same {a b : World} {base B : Nat} {v : Value} {M : Nat} (h : Turn a b base B v M) : TurnV a b base B v M v := ⟨h, fun _ n c hv => .inl ⟨n, c, hv⟩⟩

theorem own_blk {α : Type} {vals : α → List Value} {sz : Nat} {T : TypeId} {w : World} {base : Nat} {v : Value} {t : List α} (h : OwnS vals sz T w base v t) {g : Nat} (hg : v.ownBlock = some g) : ∃ n c, v = .slice (some ⟨g, 0, none⟩) n c := by
  rcases h.2 with ⟨rfl, _⟩ | ⟨g', cap, cur, rfl, _⟩
  · cases hg
  · injection hg with e
    subst e
    exact ⟨_, _, rfl⟩

/-- What is known behind an append of one element. -/
def OutG {α : Type} (vals : α → List Value) (sz : Nat) (T : TypeId) (w w' : World) (base : Nat) (v : Value) (t : List α) (m : α) (v' : Value) : Prop :=
  ∃ g cap, v' = .slice (some ⟨g, 0, none⟩) (t.length + 1) cap ∧ OwnS vals sz T w' base v' (t ++ [m]) ∧ w.grownBy w' v.ownBlock ∧ (v.ownBlock = some g ∨ g = w.heap.size) ∧ g < w'.heap.size

/-- 'append(s, x)' of one element: where the new slice lies, and that no other block is turned. -/
theorem wpList_append_G {α : Type} {P : Program} {vals : α → List Value} {sz : Nat} {zero : α} {T S : TypeId} {Z : Value} {bytes : Nat} (D : RowOK P vals sz zero T S Z bytes) {w : World} {ops : Array Oper} {rest : List Oper} {o : Oper} {a : Act} {Q : Exit → Act → World → Prop}
    (hgd : o.guard = none) (s x : Operand) (ho : o.op = .call { callee := .builtin .append, args := #[s, x], argTypes := #[S, S] })
    (base : Nat) (v : Value) (t : List α) (hs : a.eval s = v) (hown : OwnS vals sz T w base v t)
    (ad : Addr) (c : Nat) (m : α) (hx : a.eval x = .slice (some ad) 1 c) (hsome : SrcS vals w ad [m])
    (hlen : t.length < 4294967) (hbase : base ≤ w.heap.size)
    (h : ∀ v' w', OutG vals sz T w w' base v t m v' → wpList P ops Q rest (a.put o.dst v') w') :
    wpList P ops Q (o :: rest) a w := by
  obtain ⟨i, hi, hz, hsize, hby⟩ := info_parts D.info
  have hzl : Z.cells.size = sz := by have := congrArg List.length D.zvals; rwa [Array.length_toList, D.len] at this
  refine wpList_append_lies _ hgd s x S ho base T i _ sz bytes D.under hi hz hsize hby hzl D.pos v t.length (cellsS vals t) hs hown ad 1 c (cellsS vals [m]) hx (cellsS_len D.len [m]) hsome (cellsS_single D.one [m]) (by decide)
    (by unfold maxLen; omega) (Nat.le_trans (Nat.mul_le_mul (show t.length + 1 ≤ 4294967 by omega) D.fits) (by decide)) hbase _ rfl ?_
  intro g cap w' h1 h2 h3 h4
  refine h _ w' ⟨g, cap, rfl, ?_, h2, h3, h4⟩
  unfold OwnS
  rw [cellsS_append, List.length_append]
  exact h1

/-- The slots' slice stored anew. -/
theorem hat_slice {w w3 : World} {base B : Nat} {v v' : Value} {M : Nat} {l m : List Sl} {f : Int → Option Nat} {k : Nat} (h : HAt w base B v M l f k) (hB : w3.heap[B]? = w.heap[B]?) (hM : w3.heap[M]? = w.heap[M]?) (ho : OwnSl w3 base v' m) :
    HAt (w3.setCell ⟨B, 0, none⟩ v') base B v' M m f k := by
  have hh := hB.trans h.head
  have hset := heap_setCell_same w3 B 0 _ _ v' hh
  have hne : ∀ b, b ≠ B → (w3.setCell ⟨B, 0, none⟩ v').heap[b]? = w3.heap[b]? := fun b hb => RowKit.Below.heap_setCell _ _ _ _ hb
  refine ⟨h.le, h.leM, hset, ho.blocks fun g n c hv => hne g ?_, h.places.kept ((hne M (Ne.symm h.apart.1)).trans hM)⟩
  intro e
  subst e
  obtain ⟨_, _, cur, hc⟩ := ho.gblock hv
  rw [hh] at hc
  simp at hc

set_option maxHeartbeats 3200000 in
set_option maxRecDepth 100000 in
theorem put_old {w : World} {base B : Nat} {v : Value} {M : Nat} {l : List Sl} (h : HOk w base B v M l) (hh : HeapOK l) (id r0 r1 r2 : Int) (hid : (Lit.int .i64 id).wf = true) {p : Nat} (hp : spot l id = some p) :
    Calls Try.prog 119 #[.pointer (some ⟨B, 0, none⟩), .int .i64 id, .agg #[.int .i64 r0, .int .i64 r1, .int .i64 r2]] w fun e w' =>
      ∃ v' m, e = .returned (.bool false) ∧ m.Perm (l.set p ⟨id, r0, r1, r2⟩) ∧ HeapOK m ∧ HOk w' base B v' M m ∧ TurnV w w' base B v M v' := by
  have hb1 := bl_newZ w (.cells #[.int .i64 r0, .int .i64 r1, .int .i64 r2] 90)
  have H1 := Lib.hid (h.later hb1)
  have T1 := Lib.hid (turn_below (v := v) (B := B) (M := M) hb1 h.base)
  have HF := Lib.hid (find_any H1.out id hid (show (spot l id).isSome = true by rw [hp]; rfl) (show (spot l id).getD 0 = p by rw [hp]; rfl))
  obtain ⟨hlt, hat⟩ := spot_some hp
  have H := Lib.hid h
  have HH := Lib.hid hh
  have HP := Lib.hid hp
  clear h hh hp hb1
  go_enter Try.func119, Try.ntmps119
  go_wp2_with fail
  refine HF.out.mono ?_
  rintro e w2 ⟨rfl, rfl⟩
  go_wp2_with fail
  refine (lay_any H1.out.hat hlt H.out.few H.out.few id r0 r1 r2 hid).mono ?_
  rintro e w3 ⟨rfl, h3, b3, s3, l3⟩
  rw [if_pos (by rw [HP.out]; rfl), spot_set H.out.once (s := ⟨id, r0, r1, r2⟩) HP.out] at h3
  have T3 := Lib.hid (T1.out.trans ⟨b3, s3, l3⟩)
  have H3 : Hid (HOk w3 base B v M (l.set p ⟨id, r0, r1, r2⟩)) := by
    refine ⟨?_, by unfold Once; rw [map_set_id hlt hat]; exact H.out.once, fun s hs => ?_, by rw [List.length_set]; exact H.out.few⟩
    · rw [List.length_set]; exact h3
    · rcases List.mem_or_eq_of_mem_set hs with hs | rfl
      · exact H.out.fits s hs
      · exact hid
  have HO := Lib.hid (off_set HH.out hlt ⟨id, r0, r1, r2⟩)
  clear h3 b3 s3 l3
  go_wp2_with fail
  refine (settle_any H3.out (by rw [List.length_set]; exact hlt) HO.out).mono ?_
  rintro e w4 ⟨m, rfl, p4, o4, h4, t4⟩
  have T4 := Lib.hid (T3.out.trans t4)
  have H4 := Lib.hid h4
  have P4 := Lib.hid p4
  have O4 := Lib.hid o4
  clear h4 t4 p4 o4
  go_wp2_with fail
  go_ret
  exact ⟨v, m, rfl, P4.out, O4.out, H4.out, turnV_same T4.out⟩

set_option maxHeartbeats 3200000 in
set_option maxRecDepth 100000 in
theorem put_new {w : World} {base B : Nat} {v : Value} {M : Nat} {l : List Sl} (h : HOk w base B v M l) (hh : HeapOK l) (hl : l.length < 1000) (id r0 r1 r2 : Int) (hid : (Lit.int .i64 id).wf = true) (hp : spot l id = none) :
    Calls Try.prog 119 #[.pointer (some ⟨B, 0, none⟩), .int .i64 id, .agg #[.int .i64 r0, .int .i64 r1, .int .i64 r2]] w fun e w' =>
      ∃ v' m, e = .returned (.bool true) ∧ m.Perm (l ++ [⟨id, r0, r1, r2⟩]) ∧ HeapOK m ∧ HOk w' base B v' M m ∧ TurnV w w' base B v M v' := by
  have hb1 := bl_newZ w (.cells #[.int .i64 r0, .int .i64 r1, .int .i64 r2] 90)
  have hb2 := bl_allocZ hb1 (.cells #[.int .i64 0, .int .i64 0, .int .i64 0, .int .i64 0] 92)
  have H1 := Lib.hid (h.later hb1)
  have H2 := Lib.hid (h.later hb2)
  have HF := Lib.hid (find_any H1.out id hid (show (spot l id).isSome = false by rw [hp]; rfl) (show (spot l id).getD 0 = 0 by rw [hp]; rfl))
  have g0 : ((w.alloc (.cells #[.int .i64 r0, .int .i64 r1, .int .i64 r2] 90)).alloc (.cells #[.int .i64 0, .int .i64 0, .int .i64 0, .int .i64 0] 92)).cell? ⟨w.heap.size, 0, none⟩ = some (.int .i64 r0) := by simp
  have g1 : ((w.alloc (.cells #[.int .i64 r0, .int .i64 r1, .int .i64 r2] 90)).alloc (.cells #[.int .i64 0, .int .i64 0, .int .i64 0, .int .i64 0] 92)).cell? ⟨w.heap.size, 1, none⟩ = some (.int .i64 r1) := by simp
  have g2 : ((w.alloc (.cells #[.int .i64 r0, .int .i64 r1, .int .i64 r2] 90)).alloc (.cells #[.int .i64 0, .int .i64 0, .int .i64 0, .int .i64 0] 92)).cell? ⟨w.heap.size, 2, none⟩ = some (.int .i64 r2) := by simp
  have G0 := Lib.hid g0
  have G1 := Lib.hid g1
  have G2 := Lib.hid g2
  have HB2 := Lib.hid hb2
  obtain ⟨c0, c1, f0, f1⟩ := H1.out.hat.cells
  obtain ⟨a, cap, hv⟩ := own_len h.hat.own
  subst hv
  have H := Lib.hid h
  have HH := Lib.hid hh
  have HP := Lib.hid hp
  have hbw := h.base
  clear h hh hp hb1 hb2 g0 g1 g2
  go_enter Try.func119, Try.ntmps119
  go_wp2_with fail
  refine HF.out.mono ?_
  rintro e w2 ⟨rfl, rfl⟩
  go_wp2_with (at_builtin; refine wpList_append_G slOK rfl _ _ rfl base _ l rfl H2.out.hat.own _ _ Sl.zero rfl ?c1 (Nat.lt_trans hl (by decide)) ?c2 ?_)
  case c1 => exact srcS_new (w := w.alloc (.cells #[.int .i64 r0, .int .i64 r1, .int .i64 r2] 90)) rfl (by simp) _ rfl
  case c2 => rw [World.size_alloc, World.size_alloc]; exact Nat.le_trans hbw (Nat.le_add_right _ 2)
  intro v3 w3 ⟨g, cap', hv3, hown3, hgrow, hlies, hglt⟩
  subst hv3
  simp only [World.size_alloc] at hlies
  have hB3 := hgrow.block B H2.out.hat.lt (fun e => by obtain ⟨n, c, e'⟩ := own_blk H2.out.hat.own e.symm; exact (H2.out.hat.apart.2 B n c e').1 rfl)
  have hM3 := hgrow.block M H2.out.hat.places.lt (fun e => by obtain ⟨n, c, e'⟩ := own_blk H2.out.hat.own e.symm; exact (H2.out.hat.apart.2 M n c e').2 rfl)
  have H4 := Lib.hid (hat_slice H2.out.hat hB3 hM3 hown3)
  have z0 : w3.cell? ⟨B, 0, none⟩ = some (.slice a l.length cap) := (World.cell?_of_block hB3).trans H2.out.hat.cells.1
  have z1 : w3.frozen? ⟨B, 0, none⟩ = false := frozen_of_row w3 B 0 _ _ (hB3.trans H2.out.hat.head)
  have hfar : ∀ X, w.heap.size ≤ X → X < w.heap.size + 2 → ¬ some X = (Value.slice a l.length cap).ownBlock := by
    intro X hX _ e
    obtain ⟨n, c, e'⟩ := own_blk H.out.hat.own e.symm
    have := (H.out.hat.own.gblock e').1
    omega
  have hk : ∀ o, w3.cell? ⟨w.heap.size, o, none⟩ = ((w.alloc (.cells #[.int .i64 r0, .int .i64 r1, .int .i64 r2] 90)).alloc (.cells #[.int .i64 0, .int .i64 0, .int .i64 0, .int .i64 0] 92)).cell? ⟨w.heap.size, o, none⟩ := fun o => World.cell?_of_block (hgrow.block w.heap.size (by simp; omega) (hfar _ (by omega) (by omega)))
  have k0 := (hk 0).trans G0.out
  have k1 := (hk 1).trans G1.out
  have k2 := (hk 2).trans G2.out
  have hBw := H.out.hat.lt
  have n1 : ¬ w.heap.size = B := by omega
  have n2 : ¬ B = w.heap.size := by omega
  have T4 : Hid (TurnV w (w3.setCell ⟨B, 0, none⟩ (.slice (some ⟨g, 0, none⟩) (l.length + 1) cap')) base B (.slice a l.length cap) M (.slice (some ⟨g, 0, none⟩) (l.length + 1) cap')) := by
    have hsz := HB2.out.size
    refine ⟨⟨fun x hx hn => ?_, by have := hgrow.size; simp at this ⊢; omega, ?_⟩, fun g' n c e => ?_⟩
    · rw [RowKit.Below.heap_setCell _ _ _ _ (fun e => hn (.inl e))]
      refine (hgrow.block x (by simp; omega) (fun e => ?_)).trans (HB2.out.block x hx)
      obtain ⟨n, c, e'⟩ := own_blk H.out.hat.own e.symm
      exact hn (.inr (.inr ⟨n, c, e'⟩))
    · refine Below.setCell ((HB2.out.mono hbw).trans ?_) H.out.hat.le _
      exact (Below.refl base _).grown hgrow (by simp; omega) (fun k hk => by obtain ⟨n, c, e'⟩ := own_blk H.out.hat.own hk.symm.symm; exact (H.out.hat.own.gblock e').2.1)
    · simp only [Value.slice.injEq, Option.some.injEq, Addr.mk.injEq, and_true] at e
      rcases hlies with hl' | hl'
      · obtain ⟨n', c', e'⟩ := own_blk H.out.hat.own hl'
        exact .inl ⟨n', c', by rw [← e.1]; exact e'⟩
      · exact .inr (by omega)
  clear hgrow hlies hglt hown3 hfar hk c0 c1 f0 f1
  go_wp2_with fail
  refine (lay_any H4.out (a := l.length) (by simp) (by rw [List.length_append]; exact hl) H.out.few id r0 r1 r2 hid).mono ?_
  rintro e w5 ⟨rfl, h5, b5, s5, l5⟩
  rw [if_neg (by rw [HP.out]; simp), set_last, spot_new H.out.once (s := ⟨id, r0, r1, r2⟩) HP.out] at h5
  have T5 := Lib.hid (T4.out.trans (turnV_same ⟨b5, s5, l5⟩))
  have H5 : Hid (HOk w5 base B (.slice (some ⟨g, 0, none⟩) (l.length + 1) cap') M (l ++ [⟨id, r0, r1, r2⟩])) := by
    refine ⟨?_, once_new H.out.once HP.out, fun s hs => ?_, by rw [List.length_append]; exact hl⟩
    · rw [List.length_append]; exact h5
    · rcases List.mem_append.1 hs with hs | hs
      · exact H.out.fits s hs
      · obtain rfl : s = _ := by simpa using hs
        exact hid
  have HO := Lib.hid (off_new HH.out ⟨id, r0, r1, r2⟩)
  clear h5 b5 s5 l5 k0 k1 k2 z0 z1
  go_wp2_with fail
  refine (settle_any H5.out (a := l.length) (by simp) HO.out).mono ?_
  rintro e w6 ⟨m, rfl, p6, o6, h6, t6⟩
  have T6 := Lib.hid (T5.out.trans (turnV_same t6))
  have H6 := Lib.hid h6
  have P6 := Lib.hid p6
  have O6 := Lib.hid o6
  clear h6 t6 p6 o6
  go_wp2_with fail
  go_ret
  exact ⟨_, m, rfl, P6.out, O6.out, H6.out, T6.out⟩

end Go.Proofs.Ytkmbnpjnjlcjmaa
