/-
  LAYER 10, THE DOCUMENT's: Drop.
-/
import Derived.Test.YtocljhbkjengpaaHeaRput
import Derived.Test.YtocljhbkjengpaaSeqS
namespace Go.Proofs.Ytocljhbkjengpaa
open Go.RowKit

theorem step_append_S {α : Type} {P : Program} {vals : α → List Value} {sz : Nat} {zero : α} {T S : TypeId} {Z : Value} {bytes : Nat} (D : RowOK P vals sz zero T S Z bytes) {w : World} {ops : Array Oper} {o : Oper} {a : Act} {K : Act → World → Prop} {Q : Exit → Act → World → Prop} {E : Prop}
    (hgd : o.guard = none) (s x : Operand) (ho : o.op = .call { callee := .builtin .append, args := #[s, x], argTypes := #[S, S] })
    (base : Nat) (v : Value) (t : List α) (hs : a.eval s = v) (hown : OwnS vals sz T w base v t)
    (ad : Addr) (m c : Nat) (ms : List α) (hx : a.eval x = .slice (some ad) m c) (hm : m = ms.length)
    (hsome : SrcS vals w ad ms)
    (hlen : t.length + ms.length < 4294967296) (hbase : base ≤ w.heap.size)
    (h : ∀ v' w', OwnS vals sz T w' base v' (t ++ ms) → Below base w w' → K (a.put o.dst v') w') :
    if Region.wanted o (yielded ops a.tmps) = true then Oper.wp P o a w K Q else E := by
  obtain ⟨i, hi, hz, hsize, hby⟩ := info_parts D.info
  subst hm
  have hzl : Z.cells.size = sz := by have := congrArg List.length D.zvals; rwa [Array.length_toList, D.len] at this
  rw [if_pos (by simp [Region.wanted, hgd])]
  refine wp_append_own w s x S ho base T i _ sz bytes D.under hi hz hsize hby hzl D.pos v t.length (cellsS vals t) hs hown ad ms.length c (cellsS vals ms) hx (cellsS_len D.len ms) hsome (cellsS_single D.one ms)
      (by unfold maxLen; omega) (Nat.le_trans (Nat.mul_le_mul (show t.length + ms.length ≤ 4294967296 by omega) D.fits) (by decide)) hbase ?_
  intro v' w' hown' hgrow _
  refine h v' w' ?_ ((Below.refl base w).grown hgrow hbase (fun k hk => (World.ownsRow.lt hown k hk).1))
  unfold OwnS
  rw [cellsS_append, List.length_append]
  exact hown'

theorem slDel_spot {L : List Sl} {id : Int} {p : Nat} (ho : Once L) (hp : spot L id = some p) : slDel L id = L.take p ++ L.drop (p + 1) := by
  obtain ⟨h1, h2⟩ := spot_some hp
  rw [at0_get h1] at h2
  have hl : L = L.take p ++ L[p] :: L.drop (p + 1) := by
    rw [← List.drop_eq_getElem_cons h1, List.take_append_drop]
  have hn : ∀ s ∈ L.take p ++ L.drop (p + 1), s.id ≠ id := by
    intro s hs e
    unfold Once at ho
    rw [hl, List.map_append, List.map_cons, List.nodup_append] at ho
    obtain ⟨_, h4, h5⟩ := ho
    rw [List.nodup_cons] at h4
    rcases List.mem_append.1 hs with h | h
    · exact h5 s.id (List.mem_map.2 ⟨s, h, rfl⟩) L[p].id (List.mem_cons_self ..) (by rw [e, h2])
    · exact h4.1 (List.mem_map.2 ⟨s, h, by rw [e, h2]⟩)
  have hf : ∀ M : List Sl, (∀ s ∈ M, s.id ≠ id) → M.filter (fun s => decide (s.id ≠ id)) = M := by
    intro M hM
    rw [List.filter_eq_self]
    intro s hs
    simpa using hM s hs
  unfold slDel
  conv => lhs; rw [hl]
  rw [List.filter_append, List.filter_cons, if_neg (by simp [h2]), hf _ (fun s hs => hn s (List.mem_append_left _ hs)), hf _ (fun s hs => hn s (List.mem_append_right _ hs))]

set_option maxHeartbeats 3200000 in
set_option maxRecDepth 100000 in
theorem rdrop_yes {w : World} {base K : Nat} {v : Value} {L : List Sl} (h : KAt w base K v L) (ho : Once L) (hl : L.length ≤ 1000) (id : Int) {p : Nat} (hp : spot L id = some p) :
    Calls Try.prog 60 #[.pointer (some ⟨K, 0, none⟩), .int .i64 id] w fun e w' =>
      ∃ v', e = .returned (.bool true) ∧ KAt w' base K v' (L.take p ++ L.drop (p + 1)) ∧ TurnK w w' base K v v' := by
  have hpl := place10_any h ho hl id
  rw [show placeI L id = (p : Int) by unfold placeI; rw [hp]] at hpl
  have HF := Lib.hid hpl
  have hlt := (spot_some hp).1
  obtain ⟨g, cap, rfl, hcap, hlc⟩ := h.block (by omega)
  obtain ⟨c0, f0⟩ := h.cell
  have t0 : decide ((p : Int) < 0) = false := by simp
  have H := Lib.hid h
  have hKw := h.lt
  clear h hp hpl
  go_enter Try.func60, Try.ntmps60
  go_wp2_with fail
  refine HF.out.mono ?_
  rintro e w2 ⟨rfl, rfl⟩
  go_wp2_with (at_builtin; refine wpList_append_S rslOK rfl _ _ rfl w.heap.size _ [] rfl (ownS_made w) (some ⟨g, 0, none⟩) p cap (L.take p) rfl (by simp; omega) (fun e => by cases e) ?c1 (by simp; omega) (by rw [World.size_alloc]; omega) ?_)
  case c1 =>
    rintro ad ⟨⟩
    have := (H.out.later (bl_newZ w (.cells #[] 37))).own.src rslOK 0 p (by omega)
    rwa [Nat.zero_mul, List.drop_zero] at this
  intro v3 w3 h3 b3
  have B3 := Lib.hid ((bl_newZ w (.cells #[] 37)).trans b3)
  have O3 := Lib.hid (ownS_low (base' := w.heap.size) h3 (Nat.le_refl _))
  have H3 := Lib.hid (H.out.later B3.out)
  obtain ⟨ad, had, S3⟩ : ∃ ad, (if cap = p + 1 then (⟨g, 0, none⟩ : Addr) else (⟨g, 0, none⟩ : Addr).add ((p + 1) * 4)) = ad ∧ Hid (SrcS slVals w3 ad (L.drop (p + 1))) := by
    have := H3.out.own.src rslOK (p + 1) (L.length - (p + 1)) (by omega)
    rw [List.take_of_length_le (by rw [List.length_drop]; exact Nat.le_refl _)] at this
    refine ⟨_, rfl, ?_⟩
    by_cases hc : cap = p + 1
    · have hnil : L.drop (p + 1) = [] := List.drop_eq_nil_of_le (by omega)
      rw [hnil]
      intro j u hu
      simp [cellsS_nil] at hu
    · rw [if_neg hc, Addr.add_lit, Nat.zero_add]
      exact this
  have hsl := fun w => run_slice_from_S rslOK w ⟨g, 0, none⟩ L.length cap (p + 1) ((p : Int) + 1) (by omega) (by omega)
  rw [had] at hsl
  have z0 : w3.cell? ⟨K, 0, none⟩ = some (.slice (some ⟨g, 0, none⟩) L.length cap) := H3.out.cell.1
  have z1 : w3.frozen? ⟨K, 0, none⟩ = false := H3.out.cell.2
  have hsz3 : w.heap.size ≤ w3.heap.size := B3.out.size
  have hln : L.length - (p + 1) = (L.drop (p + 1)).length := by rw [List.length_drop]
  have hlm : (L.take p).length + (L.drop (p + 1)).length < 4294967296 := by simp; omega
  clear h3 b3 c0 f0 had
  go_wp2_with fail
  unfold Oper.wp
  simp only [execOp, Act.eval]
  simp [hsl, go_sem]
  go_wp2_with (at_builtin; refine wpList_append_S rslOK rfl _ _ rfl w.heap.size _ (L.take p) rfl O3.out (some ad) (L.length - (p + 1)) (cap - (p + 1)) (L.drop (p + 1)) rfl hln (fun e => by cases e) (fun _ h => by cases h; exact S3.out) hlm hsz3 ?_)
  intro v4 w4 h4 b4
  obtain ⟨a4, c4, rfl⟩ := own_len h4
  have hbK : w4.heap[K]? = w.heap[K]? := (b4.block K hKw).trans (B3.out.block K hKw)
  have hgw := (H.out.own.gblock rfl).1
  have HK := Lib.hid (kat_slice (v' := _) (m := L.take p ++ L.drop (p + 1)) H.out hbK (ownS_low h4 (Nat.le_trans H.out.le (Nat.le_of_lt hKw))))
  have B4 := Lib.hid (B3.out.trans b4)
  have f4 : w4.frozen? ⟨K, 0, none⟩ = false := frozen_of_row w4 K 0 _ _ (hbK.trans H.out.head)
  have z4 : w4.cell? ⟨K, 0, none⟩ = some (.slice (some ⟨g, 0, none⟩) L.length cap) := cell_of_row w4 K 0 _ _ (0, 0) (hbK.trans H.out.head)
  have hnew : Hid (∀ g' n c, Value.slice a4 (L.take p ++ L.drop (p + 1)).length c4 = .slice (some ⟨g', 0, none⟩) n c → w.heap.size ≤ g') := by
    intro g' n c e
    exact (OwnS.gblock h4 e).2.1
  clear h4 b4 hbK
  generalize (L.take p ++ L.drop (p + 1)).length = n4 at HK hnew ⊢
  simp [Act.put]
  go_wp2_with fail
  go_ret
  refine ⟨_, rfl, HK.out, ⟨fun x hx hn => ?_, ?_, ?_, fun g' n c e => .inr (hnew.out g' n c e)⟩⟩
  · rw [RowKit.Below.heap_setCell _ _ _ _ (fun e => hn (.inl e))]
    exact B4.out.block x hx
  · rw [World.size_setCell]
    exact B4.out.size
  · exact (B4.out.mono (Nat.le_trans H.out.le (Nat.le_of_lt hKw))).setCell H.out.le _

/-- The document's Drop. -/
theorem rdrop_any {w : World} {base K : Nat} {v : Value} {L : List Sl} (h : KAt w base K v L) (ho : Once L) (hl : L.length ≤ 1000) (id : Int) {r : Bool} (hr : (spot L id).isSome = r) :
    Calls Try.prog 60 #[.pointer (some ⟨K, 0, none⟩), .int .i64 id] w fun e w' =>
      ∃ v', e = .returned (.bool r) ∧ KAt w' base K v' (slDel L id) ∧ TurnK w w' base K v v' := by
  cases hp : spot L id with
  | none =>
    obtain rfl : false = r := by rw [← hr, hp]; rfl
    rw [del_none hp]
    refine (rdrop_none h ho hl id hp).mono ?_
    rintro e w' ⟨he, rfl⟩
    exact ⟨v, he, h, ⟨fun _ _ _ => rfl, Nat.le_refl _, Below.refl _ _, fun g n c e => .inl ⟨n, c, e⟩⟩⟩
  | some p =>
    obtain rfl : true = r := by rw [← hr, hp]; rfl
    rw [slDel_spot ho hp]
    exact rdrop_yes h ho hl id hp

end Go.Proofs.Ytocljhbkjengpaa
