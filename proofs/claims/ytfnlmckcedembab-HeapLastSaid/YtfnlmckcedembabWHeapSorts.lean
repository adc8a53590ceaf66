/-
  THE WALK OF HeapSorts.
-/
import Derived.Test.YtfnlmckcedembabHeaOps
import Derived.Test.YtfnlmckcedembabHeaLive
namespace Go.Proofs.Ytfnlmckcedembab
open Go.RowKit

theorem del_len {L : List Sl} (ho : Once L) {id : Int} {q : Nat} (hq : spot L id = some q) : (slDel L id).length = L.length - 1 := by
  obtain ⟨h1, h2⟩ := spot_some hq
  by_cases hlt : q < L.length - 1
  · have := perm_del (List.Perm.refl L) hq ho (cut_perm hlt)
    rw [← this.length_eq, cut_len]
  · obtain rfl : q = L.length - 1 := by omega
    have := perm_del (List.Perm.refl L) hq ho (take_perm (by omega))
    rw [← this.length_eq, List.length_take]
    omega

theorem top_exists {w : World} {base B : Nat} {v : Value} {M : Nat} {L : List Sl} (h : HpAt w base B v M L) (h0 : 0 < L.length) : ∃ t, IsTop L t := by
  obtain ⟨m, _, h2, h3⟩ := h
  exact ⟨_, heap_isTop h2 h3 (by rw [h3.length_eq]; exact h0)⟩

theorem top_spot {L : List Sl} (ho : Once L) {t : Sl} (h : IsTop L t) : ∃ q, spot L t.id = some q := by
  obtain ⟨i, hi, he⟩ := List.getElem_of_mem h.1
  refine ⟨i, (spot_iff ho).2 ⟨hi, ?_⟩⟩
  rw [at0_get hi, he]

theorem top_rest {L : List Sl} {t : Sl} (h : IsTop L t) : ∀ x ∈ slDel L t.id, slBet t x = true := by
  intro x hx
  unfold slDel at hx
  obtain ⟨h1, h2⟩ := List.mem_filter.1 hx
  have hne : t ≠ x := by
    intro e
    subst e
    simp at h2
  rw [slBet_tri hne, h.2 x h1]
  rfl

theorem lone_cells {w : World} {X : Nat} {T : TypeId} {s : Sl} (h : LoneS slVals T w X s) : CellsAt w X 0 (slVals s) := by
  obtain ⟨cs, h1, h2⟩ := h
  intro j u hu
  rw [Nat.zero_add, cell_of_row w X j _ _ (0, 0) h2, ← hu, ← h1]
  simp

theorem lone_kept {w w' : World} {X : Nat} {T : TypeId} {s : Sl} (h : LoneS slVals T w X s) (hb : w'.heap[X]? = w.heap[X]?) : LoneS slVals T w' X s := by
  obtain ⟨cs, h1, h2⟩ := h
  exact ⟨cs, h1, hb.trans h2⟩

theorem lone_set {w : World} {X : Nat} {T : TypeId} {s : Sl} (h : LoneS slVals T w X s) (t : Sl) :
    LoneS slVals T ((((w.setCell ⟨X, 0, none⟩ (.int .i64 t.id)).setCell ⟨X, 1, none⟩ (.int .i64 t.r0)).setCell ⟨X, 2, none⟩ (.int .i64 t.r1)).setCell ⟨X, 3, none⟩ (.int .i64 t.r2)) X t := by
  obtain ⟨cs, h1, h2⟩ := h
  obtain ⟨l⟩ := cs
  simp only at h1
  subst h1
  have a1 := heap_setCell_same w X 0 _ _ (.int .i64 t.id) h2
  have a2 := heap_setCell_same _ X 1 _ _ (.int .i64 t.r0) a1
  have a3 := heap_setCell_same _ X 2 _ _ (.int .i64 t.r1) a2
  have a4 := heap_setCell_same _ X 3 _ _ (.int .i64 t.r2) a3
  exact ⟨_, rfl, a4⟩

set_option maxHeartbeats 3200000 in
set_option maxRecDepth 100000 in
theorem walkHeapSorts {w : World} {v : Value} {l : List HOp} (hv : OpsAt w v l) :
    Calls Try.prog 5 #[v] w fun e w' => e = .returned (.bool true) ∧ Below w.heap.size w w' := by
  have HV := Lib.hid hv
  obtain ⟨a, cap, rfl, hm⟩ := hv.1.open'
  clear hv
  by_cases hl : l.length ≤ 100
  · have t0 : decide (100 < (l.length : Int)) = false := by simp; omega
    have HR : Hid ((runS l).length ≤ 100) := by
      have : ∀ k, k ≤ l.length → (runS (l.take k)).length ≤ k := by
        intro k
        induction k with
        | zero => intro _; simp [runS]
        | succ k ih => intro hk; rw [runS_next (by omega)]; have := stepS_len (runS (l.take k)) (l.getD k HOp.zero); have := ih (by omega); omega
      have := this l.length (Nat.le_refl _)
      rw [List.take_length] at this
      show _ ≤ _
      omega
    obtain ⟨n, hn⟩ : ∃ n, (runS l).length = n := ⟨_, rfl⟩
    have hn100 : n ≤ 100 := by rw [← hn]; exact HR.out
    have HN := Lib.hid hn
    clear hn HR
    go_enter Try.func5, Try.ntmps5
    go_wp2_with fail
    refine (some_any HV.out hl).mono ?_
    rintro e w1 ⟨B, u1, M, rfl, h1, b1⟩
    have H1 := Lib.hid h1
    have B1 := Lib.hid b1
    clear h1 b1
    go_wp2_with fail
    refine (hp_len H1.out HN.out).mono ?_
    rintro e w2 ⟨rfl, rfl⟩
    go_wp2_with fail
    have b2 := bl_newZ w1 (.cells #[.int .i64 0, .int .i64 0, .int .i64 0, .int .i64 0] 33)
    have H2 := Lib.hid (H1.out.later b2)
    have B2 := Lib.hid (below2Z B1.out b2)
    have F2 := Lib.hid (H1.out.far (Nat.le_refl _))
    have L2 := Lib.hid (loneS_new (w := w1) (vals := slVals) (r := Sl.zero) (cs := #[.int .i64 0, .int .i64 0, .int .i64 0, .int .i64 0]) (T := 33) rfl rfl)
    obtain ⟨X, hX⟩ : ∃ X, w1.heap.size = X := ⟨_, rfl⟩
    rw [hX] at F2 L2
    generalize hW : w1.alloc (.cells #[.int .i64 0, .int .i64 0, .int .i64 0, .int .i64 0] 33) = w2 at H2 B2 L2 b2 ⊢
    rw [hX]
    clear hW b2
    have hXb : w.heap.size ≤ X := by rw [← hX]; exact B1.out.size
    clear hX
    go_loopw [6] (fun i wr => ∃ (k : Nat) (L : List Sl) (u : Value) (s : Sl), k ≤ n ∧ i = .int .i64 k ∧ Hid (L.length = n - k) ∧ Hid (HpAt wr w.heap.size B u M L) ∧ Hid (¬ Foot B M u X) ∧ Hid (LoneS slVals 33 wr X s) ∧ Hid (0 < k → ∀ x ∈ L, slBet s x = true) ∧ Hid (Below w.heap.size w wr)) (fun i _ => n - (intOf i).toNat)
    case atStart => exact ⟨0, runS l, u1, Sl.zero, by omega, rfl, by show _ = _; rw [HN.out]; omega, H2, F2, L2, by show _ → _; omega, B2⟩
    case round =>
      clear H2 F2 L2 B2
      obtain ⟨k, L, u, s, hk, rfl, HL, HH, HF, HX, HS, HB⟩ := hrel
      by_cases hlt : k < n
      · have hLn := HL.out
        obtain ⟨⟨i, r0, r1, r2⟩, ht⟩ := top_exists HH.out (by omega)
        have ho := HH.out.once
        obtain ⟨q, hq⟩ := top_spot ho.1 ht
        have hif : (Lit.int .i64 i).wf = true := ho.2.1 _ ht.1
        have HD : Hid ((slDel L i).length = n - (k + 1)) := by show _ = _; rw [del_len ho.1 hq, hLn]; omega
        have HR := Lib.hid (top_rest ht)
        have HSt : Hid (0 < k → slBet s ⟨i, r0, r1, r2⟩ = true) := fun h0 => HS.out h0 _ ht.1
        have HT := Lib.hid ht
        have HQ : Hid ((spot L i).isSome = true) := by show _ = _; have : spot L i = some q := hq; rw [this]; rfl
        clear ht ho hq hLn HS
        go_wp2_with fail
        refine (hp_top HH.out HT.out).mono ?_
        rintro e w3 ⟨rfl, b3⟩
        have b3' := bl_allocZ b3 (.cells #[.int .i64 i, .int .i64 r0, .int .i64 r1, .int .i64 r2] 33)
        have H4 := Lib.hid (HH.out.later b3')
        have B4 := Lib.hid (below2Z HB.out b3')
        have X4 := Lib.hid (HX.out.later b3')
        have F4 := Lib.hid ((HH.out.later b3).far (Nat.le_refl _))
        have Y4 := Lib.hid (loneS_new (w := w3) (vals := slVals) (r := ⟨i, r0, r1, r2⟩) (cs := #[.int .i64 i, .int .i64 r0, .int .i64 r1, .int .i64 r2]) (T := 33) rfl rfl)
        have hXY : X < w3.heap.size := Nat.lt_of_lt_of_le HX.out.lt b3.size
        have X3 := Lib.hid (HX.out.later b3)
        obtain ⟨⟨j, s0, s1, s2⟩, hs⟩ : ∃ q, s = q := ⟨_, rfl⟩
        subst hs
        obtain ⟨x0, x1, x2, x3⟩ := cells4 (lone_cells X4.out)
        obtain ⟨v0, v1, v2, v3⟩ := cells4 (lone_cells X3.out)
        obtain ⟨y0, y1, y2, y3⟩ := cells4 (lone_cells Y4.out)
        simp only [Nat.zero_add] at x0 x1 x2 x3 y0 y1 y2 y3 v0 v1 v2 v3
        clear b3 b3'
        by_cases h0 : 0 < k
        · have t1 : decide (0 < (k : Int)) = true := by simp; omega
          have hb := better_any j s0 s1 s2 i r0 r1 r2
          rw [HSt.out h0] at hb
          have HBt := Lib.hid hb
          clear hb
          go_wp2_with fail
          refine (HBt.out _).mono ?_
          rintro e w5 ⟨rfl, b5⟩
          have H5 := Lib.hid (H4.out.later b5)
          have B5 := Lib.hid (below2Z B4.out b5)
          have X5 := Lib.hid (X4.out.later b5)
          have Y5 := Lib.hid (Y4.out.later b5)
          have F5 := F4
          clear x0 x1 x2 x3 y0 y1 y2 y3 v0 v1 v2 v3 b5
          obtain ⟨x0, x1, x2, x3⟩ := cells4 (lone_cells X5.out)
          obtain ⟨y0, y1, y2, y3⟩ := cells4 (lone_cells Y5.out)
          simp only [Nat.zero_add] at x0 x1 x2 x3 y0 y1 y2 y3
          go_wp2_with fail
          refine (hp_drop H5.out i hif HQ.out).mono ?_
          rintro e w6 ⟨u6, rfl, h6, t6⟩
          have H6 := Lib.hid h6
          have B6 := Lib.hid (B5.out.trans t6.turn.below)
          have X6 := Lib.hid (lone_kept X5.out (t6.far X5.out.lt HF.out).2)
          have F6 := Lib.hid (t6.far X5.out.lt HF.out).1
          have Y6 := Lib.hid (lone_kept Y5.out (t6.far Y5.out.lt F5.out).2)
          clear h6 t6 x0 x1 x2 x3 y0 y1 y2 y3
          go_wp2_with fail
          refine (hp_len H6.out HD.out).mono ?_
          rintro e w7 ⟨rfl, rfl⟩
          have e1 : (n : Int) - 1 - (k : Int) = ((n - (k + 1) : Nat) : Int) := by omega
          have t2 : (((n - (k + 1) : Nat) : Int) != (n : Int) - 1 - (k : Int)) = false := by rw [e1]; simp
          clear e1
          obtain ⟨x0, x1, x2, x3⟩ := cells4 (lone_cells X6.out)
          obtain ⟨y0, y1, y2, y3⟩ := cells4 (lone_cells Y6.out)
          simp only [Nat.zero_add] at x0 x1 x2 x3 y0 y1 y2 y3
          have z0 := X6.out.free 0
          have z1 := X6.out.free 1
          have z2 := X6.out.free 2
          have z3 := X6.out.free 3
          have X7 := Lib.hid (lone_set X6.out ⟨i, r0, r1, r2⟩)
          have b7 : Hid (Below w.heap.size w ((((w6.setCell ⟨X, 0, none⟩ (.int .i64 i)).setCell ⟨X, 1, none⟩ (.int .i64 r0)).setCell ⟨X, 2, none⟩ (.int .i64 r1)).setCell ⟨X, 3, none⟩ (.int .i64 r2))) := ((((B6.out.setCell hXb _).setCell hXb _).setCell hXb _).setCell hXb _)
          have H7 : Hid (HpAt ((((w6.setCell ⟨X, 0, none⟩ (.int .i64 i)).setCell ⟨X, 1, none⟩ (.int .i64 r0)).setCell ⟨X, 2, none⟩ (.int .i64 r1)).setCell ⟨X, 3, none⟩ (.int .i64 r2)) w.heap.size B u6 M (slDel L i)) := by
            have hs : ∀ b, b ≠ X → ((((w6.setCell ⟨X, 0, none⟩ (.int .i64 i)).setCell ⟨X, 1, none⟩ (.int .i64 r0)).setCell ⟨X, 2, none⟩ (.int .i64 r1)).setCell ⟨X, 3, none⟩ (.int .i64 r2)).heap[b]? = w6.heap[b]? := by
              intro b hb
              rw [RowKit.Below.heap_setCell _ _ _ _ hb, RowKit.Below.heap_setCell _ _ _ _ hb, RowKit.Below.heap_setCell _ _ _ _ hb, RowKit.Below.heap_setCell _ _ _ _ hb]
            exact H6.out.spared ⟨hs B (fun e => F6.out (.inl e.symm)), hs M (fun e => F6.out (.inr (.inl e.symm))), fun g c d e => hs g (fun e' => F6.out (.inr (.inr ⟨c, d, by rw [← e']; exact e⟩)))⟩
          go_wp2_with fail
          go_roundw
          case rel => exact ⟨k + 1, slDel L i, u6, ⟨i, r0, r1, r2⟩, by omega, by go_num, HD, H7, F6, X7, fun _ => HR.out, b7⟩
          case measure => simp [intOf]; omega
        · obtain rfl : k = 0 := by omega
          have t1 : decide ((0 : Int) < ((0 : Nat) : Int)) = false := by simp
          go_wp2_with fail
          have H5 := H4
          have B5 := B4
          have X5 := X4
          have Y5 := Y4
          have F5 := F4
          clear v0 v1 v2 v3
          obtain ⟨k, hk0⟩ : ∃ k, k = 0 := ⟨0, rfl⟩
          refine (hp_drop H5.out i hif HQ.out).mono ?_
          rintro e w6 ⟨u6, rfl, h6, t6⟩
          have H6 := Lib.hid h6
          have B6 := Lib.hid (B5.out.trans t6.turn.below)
          have X6 := Lib.hid (lone_kept X5.out (t6.far X5.out.lt HF.out).2)
          have F6 := Lib.hid (t6.far X5.out.lt HF.out).1
          have Y6 := Lib.hid (lone_kept Y5.out (t6.far Y5.out.lt F5.out).2)
          clear h6 t6 x0 x1 x2 x3 y0 y1 y2 y3
          go_wp2_with fail
          refine (hp_len H6.out HD.out).mono ?_
          rintro e w7 ⟨rfl, rfl⟩
          have e1 : (n : Int) - 1 - ((0 : Nat) : Int) = ((n - (0 + 1) : Nat) : Int) := by omega
          have t2 : (((n - (0 + 1) : Nat) : Int) != (n : Int) - 1 - ((0 : Nat) : Int)) = false := by rw [e1]; simp
          clear e1
          obtain ⟨x0, x1, x2, x3⟩ := cells4 (lone_cells X6.out)
          obtain ⟨y0, y1, y2, y3⟩ := cells4 (lone_cells Y6.out)
          simp only [Nat.zero_add] at x0 x1 x2 x3 y0 y1 y2 y3
          have z0 := X6.out.free 0
          have z1 := X6.out.free 1
          have z2 := X6.out.free 2
          have z3 := X6.out.free 3
          have X7 := Lib.hid (lone_set X6.out ⟨i, r0, r1, r2⟩)
          have b7 : Hid (Below w.heap.size w ((((w6.setCell ⟨X, 0, none⟩ (.int .i64 i)).setCell ⟨X, 1, none⟩ (.int .i64 r0)).setCell ⟨X, 2, none⟩ (.int .i64 r1)).setCell ⟨X, 3, none⟩ (.int .i64 r2))) := ((((B6.out.setCell hXb _).setCell hXb _).setCell hXb _).setCell hXb _)
          have H7 : Hid (HpAt ((((w6.setCell ⟨X, 0, none⟩ (.int .i64 i)).setCell ⟨X, 1, none⟩ (.int .i64 r0)).setCell ⟨X, 2, none⟩ (.int .i64 r1)).setCell ⟨X, 3, none⟩ (.int .i64 r2)) w.heap.size B u6 M (slDel L i)) := by
            have hs : ∀ b, b ≠ X → ((((w6.setCell ⟨X, 0, none⟩ (.int .i64 i)).setCell ⟨X, 1, none⟩ (.int .i64 r0)).setCell ⟨X, 2, none⟩ (.int .i64 r1)).setCell ⟨X, 3, none⟩ (.int .i64 r2)).heap[b]? = w6.heap[b]? := by
              intro b hb
              rw [RowKit.Below.heap_setCell _ _ _ _ hb, RowKit.Below.heap_setCell _ _ _ _ hb, RowKit.Below.heap_setCell _ _ _ _ hb, RowKit.Below.heap_setCell _ _ _ _ hb]
            exact H6.out.spared ⟨hs B (fun e => F6.out (.inl e.symm)), hs M (fun e => F6.out (.inr (.inl e.symm))), fun g c d e => hs g (fun e' => F6.out (.inr (.inr ⟨c, d, by rw [← e']; exact e⟩)))⟩
          go_wp2_with fail
          go_roundw
          case rel => exact ⟨0 + 1, slDel L i, u6, ⟨i, r0, r1, r2⟩, by omega, by go_num, HD, H7, F6, X7, fun _ => HR.out, b7⟩
          case measure => simp [intOf]; omega
      · obtain rfl : k = n := by omega
        have hL0 : L = [] := List.length_eq_zero_iff.1 (by have := HL.out; omega)
        subst hL0
        go_wp2_with fail
        refine (hp_top_none HH.out).mono ?_
        rintro e w3 ⟨rfl, b3⟩
        have b3' := bl_allocZ b3 (.cells #[.int .i64 0, .int .i64 0, .int .i64 0, .int .i64 0] 33)
        have B4 := Lib.hid (below2Z HB.out b3')
        clear b3 b3'
        go_wp2_with fail
        refine (live10 _).mono ?_
        rintro e w8 ⟨rfl, b8⟩
        have B8 := Lib.hid (below2Z B4.out b8)
        clear b8
        go_wp2_with fail
        go_ret
        exact ⟨rfl, B8.out⟩
  · have t0 : decide (100 < (l.length : Int)) = true := by simp; omega
    go_enter Try.func5, Try.ntmps5
    go_wp2_with fail
    refine (live10 _).mono ?_
    rintro e w8 ⟨rfl, b8⟩
    have B8 := Lib.hid b8
    clear b8
    go_wp2_with fail
    go_ret
    exact ⟨rfl, B8.out⟩

end Go.Proofs.Ytfnlmckcedembab
