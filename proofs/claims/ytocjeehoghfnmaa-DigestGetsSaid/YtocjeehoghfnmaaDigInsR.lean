/-
  THE CONTRACT OF slices.Insert WHERE THERE IS ROOM; the contract whole.
-/
import Derived.Test.YtocjeehoghfnmaaDigIns
import Derived.Laws.Externs
namespace Go.Proofs.Ytocjeehoghfnmaa
open Go.RowKit

theorem Try.sizeSeen (w : World) : (Go.sizeOf 48).run Try.prog w = .ok 5 w := by
  obtain ⟨i, hi, hz, hsize, hby⟩ := info_parts Try.infoSeen
  simp [sizeOf, typeInfo, hi, hsize]

/-- Cells of a table of the call's own, whatever they hold. -/
def OwnC5 (w : World) (base g n cap : Nat) (xs : List Value) : Prop := w.ownsRow base 48 5 (.slice (some ⟨g, 0, none⟩) n cap) n xs

theorem OwnC5.head {w : World} {base g n cap : Nat} {xs : List Value} (h : OwnC5 w base g n cap xs) : base ≤ g ∧ xs.length = n * 5 ∧ ∃ cur : Array Value, w.heap[g]? = some (.cells cur 48 (0, 0)) ∧ cur.size = cap * 5 := by
  rcases h with ⟨h0, ⟨h', _⟩ | ⟨g', cap', cur, h', hb, hg, hnc, hcm, hcs, _⟩⟩
  · simp at h'
  · simp only [Value.slice.injEq, Option.some.injEq, Addr.mk.injEq, and_true, true_and] at h'
    obtain ⟨rfl, rfl⟩ := h'
    exact ⟨hb, h0, cur, hg, hcs⟩

theorem OwnC5.someAt {w : World} {base g n cap : Nat} {xs : List Value} (h : OwnC5 w base g n cap xs) (j : Nat) (hj : j < n * 5) : (w.cell? ⟨g, j, none⟩).isSome = true := by
  rw [World.ownsRow.cellAt h j hj, List.getElem?_eq_getElem (by rw [h.head.2.1]; exact hj)]
  rfl

theorem run_copy_raw {w : World} (base g n cap : Nat) (xs : List Value) (h : OwnC5 w base g n cap xs) (o dl dc : Nat) (ad : Addr) (sl sc : Nat) (ms : List Row) (hn : ms.length = Nat.min sl dl) (hsrc : SrcR w ad ms) (ho : o + ms.length ≤ n) (ty : TypeId) :
    (Builtin.copy_ #[22, 22] ty #[.slice (some ⟨g, o * 5, none⟩) dl dc, .slice (some ad) sl sc]).run Try.prog w = .ok (goInt ms.length) (w.setCells g (o * 5) (cellsOf ms)) := by
  obtain ⟨i, hi, hz, hsize, hby⟩ := info_parts Try.infoSeen
  have hl := run_loadCells_list (P := Try.prog) w ad (cellsOf ms) hsrc
  rw [cellsOf_len] at hl
  have hst := run_storeCells_cells (P := Try.prog) g (o * 5) (cellsOf ms) 0 w (fun j hj => by
    rw [cellsOf_len] at hj
    exact h.someAt _ (by omega)) (fun j _ => World.ownsRow.frozenAt h _) (cellsOf_single ms)
  rw [Nat.add_zero] at hst
  simp [Builtin.copy_, run_underlying Try.underlying22, Builtin.lenOf, Builtin.firstCells, sizeOf, typeInfo, hi, hsize, ← hn, hl, hst]

theorem wp_copy_raw {w : World} {o : Oper} {a : Act} {K : Act → World → Prop} {Q : Exit → Act → World → Prop} (d s : Operand)
    (ho : o.op = .call { callee := .builtin .copy, args := #[d, s], argTypes := #[22, 22] })
    (base g n cap : Nat) (xs : List Value) (h : OwnC5 w base g n cap xs) (p dl dc : Nat) (ad : Addr) (sl sc : Nat)
    (hd : a.eval d = .slice (some ⟨g, p * 5, none⟩) dl dc) (hs : a.eval s = .slice (some ad) sl sc) (ms : List Row) (hn : ms.length = Nat.min sl dl) (hsrc : SrcR w ad ms) (hp : p + ms.length ≤ n)
    (hK : ∀ w', OwnC5 w' base g n cap (lay xs (p * 5) (cellsOf ms)) → Below g w w' → (∀ x : Addr, x.block ≠ g → w'.cell? x = w.cell? x) → K (a.put o.dst (goInt ms.length)) w') : o.wp Try.prog a w K Q := by
  have hr := run_copy_raw base g n cap xs h p dl dc ad sl sc ms hn hsrc hp o.type
  unfold Oper.wp execOp
  simp only [ho, resolve, invoke, builtin, Sem.run_bind, Sem.run_pure, Result.andThen_ok, List.map_toArray, List.map_cons, List.map_nil, hd, hs, hr]
  refine hK _ (own_setCells _ _ _ _ h (by rw [cellsOf_len, h.head.2.1, ← Nat.add_mul]; exact Nat.mul_le_mul_right _ hp)) (below_setCells (Nat.le_refl _) _ _ _ (Below.refl _ _)) (fun x hx => ?_)
  exact World.cell?_setCells_out g _ _ _ _ (fun hb _ => absurd hb hx)

theorem wpList_copy_raw {w : World} {ops : Array Oper} {rest : List Oper} {o : Oper} {a : Act} {Q : Exit → Act → World → Prop} (hgd : o.guard = none) (d s : Operand)
    (ho : o.op = .call { callee := .builtin .copy, args := #[d, s], argTypes := #[22, 22] })
    (base g n cap : Nat) (xs : List Value) (h : OwnC5 w base g n cap xs) (p dl dc : Nat) (ad : Addr) (sl sc : Nat)
    (hd : a.eval d = .slice (some ⟨g, p * 5, none⟩) dl dc) (hs : a.eval s = .slice (some ad) sl sc) (ms : List Row) (hn : ms.length = Nat.min sl dl) (hsrc : SrcR w ad ms) (hp : p + ms.length ≤ n)
    (hK : ∀ w', OwnC5 w' base g n cap (lay xs (p * 5) (cellsOf ms)) → Below g w w' → (∀ x : Addr, x.block ≠ g → w'.cell? x = w.cell? x) → wpList Try.prog ops Q rest (a.put o.dst (goInt ms.length)) w') : wpList Try.prog ops Q (o :: rest) a w :=
  wpList_plain hgd fun _ hK' => wp_copy_raw d s ho base g n cap xs h p dl dc ad sl sc hd hs ms hn hsrc hp fun w' h1 h2 h3 => hK' _ _ (hK w' h1 h2 h3)

theorem step_copy_raw {w : World} {ops : Array Oper} {o : Oper} {a : Act} {K : Act → World → Prop} {Q : Exit → Act → World → Prop} {E : Prop} (hgd : o.guard = none) (d s : Operand)
    (ho : o.op = .call { callee := .builtin .copy, args := #[d, s], argTypes := #[22, 22] })
    (base g n cap : Nat) (xs : List Value) (h : OwnC5 w base g n cap xs) (p dl dc : Nat) (ad : Addr) (sl sc : Nat)
    (hd : a.eval d = .slice (some ⟨g, p * 5, none⟩) dl dc) (hs : a.eval s = .slice (some ad) sl sc) (ms : List Row) (hn : ms.length = Nat.min sl dl) (hsrc : SrcR w ad ms) (hp : p + ms.length ≤ n)
    (hK : ∀ w', OwnC5 w' base g n cap (lay xs (p * 5) (cellsOf ms)) → Below g w w' → (∀ x : Addr, x.block ≠ g → w'.cell? x = w.cell? x) → K (a.put o.dst (goInt ms.length)) w') :
    if Region.wanted o (yielded ops a.tmps) = true then Oper.wp Try.prog o a w K Q else E := by
  have hw : Region.wanted o (yielded ops a.tmps) = true := by simp [Region.wanted, hgd]
  rw [if_pos hw]
  exact wp_copy_raw d s ho base g n cap xs h p dl dc ad sl sc hd hs ms hn hsrc hp hK

theorem OwnC5.drew {w : World} {base g n cap : Nat} {xs : List Value} (h : OwnC5 w base g n cap xs) : OwnC5 w.drew base g n cap xs := World.ownsRow.drew h

/-- The row behind the last one, taken in. -/
theorem own_wider {w : World} {base g cap : Nat} {t : List Row} (h : OwnR w base (.slice (some ⟨g, 0, none⟩) t.length cap) t) (hc : t.length < cap) : ∃ z : List Value, z.length = 5 ∧ OwnC5 w base g (t.length + 1) cap (cellsOf t ++ z) := by
  rcases h with ⟨h0, ⟨h', _⟩ | ⟨g', cap', cur, h', hb, hg, hnc, hcm, hcs, htk⟩⟩
  · simp at h'
  · simp only [Value.slice.injEq, Option.some.injEq, Addr.mk.injEq, and_true, true_and] at h'
    obtain ⟨rfl, rfl⟩ := h'
    have hlen : cur.toList.length = cap * 5 := by rw [Array.length_toList]; exact hcs
    have e : cur.toList.take ((t.length + 1) * 5) = cellsOf t ++ (cur.toList.drop (t.length * 5)).take 5 := by
      rw [← htk, show (t.length + 1) * 5 = t.length * 5 + 5 by omega, List.take_add]
    refine ⟨(cur.toList.drop (t.length * 5)).take 5, by rw [List.length_take, List.length_drop, hlen]; omega, ?_, .inr ⟨g, cap, cur, rfl, hb, hg, by omega, hcm, hcs, e⟩⟩
    rw [← e, List.length_take, hlen]
    omega

theorem lay_room {t : List Row} {i : Nat} (hi : i < t.length) (r : Row) (z : List Value) (hz : z.length = 5) :
    lay (lay (cellsOf t ++ z) ((i + 1) * 5) (cellsOf (t.drop i))) (i * 5) (cellsOf [r]) = cellsOf (put1 t i r) := by
  have e1 : (cellsOf t ++ z).drop ((i + 1) * 5 + (cellsOf (t.drop i)).length) = [] := by
    apply List.drop_of_length_le
    rw [List.length_append, cellsOf_len, cellsOf_len, List.length_drop, hz]
    omega
  have e2 : lay (cellsOf t ++ z) ((i + 1) * 5) (cellsOf (t.drop i)) = (cellsOf t ++ z).take ((i + 1) * 5) ++ cellsOf (t.drop i) := by
    unfold lay
    rw [e1, List.append_nil]
  have hl : ((cellsOf t ++ z).take ((i + 1) * 5)).length = (i + 1) * 5 := by
    rw [List.length_take, List.length_append, cellsOf_len, hz]
    omega
  have e3 : ((cellsOf t ++ z).take ((i + 1) * 5)).take (i * 5) = cellsOf (t.take i) := by
    rw [List.take_take, show min (i * 5) ((i + 1) * 5) = i * 5 by omega, List.take_append_of_le_length (by rw [cellsOf_len]; omega), cellsOf_take]
  rw [e2]
  unfold lay put1
  rw [List.take_append_of_le_length (by rw [hl]; omega), e3, List.drop_left' (by rw [hl, cellsOf_len]; simp only [List.length_singleton]; omega)]
  rw [cellsOf_append, cellsOf_append]

theorem put1_len (t : List Row) (i : Nat) (r : Row) : (put1 t i r).length = t.length + 1 := by
  unfold put1
  rw [List.length_append, List.length_append, List.length_singleton, List.length_take, List.length_drop]
  omega

theorem OwnC5.rows {w : World} {base g cap n : Nat} {t : List Row} (h : OwnC5 w base g n cap (cellsOf t)) (hn : n = t.length) : OwnR w base (.slice (some ⟨g, 0, none⟩) n cap) t := by
  subst hn
  exact h

set_option maxHeartbeats 3200000 in
set_option maxRecDepth 100000 in
theorem insert_room {w : World} {base g cap : Nat} {t : List Row} (ho : OwnR w base (.slice (some ⟨g, 0, none⟩) t.length cap) t) (hl : t.length ≤ 1000) {i : Nat} (hi : i < t.length) (hc : t.length < cap) (hcm : cap ≤ 9223372036854775807) {B : Nat} {r : Row} (hr : Lone w B r) (hne : B ≠ g) :
    Calls Try.prog 65 #[.slice (some ⟨g, 0, none⟩) t.length cap, .int .i64 i, .slice (some ⟨B, 0, none⟩) 1 1] w fun e w' => ∃ u, e = .returned u ∧ OwnR w' base u (put1 t i r) ∧ Below base w w' := by
  obtain ⟨z, hz, hw⟩ := own_wider ho hc
  have HO := Lib.hid hw
  have HS := Lib.hid hr.src
  have hin2 : (i : Int) ≤ (t.length : Int) + 1 := by omega
  have S0 : Hid (SrcR w.drew ⟨g, i * 5, none⟩ (t.drop i)) := by
    show SrcR _ _ _
    intro j x hx
    exact ho.src i (t.length - i) (by omega) j x (by rw [List.take_of_length_le (by rw [List.length_drop]; omega)]; exact hx)
  have HE := Lib.hid (lay_room hi r z hz)
  have HG := Lib.hid ho.head.2.1
  have t0 : ((i : Int) == (t.length : Int)) = false := by simp; omega
  have t1 : ¬ cap = i := by omega
  have t2 : ¬ cap = i + 1 := by omega
  have hw1 : IntKind.i64.wrap ((i : Int) + 1) = (i : Int) + 1 := IntWalk.i64_in _ (by omega)
  have htn : ((i : Int) + 1).toNat = i + 1 := by omega
  have hb0 : (0 : Int) ≤ (i : Int) + 1 := by omega
  have hin : i ≤ t.length := by omega
  have hov : ∀ lb cb, (callFunc 96 #[.slice (some ⟨B, 0, none⟩) 1 1, .slice (some ⟨g, (i + 1) * 5, none⟩) lb cb]).run Try.prog w = .ok (.value (.bool false)) w := fun lb cb => by
    obtain ⟨_, _, cur, hg, hcs⟩ := hw.head
    rw [run_callFunc_extern Try.func96 (by kernel_rfl) (by kernel_rfl) (by kernel_rfl) (e := Extern.SlicesOverlaps.overlaps #[22, 22] #[4]) (by kernel_rfl),
      Lib.run_overlaps_apart w 22 4 48 Try.underlying22 5 Try.sizeSeen ⟨B, 0, none⟩ ⟨g, (i + 1) * 5, none⟩ 1 1 lb cb hne _ _ _ _ hr.shape (own_shape hg) (by omega) (hr.free _) (hr.free _)]
    rfl
  clear ho hr hw
  go_enter Try.func65, Try.ntmps65
  go_wp2_with (simp only [hov])
  go_region_law (refine step_copy_raw rfl (.tmp 73) (.tmp 76) rfl base g (t.length + 1) cap _ HO.out.drew (i + 1) (t.length - i) (cap - (i + 1)) ⟨g, i * 5, none⟩ (t.length + 1 - i) (cap - i) (by simp [Act.eval, Act.put]) (by simp [Act.eval, Act.put]) (t.drop i) (by simp only [List.length_drop, Nat.min_def]; split <;> omega) S0.out (by rw [List.length_drop]; omega) ?_; intro w1 h1 hb1 hk1)
  all_goals
    have O1 := Lib.hid h1
    have B1 := Lib.hid ((Below.refl base w).drew.trans (hb1.mono HG.out))
    have S1 : Hid (SrcR w1 ⟨B, 0, none⟩ [r]) := by
      show SrcR _ _ _
      intro j x hx
      exact (hk1 _ (by rw [Addr.add_lit]; exact hne)).trans (HS.out j x hx)
    clear h1 hb1 hk1
    go_wp2_with (with_reducible refine wpList_copy_raw rfl (.tmp 80) (.tmp 81) rfl base g (t.length + 1) cap _ O1.out i (t.length + 1 - i) (cap - i) ⟨B, 0, none⟩ 1 1 rfl rfl [r] (by simp only [List.length_singleton, Nat.min_def]; split <;> omega) S1.out (by simp only [List.length_singleton]; omega) ?_)
    intro w2 h2 hb2 hk2
    rw [HE.out] at h2
    have O2 := Lib.hid (h2.rows (put1_len t i r).symm)
    have B2 := Lib.hid (B1.out.trans (hb2.mono HG.out))
    clear h2 hb2 hk2
    go_wp2_with fail
    go_ret
    exact ⟨_, rfl, O2.out, B2.out⟩

end Go.Proofs.Ytocjeehoghfnmaa
