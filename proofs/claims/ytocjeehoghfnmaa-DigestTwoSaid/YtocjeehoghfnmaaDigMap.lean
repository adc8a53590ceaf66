/-
  THE CONTRACT OF digest.firsts: a map of the call's own, from each Contact to its first row.
-/
import Derived.Test.YtocjeehoghfnmaaDigCts
import Derived.Maps.OwnSet
namespace Go.Proofs.Ytocjeehoghfnmaa
open Go.RowKit Go.ChangeMaps Go.MapKept

/-- How a row reads as a map's element. -/
def seenData (r : Row) : DataW Unit := .agg [.lit (.string r.c), .lit (.int .i64 r.v.sh), .lit (.int .i64 r.v.pr), .lit (.int .i64 r.v.si), .lit (.string r.v.st)]

def seenElem : Value → Option (DataW Unit × List MemPlace)
  | .agg cs => match cs.toList with
    | [.string c, .int .i64 x, .int .i64 y, .int .i64 z, .string s] => some (seenData ⟨c.data.toList, x, y, z, s.data.toList⟩, [])
    | _ => none
  | _ => none

theorem seenElem_mk (r : Row) : seenElem (rowAgg r) = some (seenData r, []) := rfl

theorem seenData_inj {r s : Row} (h : seenData r = seenData s) : r = s := by
  obtain ⟨c, ⟨x, y, z, st⟩⟩ := r
  obtain ⟨c', ⟨x', y', z', st'⟩⟩ := s
  simp only [seenData, DataW.agg.injEq, List.cons.injEq, DataW.lit.injEq, Lit.string.injEq, Lit.int.injEq, true_and, and_true] at h
  obtain ⟨rfl, rfl, rfl, rfl, rfl⟩ := h
  rfl

theorem seenElem_inv {v : Value} {z : DataW Unit × List MemPlace} (h : seenElem v = some z) : ∃ r, v = rowAgg r ∧ z = (seenData r, []) := by
  unfold seenElem at h
  split at h
  · rename_i cs
    split at h
    · rename_i c x y z s he
      refine ⟨⟨c.data.toList, x, y, z, s.data.toList⟩, ?_, (Option.some.inj h).symm⟩
      obtain ⟨l⟩ := cs
      simp only at he
      subst he
      obtain ⟨⟨c⟩⟩ := c
      obtain ⟨⟨s⟩⟩ := s
      rfl
    · cases h
  · cases h

/-- The row that a Contact's key stands for. -/
def firstRow (t : List Row) (x : List UInt8) : Row := if (diGet t x).2 = true then ⟨x, (diGet t x).1⟩ else Row.zero

/-- Block B is a map that holds of each Contact of t the first row. -/
def FirstsAt (w : World) (B : Nat) (t : List Row) : Prop :=
  ∃ n, ∃ D : DataW Unit, n ≤ t.length ∧ w.ownsMap Try.prog 9 seenElem B n D ∧
    ∀ x : List UInt8, Maps.has D (.string x) = (diGet t x).2 ∧ D.atKey (.string x) (seenData Row.zero) = seenData (firstRow t x)

theorem firstsAt_made (w : World) : FirstsAt (w.alloc (.map #[] 0)) w.heap.size [] :=
  ⟨0, .map [], Nat.le_refl _, World.ownsMap_made w _ _ _, fun _ => ⟨rfl, rfl⟩⟩

theorem FirstsAt.lt {w : World} {B : Nat} {t : List Row} (h : FirstsAt w B t) : B < w.heap.size := by
  obtain ⟨_, _, _, h, _⟩ := h
  exact h.lt

theorem FirstsAt.later {w w' : World} {B : Nat} {t : List Row} (h : FirstsAt w B t) (hb : Below w.heap.size w w') : FirstsAt w' B t := by
  have hlt := h.lt
  obtain ⟨n, D, h1, ⟨es, clock, h2, h3, h4, h5⟩, h6⟩ := h
  exact ⟨n, D, h1, ⟨es, clock, (hb.block B hlt).trans h2, h3, h4, h5⟩, h6⟩

theorem zeroSeen (w : World) : (zeroValue 48).run Try.prog w = .ok (rowAgg Row.zero) w := by kernel_rfl

theorem key_at (x : List UInt8) (h : x.length ≤ 4294967296) : keyOf Try.prog 9 (.string ⟨x.toArray⟩) = some (.string x) :=
  WideMaps.keyOf_string_mk Try.underlying9 (by rw [size_bytes]; unfold maxLen; omega)

theorem FirstsAt.look {w : World} {B : Nat} {t : List Row} (h : FirstsAt w B t) (x : List UInt8) (hx : x.length ≤ 4294967296) :
    (Instr.lookup 91 (.map (some B)) (.string ⟨x.toArray⟩) true).run Try.prog w = .ok (.tuple #[rowAgg (firstRow t x), .bool (diGet t x).2]) w := by
  obtain ⟨n, D, h1, h2, h3⟩ := h
  obtain ⟨v, ps, hrun, hv⟩ := h2.look_ok (Maps.string_keyed Try.underlying9) Try.underlying91 (zeroSeen w) (seenElem_mk Row.zero) (key_at x hx)
  rw [(h3 x).2] at hv
  obtain ⟨r, rfl, hr⟩ := seenElem_inv hv
  simp only [Prod.mk.injEq] at hr
  rw [← seenData_inj hr.1, (h3 x).1] at hrun
  exact hrun

theorem diGet_snoc (t : List Row) (r : Row) (x : List UInt8) : diGet (t ++ [r]) x = if (diGet t x).2 = true then diGet t x else (if r.c = x then (r.v, true) else (Val.zero, false)) := by
  rw [diGet_append]
  rfl

/-- A row of a Contact that is there already. -/
theorem FirstsAt.old {w : World} {B : Nat} {t : List Row} (h : FirstsAt w B t) (r : Row) (hr : (diGet t r.c).2 = true) : FirstsAt w B (t ++ [r]) := by
  obtain ⟨n, D, h1, h2, h3⟩ := h
  have key : ∀ x, diGet (t ++ [r]) x = diGet t x := fun x => by
    rw [diGet_snoc]
    by_cases hx : (diGet t x).2 = true
    · rw [if_pos hx]
    · rw [if_neg hx]
      have : ¬ r.c = x := fun e => hx (by rw [← e]; exact hr)
      rw [if_neg this]
      exact ((diGet_zero t x).resolve_left hx).symm
  refine ⟨n, D, by simp; omega, h2, fun x => ?_⟩
  unfold firstRow
  rw [key x]
  exact h3 x

/-- 'm[c] = r', c a Contact that is not there. -/
theorem wpList_first {w : World} {ops : Array Oper} {rest : List Oper} {o : Oper} {a : Act} {Q : Exit → Act → World → Prop}
    (hg : o.guard = none) (m x v : Operand) (hop : o.op = Op.mapUpdate 91 m x v) (B : Nat) (t : List Row) (hm : a.eval m = .map (some B)) (hown : FirstsAt w B t) (hS : t.length ≤ 4294967296)
    (r : Row) (hu : r.c.length ≤ 4294967296) (hx : a.eval x = .string ⟨r.c.toArray⟩) (hv : a.eval v = rowAgg r) (hno : (diGet t r.c).2 = false)
    (hK : ∀ w', FirstsAt w' B (t ++ [r]) → w.grownBy w' (some B) → wpList Try.prog ops Q rest (a.put o.dst undef) w') :
    wpList Try.prog ops Q (o :: rest) a w := by
  obtain ⟨n, D, h1, h2, h3⟩ := hown
  refine wpList_mapUpdate_own w hg m x v _ hop _ _ (Maps.string_keyed Try.underlying9) Try.underlying91 _ B n D hm h2 (by unfold maxLen; omega) _ _ (.string r.c) hx hv (key_at r.c hu) (seenData r) [] (seenElem_mk r) ?_
  intro w' h6 h7
  have hT := h2.tidy (Maps.string_keyed Try.underlying9)
  have hne : ∀ y : List UInt8, ¬ y = r.c → (Lit.string y) ≠ .string r.c := fun y h e => h (by injection e)
  refine hK w' ⟨n + 1, _, by simp; omega, h6, fun y => ?_⟩ h7
  unfold firstRow
  rw [diGet_snoc]
  by_cases e : y = r.c
  · subst e
    rw [Maps.has_put_same hT.isMap (show WideAt.IsKeyLit (.string r.c) from True.intro), Maps.atKey_put_same hT.isMap (show WideAt.IsKeyLit (.string r.c) from True.intro)]
    rw [if_neg (by rw [hno]; decide), if_pos rfl]
    exact ⟨rfl, rfl⟩
  · rw [Maps.has_put_other (hne y e), Maps.atKey_put_other (hne y e), (h3 y).1, (h3 y).2]
    have e' : ¬ r.c = y := fun h => e h.symm
    rw [if_neg e']
    unfold firstRow
    by_cases hy : (diGet t y).2 = true
    · rw [if_pos hy]
      exact ⟨rfl, rfl⟩
    · rw [if_neg hy, if_neg hy]
      exact ⟨by simpa using hy, rfl⟩

theorem run_makeMap_hint {P : Program} {k e : TypeId} (t : TypeId) (ht : P.underlying t = some (.map k e)) (n : Int) (w : World) : (Instr.makeMap t (some (.int .i64 n))).run P w = .ok (.map (some w.heap.size)) (w.alloc (.map #[] 0)) := by
  simp [Instr.makeMap, run_underlying ht, asInt, asIntOf]

set_option maxHeartbeats 1600000 in
set_option maxRecDepth 100000 in
theorem firsts_any {w : World} {v : Value} {t : List Row} (hv : Tab w v t) (hs : Short t) (hl : t.length ≤ 4294967296) :
    Calls Try.prog 67 #[v] w fun e w' => e = .returned (.map (some w.heap.size)) ∧ FirstsAt w' w.heap.size t ∧ Below w.heap.size w w' := by
  have HV := Lib.hid hv
  have HS := Lib.hid hs
  obtain ⟨a, cap, rfl, _⟩ := hv.open'
  have hmk := fun (n : Int) w => run_makeMap_hint 91 Try.underlying91 n w
  clear hv hs
  go_enter Try.func67, Try.ntmps67
  go_wp2_with fail
  clear hmk
  go_loopw [13] (fun i wr => ∃ k : Nat, k ≤ t.length ∧ i = .int .i64 k ∧ Hid (FirstsAt wr w.heap.size (t.take k)) ∧ Hid (Below w.heap.size w wr)) (fun i _ => t.length - (intOf i).toNat)
  case atStart => exact ⟨0, by omega, rfl, firstsAt_made w, (Below.refl _ _).alloc (Nat.le_refl _) _⟩
  case round =>
    obtain ⟨k, hk, rfl, HF, HN⟩ := hrel
    by_cases hlt : k < t.length
    · obtain ⟨b, off, rfl, h0, h1, h2, h3, h4⟩ := HV.out.row HN.out k hlt
      obtain ⟨hl1, _⟩ := HS.out.get hlt
      have hT : t.take (k + 1) = t.take k ++ [t.getD k Row.zero] := by rw [List.take_succ_eq_append_getElem hlt, row_get hlt]
      obtain ⟨⟨c, ⟨x, y, z, st⟩⟩, hr⟩ : ∃ r, t.getD k Row.zero = r := ⟨_, rfl⟩
      rw [hr] at h0 h1 h2 h3 h4 hl1 hT
      have HT := Lib.hid hT
      simp only at h0 h1 h2 h3 h4 hl1
      have htl : (t.take k).length ≤ 4294967296 := by rw [List.length_take]; omega
      have HFa := Lib.hid (HF.out.later ((Below.refl _ _).alloc (Nat.le_refl _) (.cells #[.string ⟨c.toArray⟩, .int .i64 x, .int .i64 y, .int .i64 z, .string ⟨st.toArray⟩] 48)))
      have N1 := Lib.hid (bl_alloc HN.out (.cells #[.string ⟨c.toArray⟩, .int .i64 x, .int .i64 y, .int .i64 z, .string ⟨st.toArray⟩] 48))
      have hlk := HFa.out.look c hl1
      obtain ⟨⟨c0, ⟨x0, y0, z0, st0⟩⟩, hrow⟩ : ∃ r, firstRow (t.take k) c = r := ⟨_, rfl⟩
      rw [hrow] at hlk
      unfold rowAgg at hlk
      simp only at hlk
      have hsz := HF.out.lt
      clear hr hT hrow
      cases hg : (diGet (t.take k) c).2 with
      | true =>
        rw [hg] at hlk
        have F2 : Hid (FirstsAt wr w.heap.size (t.take (k + 1))) := by show FirstsAt _ _ _; rw [HT.out]; exact HF.out.old ⟨c, x, y, z, st⟩ hg
        have F3 := Lib.hid ((F2.out.later ((Below.refl _ _).alloc (Nat.le_refl _) (.cells #[.string ⟨c.toArray⟩, .int .i64 x, .int .i64 y, .int .i64 z, .string ⟨st.toArray⟩] 48))).later ((Below.refl _ _).alloc (Nat.le_refl _) (.cells #[.string ⟨c0.toArray⟩, .int .i64 x0, .int .i64 y0, .int .i64 z0, .string ⟨st0.toArray⟩] 48)))
        have N2 := Lib.hid (bl_alloc N1.out (.cells #[.string ⟨c0.toArray⟩, .int .i64 x0, .int .i64 y0, .int .i64 z0, .string ⟨st0.toArray⟩] 48))
        clear hg
        go_wp2_with fail
        go_roundw
        case rel => exact ⟨k + 1, by omega, by go_num, F3, N2⟩
        case measure => simp [intOf]; omega
      | false =>
        rw [hg] at hlk
        have HG := Lib.hid hg
        have F3 := Lib.hid (HFa.out.later ((Below.refl _ _).alloc (Nat.le_refl _) (.cells #[.string ⟨c0.toArray⟩, .int .i64 x0, .int .i64 y0, .int .i64 z0, .string ⟨st0.toArray⟩] 48)))
        have N2 := Lib.hid (bl_alloc N1.out (.cells #[.string ⟨c0.toArray⟩, .int .i64 x0, .int .i64 y0, .int .i64 z0, .string ⟨st0.toArray⟩] 48))
        have hz2 := N2.out.size
        clear hg
        go_wp2_with (at_mapUpdate; refine wpList_first rfl _ _ _ rfl w.heap.size (t.take k) rfl F3.out htl ⟨c, x, y, z, st⟩ hl1 rfl rfl HG.out ?_; intro w2 hs2 hg2)
        rw [← HT.out] at hs2
        have F4 := Lib.hid hs2
        have N3 := Lib.hid (N2.out.grown hg2 hz2 (fun i e => by injection e with e; omega))
        clear hs2 hg2
        go_wp2_with fail
        go_roundw
        case rel => exact ⟨k + 1, by omega, by go_num, F4, N3⟩
        case measure => simp [intOf]; omega
    · obtain rfl : k = t.length := by omega
      rw [List.take_length] at HF
      go_wp2_with fail
      go_ret
      exact ⟨rfl, HF.out, HN.out⟩

end Go.Proofs.Ytocjeehoghfnmaa
