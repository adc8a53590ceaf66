/-
  TEXTS OF THE PROOF, one behind the other: Row, RowA, IxRfor, IxRset, IxOps, OpenS, IxFrame, Held, Rgm.
-/
import Derived.Deep.MidRow
import Derived.Below
import Derived.Test.YtlckphdmflofgaaProg
import Derived.Test.YtlckphdmflofgaaA01
import Derived.Lib.Hide
import Derived.Deep.Cut
import Derived.BigFrame
import Derived.Test.YtlckphdmflofgaaA03
import Derived.Test.YtlckphdmflofgaaA02
import Derived.ProofKit
import Derived.OpenShut
import Derived.Lib.SmallJoins
import Derived.Deep.Slices
import Derived.Deep.Fields
import Derived.ChangeSame
import Derived.Deep.RegionHeld
import Derived.BigRegion
import Derived.Lib.QuietBelow

section
/-
  A block that is loaded and stored as a whole, whatever its length.
-/
namespace Go.Proofs.Ytlckphdmflofgaa
open Go.RowKit

theorem setCells_far (B : Nat) : ∀ (cs : List Value) (o : Nat) (w : World) {k : Nat}, ¬ k = B → (w.setCells B o cs).heap[k]? = w.heap[k]?
  | [], _, _, _, _ => rfl
  | v :: r, o, w, k, hk => by
    rw [World.setCells, setCells_far B r (o + 1) _ hk]
    exact Below.heap_setCell _ _ _ k hk

theorem setCells_sizeR (B : Nat) : ∀ (cs : List Value) (o : Nat) (w : World), (w.setCells B o cs).heap.size = w.heap.size
  | [], _, _ => rfl
  | v :: r, o, w => by
    rw [World.setCells, setCells_sizeR B r (o + 1)]
    simp only [World.setCell, Array.size_modify]

theorem setCells_belowR {w0 : World} {n B : Nat} (hB : n ≤ B) : ∀ (cs : List Value) (o : Nat) {w : World}, Below n w0 w → Below n w0 (w.setCells B o cs)
  | [], _, _, h => h
  | v :: r, o, w, h => by
    rw [World.setCells]
    exact setCells_belowR hB r (o + 1) (h.setCell hB _)

theorem setCells_mid {B : Nat} {T : TypeId} : ∀ (cs pre xs : List Value) (w : World), w.heap[B]? = some (.cells (pre ++ xs).toArray T (0, 0)) → cs.length ≤ xs.length → (w.setCells B pre.length cs).heap[B]? = some (.cells (pre ++ cs ++ xs.drop cs.length).toArray T (0, 0))
  | [], pre, xs, w, h, hl => by
    show w.heap[B]? = _
    simpa using h
  | v :: r, pre, x :: xs, w, h, hl => by
    rw [World.setCells]
    have h1 := heap_setCell_same w B pre.length _ _ v h
    have e : ((pre ++ x :: xs).toArray.setIfInBounds pre.length v) = ((pre ++ [v]) ++ xs).toArray := by
      simp
    rw [e] at h1
    have := setCells_mid r (pre ++ [v]) xs _ h1 (by simpa using hl)
    simpa using this

end Go.Proofs.Ytlckphdmflofgaa
end

section
/-
  Structs that are loaded and stored as a whole, out of the middle of a block that is known.
-/
namespace Go.Proofs.Ytlckphdmflofgaa
open Go.RowKit

/-- A struct's type, of n cells. -/
structure AggTy (ty : TypeId) (n : Nat) : Prop where
  row : ∃ d, Try.prog.underlying ty = some d ∧ d.isRow = true
  info : (Try.prog.info? ty).map (·.size) = some n

/-- The world behind a store into a known block. -/
structure StA (w w' : World) (b : Nat) (new : List Value) (T : TypeId) : Prop where
  at' : w'.heap[b]? = some (.cells new.toArray T (0, 0))
  far : ∀ k, ¬ k = b → w'.heap[k]? = w.heap[k]?
  size : w'.heap.size = w.heap.size
  bel : ∀ {w0 : World} {n : Nat}, Below n w0 w → n ≤ b → Below n w0 w'

theorem stA_mid {w : World} {b o : Nat} {all cs new : List Value} {T : TypeId} (h : w.heap[b]? = some (.cells all.toArray T (0, 0))) (hn : o + cs.length ≤ all.length) (hnew : all.take o ++ cs ++ all.drop (o + cs.length) = new) : StA w (w.setCells b o cs) b new T := by
  refine ⟨?_, fun k hk => setCells_far b cs o w hk, setCells_sizeR b cs o w, fun hb hle => setCells_belowR hle cs o hb⟩
  have e : all = all.take o ++ all.drop o := (List.take_append_drop o all).symm
  have hl : (all.take o).length = o := by rw [List.length_take]; omega
  have := setCells_mid cs (all.take o) (all.drop o) w (by rw [← e]; exact h) (by rw [List.length_drop]; omega)
  rw [hl, List.drop_drop, hnew] at this
  exact this

/-- One cell is stored. -/
theorem st1 {ops : Array Oper} {rest : List Oper} {op : Oper} {a : Act} {w : World} {Q : Exit → Act → World → Prop} {ty : TypeId} (hi : (Try.prog.info? ty).map (·.size) = some 1) (x y : Operand) (hgd : op.guard = none) (ho : op.op = .store ty x y)
    (b o : Nat) (hx : a.eval x = .pointer (some ⟨b, o, none⟩)) {all : List Value} {T : TypeId} (h : w.heap[b]? = some (.cells all.toArray T (0, 0))) (v : Value) (hy : a.eval y = v) (hv : v.cells = #[v]) (hn : o + 1 ≤ all.length)
    (h1 : v.oneCell' = true) (new : List Value) (hnew : all.take o ++ [v] ++ all.drop (o + 1) = new)
    (hK : ∀ w', StA w w' b new T → wpList Try.prog ops Q rest (a.put op.dst undef) w') : wpList Try.prog ops Q (op :: rest) a w := by
  have hs := run_storeCells_cells (P := Try.prog) b o [v] 0 w (fun j hj => by
      have : j = 0 := by simpa using hj
      subst this
      rw [cell_of_row w b _ _ _ _ h, List.getElem?_toArray, List.getElem?_eq_getElem (by omega)]
      rfl) (fun j hj => frozen_of_row w b _ _ _ h) (fun u hu => by rw [List.mem_singleton.1 hu]; exact h1)
  simp only [Nat.add_zero] at hs
  refine wpList_plain hgd fun _ hK2 => ?_
  have hk := hK2 _ _ (hK _ (stA_mid h hn hnew))
  have e : (storeVar ty ⟨b, o, none⟩ v).run Try.prog w = .ok () (w.setCells b o [v]) := by
    cases hq : Try.prog.info? ty with
    | none => simp [hq] at hi
    | some i =>
      have hz : i.size = 1 := by simpa [hq] using hi
      have hs := hs
      simp [storeVar, sizeOf, typeInfo, hq, hv, hz, hs]
  unfold Oper.wp execOp
  simp only [ho, hx, hy, Instr.storeAt, Instr.sureAddr, Sem.run_bind, Sem.run_pure, Result.andThen_ok, e]
  exact hk

end Go.Proofs.Ytlckphdmflofgaa
end

section
/-
  LAYER 13, THE DOCUMENT: Forget.
-/
namespace Go.Proofs.Ytlckphdmflofgaa
open Go.RowKit Go.ChangeMaps Go.MapKept

/-- What is left of the first k pairs. -/
def fgT (L : List Pr) (u : List UInt8) (k : Nat) : List Pr := (L.take k).filter (ixFree u)

theorem fgT_next {L : List Pr} {k : Nat} (hk : k < L.length) (u : List UInt8) {p : Pr} (hp : L.getD k ([], []) = p) : fgT L u (k + 1) = if ixFree u p then fgT L u k ++ [p] else fgT L u k := by
  have e : L[k] = p := by rw [← hp, List.getD_eq_getElem?_getD, List.getElem?_eq_getElem hk]; rfl
  unfold fgT
  rw [List.take_succ_eq_append_getElem hk, e, List.filter_append]
  cases h : ixFree u p with
  | true => rw [if_pos rfl, List.filter_cons, if_pos h]; rfl
  | false => rw [if_neg (by decide), List.filter_cons, if_neg (by simp [h])]; simp

theorem fgT_le (L : List Pr) (u : List UInt8) (k : Nat) : (fgT L u k).length ≤ L.length := by
  unfold fgT
  exact Nat.le_trans (List.length_filter_le _ _) (by rw [List.length_take]; omega)

theorem fgT_end (L : List Pr) (u : List UInt8) : fgT L u L.length = ixForget L u := by
  unfold fgT ixForget
  rw [List.take_length]

theorem ownS_shapeI {vals : Pr → List Value} {w : World} {base : Nat} {T : TypeId} {v : Value} {L : List Pr} (h : OwnS vals 2 T w base v L) : ∃ a cap, v = .slice a L.length cap := by
  rcases h.2 with ⟨rfl, h0⟩ | ⟨g, cap, cur, rfl, _⟩
  · rw [h0]; exact ⟨none, 0, rfl⟩
  · exact ⟨_, _, rfl⟩

theorem ownS_farI {w w' : World} {base xb : Nat} {T : TypeId} {v : Value} {L : List Pr} (h : OwnS prVals 2 T w base v L) (hx : xb < base) (hf : ∀ k, ¬ k = xb → w'.heap[k]? = w.heap[k]?) : OwnS prVals 2 T w' base v L := by
  refine ⟨h.1, ?_⟩
  rcases h.2 with h' | ⟨g, cap, cur, h1, h2, h3, h4⟩
  · exact .inl h'
  · exact .inr ⟨g, cap, cur, h1, h2, by rw [hf g (by omega)]; exact h3, h4⟩

/-- The blocks of the document's Index. -/
def RixFoot (xb : Nat) (v : Value) (b : Nat) : Prop := b = xb ∨ v.ownBlock = some b

theorem rix_turned {w wr w9 : World} {xb : Nat} {v v' : Value} {new : List Value} {T T' : TypeId} {L' : List Pr} (hN : Below w.heap.size w wr) (hst : StA wr w9 xb new T) (hO : OwnS prVals 2 T' wr w.heap.size v' L') : Turned w w9 (RixFoot xb v) (RixFoot xb v') := by
  refine ⟨Nat.le_trans hN.size (Nat.le_of_eq hst.size.symm), fun b hb hf => (hst.far b (fun e => hf (.inl e))).trans (hN.block b hb), fun b hb => ?_⟩
  rcases hb with e | e
  · exact .inl (.inl e)
  · obtain ⟨n, c, rfl⟩ := own_blk hO e
    exact .inr hO.head.2.1

theorem free_yes {u a b : List UInt8} (h1 : ¬ a = u) (h2 : ¬ b = u) : ixFree u (a, b) = true := by unfold ixFree; simp [h1, h2]
theorem free_no1 {u a b : List UInt8} (h1 : a = u) : ixFree u (a, b) = false := by unfold ixFree; simp [h1]
theorem free_no2 {u a b : List UInt8} (h2 : b = u) : ixFree u (a, b) = false := by unfold ixFree; simp [h2]

set_option maxHeartbeats 3200000 in
set_option maxRecDepth 100000 in
theorem rixforget_any {w : World} {base xb : Nat} {vl : Value} {L : List Pr} (h : Rix w base xb vl L) (hl : L.length ≤ 100) (u : List UInt8) :
    Calls Try.prog 17 #[.pointer (some ⟨xb, 0, none⟩), .string ⟨u.toArray⟩] w fun e w' => ∃ v, e = .returned (.int .i64 ((L.length : Int) - (ixForget L u).length)) ∧ Rix w' base xb v (ixForget L u) ∧ Below base w w' ∧ Turned w w' (RixFoot xb vl) (RixFoot xb v) := by
  obtain ⟨a, cap, rfl⟩ := rix_shape h
  have HV := Lib.hid (h.2.2.rd rprOK)
  have HI := Lib.hid h
  have hbx := h.1
  have hxl := h.lt
  clear h
  go_enter Try.func17, Try.ntmps17
  go_wp2_with fail
  go_loopw [5, 6] (fun s i wr => ∃ k : Nat, k ≤ L.length ∧ i = .int .i64 k ∧ Hid (OwnS prVals 2 44 wr w.heap.size s (fgT L u k)) ∧ Hid (Below w.heap.size w wr)) (fun _ i _ => L.length - (intOf i).toNat)
  case atStart => exact ⟨0, by omega, rfl, ownS_nil _ _, Below.refl _ _⟩
  case round =>
    obtain ⟨k, hk, rfl, HO, HN⟩ := hrel
    have c0 := (HI.out.later HN.out).cell.1
    by_cases hlt : k < L.length
    · obtain ⟨b, off, rfl, hc⟩ := HV.out.row HN.out k hlt
      have hX := fun p e => fgT_next (p := p) hlt u e
      obtain ⟨y, hy⟩ : ∃ y, L.getD k ([], []) = y := ⟨_, rfl⟩
      rw [hy] at hc
      have hX := hX _ hy
      clear hy
      obtain ⟨y1, y2⟩ := y
      have x0 : wr.cell? ⟨b, off + k * 2, none⟩ = some (.string ⟨y1.toArray⟩) := hc 0 _ rfl
      have x1 : wr.cell? ⟨b, off + k * 2 + 1, none⟩ = some (.string ⟨y2.toArray⟩) := hc 1 _ rfl
      clear hc
      by_cases e1 : y1 = u
      · have t1 : (y1 == u) = true := by simpa using e1
        rw [free_no1 e1, if_neg (by decide)] at hX
        have O3 : Hid (OwnS prVals 2 44 wr w.heap.size _ (fgT L u (k + 1))) := Lib.hid (by rw [hX]; exact HO.out)
        clear hX HO e1
        go_wp2_with fail
        go_roundw
        case rel => exact ⟨k + 1, by omega, by go_num, O3, HN⟩
        case measure => simp [intOf]; omega
      · have t1 : (y1 == u) = false := by simpa using e1
        by_cases e2 : y2 = u
        · have t2 : (y2 == u) = true := by simpa using e2
          rw [free_no2 e2, if_neg (by decide)] at hX
          have O3 : Hid (OwnS prVals 2 44 wr w.heap.size _ (fgT L u (k + 1))) := Lib.hid (by rw [hX]; exact HO.out)
          clear hX HO e1 e2
          go_wp2_with fail
          go_roundw
          case rel => exact ⟨k + 1, by omega, by go_num, O3, HN⟩
          case measure => simp [intOf]; omega
        · have t2 : (y2 == u) = false := by simpa using e2
          rw [free_yes e1 e2, if_pos rfl] at hX
          have HX := Lib.hid hX
          have hcl : (fgT L u k).length ≤ 100 := Nat.le_trans (fgT_le L u k) hl
          have O2 := Lib.hid (HO.out.alloc (.cells #[.string ⟨y1.toArray⟩, .string ⟨y2.toArray⟩] 44))
          have N2 := Lib.hid (HN.out.alloc HN.out.size (.cells #[.string ⟨y1.toArray⟩, .string ⟨y2.toArray⟩] 44))
          have hz3 := N2.out.size
          clear hX HO e1 e2
          go_wp2_with (at_builtin; go_must (refine wpList_append_S rprOK rfl _ _ rfl w.heap.size _ (fgT L u k) rfl (by exact O2.out) _ 1 1 [(y1, y2)] rfl rfl (fun e => nomatch e) ?c1 (by simp only [List.length_cons, List.length_nil]; omega) hz3 ?_))
          case c1 => exact srcS_new rfl rfl
          intro v' w' hown' hb'
          rw [← HX.out] at hown'
          have O3 := Lib.hid hown'
          have N4 := Lib.hid (N2.out.trans hb')
          clear hown' hb' O2 x0 x1 c0
          go_wp2_with fail
          go_roundw
          case rel => exact ⟨k + 1, by omega, by go_num, O3, N4⟩
          case measure => simp [intOf]; omega
    · obtain rfl : k = L.length := by omega
      have ho := HO.out
      rw [fgT_end] at ho
      obtain ⟨a2, cap2, rfl⟩ := ownS_shapeI ho
      have HT := Lib.hid ho
      have HB := Lib.hid (HI.out.later HN.out).2.1
      have hle : (ixForget L u).length ≤ L.length := by rw [← fgT_end]; exact fgT_le L u _
      have hw : IntKind.i64.wrap ((L.length : Int) - ((ixForget L u).length : Int)) = (L.length : Int) - ((ixForget L u).length : Int) := IntWalk.i64_in _ (by omega)
      clear HO ho
      go_wp2_with (with_reducible refine st1 (by kernel_rfl) _ _ rfl rfl (xb) 0 rfl HB.out (.slice a2 (ixForget L u).length cap2) rfl rfl (Nat.le_of_ble_eq_true rfl) rfl [.slice a2 (ixForget L u).length cap2] rfl ?_)
      intro w9 hst
      have hat := hst.at'
      have hO := ownS_low (ownS_farI HT.out hxl hst.far) (base' := base) (by omega)
      have hB := hst.bel (HN.out.mono (show base ≤ w.heap.size by omega)) hbx
      have hTu := Lib.hid (rix_turned (v := .slice a L.length cap) HN.out hst HT.out)
      clear hst
      go_wp2_with fail
      go_ret
      exact ⟨_, rfl, ⟨hbx, hat, hO⟩, hB, hTu.out⟩

end Go.Proofs.Ytlckphdmflofgaa
end

section
/-
  LAYER 13, THE DOCUMENT: Set, but for a pair that is new.
-/
namespace Go.Proofs.Ytlckphdmflofgaa
open Go.RowKit Go.ChangeMaps Go.MapKept

/-- What is left of the first k pairs without one. -/
def reT (L : List Pr) (q : Pr) (k : Nat) : List Pr := (L.take k).filter (· ≠ q)

theorem reT_next {L : List Pr} {k : Nat} (hk : k < L.length) (q : Pr) {p : Pr} (hp : L.getD k ([], []) = p) : reT L q (k + 1) = if p = q then reT L q k else reT L q k ++ [p] := by
  have e : L[k] = p := by rw [← hp, List.getD_eq_getElem?_getD, List.getElem?_eq_getElem hk]; rfl
  unfold reT
  rw [List.take_succ_eq_append_getElem hk, e, List.filter_append]
  by_cases h : p = q
  · rw [if_pos h, List.filter_cons, if_neg (by simp [h])]; simp
  · rw [if_neg h, List.filter_cons, if_pos (by simp [h])]; rfl

theorem reT_le (L : List Pr) (q : Pr) (k : Nat) : (reT L q k).length ≤ L.length := by
  unfold reT
  exact Nat.le_trans (List.length_filter_le _ _) (by rw [List.length_take]; omega)

theorem reT_end (L : List Pr) (q : Pr) : reT L q L.length = L.filter (· ≠ q) := by
  unfold reT
  rw [List.take_length]

theorem rixset_same {w : World} {base xb : Nat} {vl : Value} {L : List Pr} (h : Rix w base xb vl L) (hl : L.length ≤ 100) (u v : List UInt8) {on : Bool} (hon : ixHas L (u, v) = on) :
    Calls Try.prog 13 #[.pointer (some ⟨xb, 0, none⟩), .string ⟨u.toArray⟩, .string ⟨v.toArray⟩, .bool on] w fun e w' => e = .returned (.bool false) ∧ w = w' := by
  have H := Lib.hid (rixhas_any h (by omega) u v)
  have HON := Lib.hid hon
  clear h hon
  go_enter Try.func13, Try.ntmps13
  go_wp2_with fail
  refine H.out.mono ?_
  rintro e w2 ⟨rfl, rfl⟩
  rw [HON.out]
  have t0 : (on == on) = true := by simp
  go_wp2_with fail
  go_ret
  exact ⟨rfl, rfl⟩

set_option maxHeartbeats 3200000 in
set_option maxRecDepth 100000 in
theorem rixset_off {w : World} {base xb : Nat} {vl : Value} {L : List Pr} (h : Rix w base xb vl L) (hl : L.length ≤ 100) (u v : List UInt8) (hin : ixHas L (u, v) = true) :
    Calls Try.prog 13 #[.pointer (some ⟨xb, 0, none⟩), .string ⟨u.toArray⟩, .string ⟨v.toArray⟩, .bool false] w fun e w' => ∃ x, e = .returned (.bool true) ∧ Rix w' base xb x (L.filter (· ≠ (u, v))) ∧ Below base w w' ∧ Turned w w' (RixFoot xb vl) (RixFoot xb x) := by
  obtain ⟨a, cap, rfl⟩ := rix_shape h
  have HV := Lib.hid (h.2.2.rd rprOK)
  have HI := Lib.hid h
  have hbx := h.1
  have hxl := h.lt
  have H := Lib.hid (rixhas_any HI.out (by omega) u v)
  have HON := Lib.hid hin
  clear h hin
  go_enter Try.func13, Try.ntmps13
  go_wp2_with fail
  refine H.out.mono ?_
  rintro e w2 ⟨rfl, rfl⟩
  rw [HON.out]
  go_wp2_with fail
  go_loopw [9, 10] (fun s i wr => ∃ k : Nat, k ≤ L.length ∧ i = .int .i64 k ∧ Hid (OwnS prVals 2 44 wr w.heap.size s (reT L (u, v) k)) ∧ Hid (Below w.heap.size w wr)) (fun _ i _ => L.length - (intOf i).toNat)
  case atStart => exact ⟨0, by omega, rfl, ownS_nil _ _, Below.refl _ _⟩
  case round =>
    obtain ⟨k, hk, rfl, HO, HN⟩ := hrel
    have c0 := (HI.out.later HN.out).cell.1
    by_cases hlt : k < L.length
    · obtain ⟨b, off, rfl, hc⟩ := HV.out.row HN.out k hlt
      have hX := fun p e => reT_next (p := p) hlt (u, v) e
      obtain ⟨y, hy⟩ : ∃ y, L.getD k ([], []) = y := ⟨_, rfl⟩
      rw [hy] at hc
      have hX := hX _ hy
      clear hy
      obtain ⟨y1, y2⟩ := y
      have x0 : wr.cell? ⟨b, off + k * 2, none⟩ = some (.string ⟨y1.toArray⟩) := hc 0 _ rfl
      have x1 : wr.cell? ⟨b, off + k * 2 + 1, none⟩ = some (.string ⟨y2.toArray⟩) := hc 1 _ rfl
      clear hc
      have skipT : ∀ (h : (y1, y2) ≠ (u, v)), reT L (u, v) (k + 1) = reT L (u, v) k ++ [(y1, y2)] := fun h => by rw [hX, if_neg h]
      by_cases e1 : y1 = u
      · have t1 : (y1 == u) = true := by simpa using e1
        by_cases e2 : y2 = v
        · have t2 : (y2 == v) = true := by simpa using e2
          rw [if_pos (by rw [e1, e2])] at hX
          have O3 : Hid (OwnS prVals 2 44 wr w.heap.size _ (reT L (u, v) (k + 1))) := Lib.hid (by rw [hX]; exact HO.out)
          clear hX HO e1 e2 skipT
          go_wp2_with fail
          go_roundw
          case rel => exact ⟨k + 1, by omega, by go_num, O3, HN⟩
          case measure => simp [intOf]; omega
        · have t2 : (y2 == v) = false := by simpa using e2
          have hX := skipT (fun h => e2 (Prod.mk.inj h).2)
          clear skipT
          have HX := Lib.hid hX
          have hcl : (reT L (u, v) k).length ≤ 100 := Nat.le_trans (reT_le L (u, v) k) hl
          have O2 := Lib.hid (HO.out.alloc (.cells #[.string ⟨y1.toArray⟩, .string ⟨y2.toArray⟩] 44))
          have N2 := Lib.hid (HN.out.alloc HN.out.size (.cells #[.string ⟨y1.toArray⟩, .string ⟨y2.toArray⟩] 44))
          have hz3 := N2.out.size
          clear hX HO e1 e2
          go_wp2_with (at_builtin; go_must (refine wpList_append_S rprOK rfl _ _ rfl w.heap.size _ (reT L (u, v) k) rfl (by exact O2.out) _ 1 1 [(y1, y2)] rfl rfl (fun e => nomatch e) ?c1 (by simp only [List.length_cons, List.length_nil]; omega) hz3 ?_))
          case c1 => exact srcS_new rfl rfl
          intro v' w' hown' hb'
          rw [← HX.out] at hown'
          have O3 := Lib.hid hown'
          have N4 := Lib.hid (N2.out.trans hb')
          clear hown' hb' O2 x0 x1 c0
          go_wp2_with fail
          go_roundw
          case rel => exact ⟨k + 1, by omega, by go_num, O3, N4⟩
          case measure => simp [intOf]; omega
      · have t1 : (y1 == u) = false := by simpa using e1
        have hX := skipT (fun h => e1 (Prod.mk.inj h).1)
        clear skipT
        have HX := Lib.hid hX
        have hcl : (reT L (u, v) k).length ≤ 100 := Nat.le_trans (reT_le L (u, v) k) hl
        have O2 := Lib.hid (HO.out.alloc (.cells #[.string ⟨y1.toArray⟩, .string ⟨y2.toArray⟩] 44))
        have N2 := Lib.hid (HN.out.alloc HN.out.size (.cells #[.string ⟨y1.toArray⟩, .string ⟨y2.toArray⟩] 44))
        have hz3 := N2.out.size
        clear hX HO e1
        go_wp2_with (at_builtin; go_must (refine wpList_append_S rprOK rfl _ _ rfl w.heap.size _ (reT L (u, v) k) rfl (by exact O2.out) _ 1 1 [(y1, y2)] rfl rfl (fun e => nomatch e) ?c1 (by simp only [List.length_cons, List.length_nil]; omega) hz3 ?_))
        case c1 => exact srcS_new rfl rfl
        intro v' w' hown' hb'
        rw [← HX.out] at hown'
        have O3 := Lib.hid hown'
        have N4 := Lib.hid (N2.out.trans hb')
        clear hown' hb' O2 x0 x1 c0
        go_wp2_with fail
        go_roundw
        case rel => exact ⟨k + 1, by omega, by go_num, O3, N4⟩
        case measure => simp [intOf]; omega
    · obtain rfl : k = L.length := by omega
      have ho := HO.out
      rw [reT_end] at ho
      obtain ⟨a2, cap2, rfl⟩ := ownS_shapeI ho
      have HT := Lib.hid ho
      have HB := Lib.hid (HI.out.later HN.out).2.1
      have hle : (L.filter (· ≠ (u, v))).length ≤ L.length := by rw [← reT_end]; exact reT_le L (u, v) _
      clear HO ho
      go_wp2_with (with_reducible refine st1 (by kernel_rfl) _ _ rfl rfl (xb) 0 rfl HB.out (.slice a2 (L.filter (· ≠ (u, v))).length cap2) rfl rfl (Nat.le_of_ble_eq_true rfl) rfl [.slice a2 (L.filter (· ≠ (u, v))).length cap2] rfl ?_)
      intro w9 hst
      have hat := Lib.hid hst.at'
      have hO := ownS_low (ownS_farI HT.out hxl hst.far) (base' := base) (by omega)
      have hB := hst.bel (HN.out.mono (show base ≤ w.heap.size by omega)) hbx
      have hTu := Lib.hid (rix_turned (v := .slice a L.length cap) HN.out hst HT.out)
      clear hst
      go_wp2_with fail
      go_ret
      refine ⟨_, rfl, ⟨hbx, hat.out, ?_⟩, hB, (by have h := hTu.out; simp only [ne_eq, decide_not] at h; exact h)⟩
      simp only [ne_eq, decide_not] at hO ⊢
      exact hO

theorem rix_apart {w : World} {base xb : Nat} {v : Value} {L : List Pr} (h : Rix w base xb v L) {g : Nat} (hg : v.ownBlock = some g) : g ≠ xb := by
  obtain ⟨n, c, rfl⟩ := own_blk h.2.2 hg
  obtain ⟨-, -, -, -, -, cur, e2, -⟩ := h.2.2.head
  intro e
  rw [e, h.2.1] at e2
  injection e2 with e2
  injection e2 with _ e2
  exact absurd e2 (by decide)

set_option maxHeartbeats 3200000 in
set_option maxRecDepth 100000 in
theorem rixset_on {w : World} {base xb : Nat} {vl : Value} {L : List Pr} (h : Rix w base xb vl L) (hl : L.length ≤ 100) (u v : List UInt8) (hin : ixHas L (u, v) = false) :
    Calls Try.prog 13 #[.pointer (some ⟨xb, 0, none⟩), .string ⟨u.toArray⟩, .string ⟨v.toArray⟩, .bool true] w fun e w' => ∃ x, e = .returned (.bool true) ∧ Rix w' base xb x (L ++ [(u, v)]) ∧ Below base w w' ∧ Turned w w' (RixFoot xb vl) (RixFoot xb x) := by
  obtain ⟨a, cap, rfl⟩ := rix_shape h
  have HI := Lib.hid h
  have hbx := h.1
  have hxl := h.lt
  have H := Lib.hid (rixhas_any HI.out (by omega) u v)
  have HON := Lib.hid hin
  have c0 := h.cell.1
  have hbw : base ≤ w.heap.size := by omega
  have HO1 := Lib.hid (h.2.2.alloc (.cells #[.string ⟨u.toArray⟩, .string ⟨v.toArray⟩] 44))
  have HSR := Lib.hid (srcS_new (vals := prVals) (w := w) (r := (u, v)) (cs := #[.string ⟨u.toArray⟩, .string ⟨v.toArray⟩]) rfl (e := 44) (B := w.heap.size) rfl _ rfl)
  have hbw1 : base ≤ (w.alloc (.cells #[.string ⟨u.toArray⟩, .string ⟨v.toArray⟩] 44)).heap.size := by simp; omega
  clear h hin
  go_enter Try.func13, Try.ntmps13
  go_wp2_with fail
  refine H.out.mono ?_
  rintro e w2 ⟨rfl, rfl⟩
  rw [HON.out]
  go_wp2_with (at_builtin; go_must (refine wpList_append_G rprOK rfl _ _ rfl base _ L rfl HO1.out _ _ (u, v) rfl HSR.out (by omega) hbw1 ?_))
  intro v3 w3 ⟨g, cap3, hv3, hown3, hgrow3, hlies3, hglt3⟩
  subst hv3
  have hnx : some xb ≠ (Value.slice a L.length cap).ownBlock := fun e => rix_apart HI.out e.symm rfl
  have hG : Hid (∀ b, b < w.heap.size → some b ≠ (Value.slice a L.length cap).ownBlock → w3.heap[b]? = w.heap[b]?) := fun b hb hn => (hgrow3.block b (by simp; omega) hn).trans ((bl_newZ w (.cells #[.string ⟨u.toArray⟩, .string ⟨v.toArray⟩] 44)).block b hb)
  have hsz : Hid (w.heap.size ≤ w3.heap.size) := by
    have := hgrow3.size
    simp at this
    show _ ≤ _
    omega
  have HB := Lib.hid ((hG.out xb hxl hnx).trans HI.out.2.1)
  have HB3 : Hid (Below base w w3) := ((bl_newZ w (.cells #[.string ⟨u.toArray⟩, .string ⟨v.toArray⟩] 44)).mono hbw).grown hgrow3 hbw1 (fun k hk => by obtain ⟨n, c, e⟩ := own_blk HI.out.2.2 hk; have := HI.out.2.2; rw [e] at this; exact this.head.2.1)
  have HO3 := Lib.hid hown3
  have hlg : (Value.slice a L.length cap).ownBlock = some g ∨ w.heap.size ≤ g := by
    rcases hlies3 with e | e
    · exact .inl e
    · simp at e
      exact .inr (by omega)
  clear hown3 hgrow3 hlies3 hglt3 c0 HO1 HSR hbw1
  go_wp2_with (with_reducible refine st1 (by kernel_rfl) _ _ rfl rfl (xb) 0 rfl HB.out (.slice (some ⟨g, 0, none⟩) (L.length + 1) cap3) rfl rfl (Nat.le_of_ble_eq_true rfl) rfl [.slice (some ⟨g, 0, none⟩) (L.length + 1) cap3] rfl ?_)
  intro w9 hst
  have hat := Lib.hid hst.at'
  have hgx : g ≠ xb := by
    rcases hlg with e | e
    · exact rix_apart HI.out e
    · omega
  have hO : Hid (OwnS prVals 2 44 w9 base (.slice (some ⟨g, 0, none⟩) (L.length + 1) cap3) (L ++ [(u, v)])) := by
    refine ⟨HO3.out.1, ?_⟩
    rcases HO3.out.2 with h' | ⟨g', cap', cur, h1, h2, h3, h4⟩
    · exact .inl h'
    · refine .inr ⟨g', cap', cur, h1, h2, ?_, h4⟩
      rw [hst.far g' ?_]
      · exact h3
      · injection h1 with h1 _ _
        injection h1 with h1
        injection h1 with h1 _ _
        omega
  have hB := Lib.hid (hst.bel HB3.out hbx)
  have hTu : Hid (Turned w w9 (RixFoot xb (.slice a L.length cap)) (RixFoot xb (.slice (some ⟨g, 0, none⟩) (L.length + 1) cap3))) := by
    refine ⟨Nat.le_trans hsz.out (Nat.le_of_eq hst.size.symm), fun b hb hf => (hst.far b (fun e => hf (.inl e))).trans (hG.out b hb (fun e => hf (.inr e.symm))), fun b hb => ?_⟩
    rcases hb with e | e
    · exact .inl (.inl e)
    · have e : g = b := Option.some.inj e
      subst e
      rcases hlg with e | e
      · exact .inl (.inr e)
      · exact .inr e
  clear hst
  go_wp2_with fail
  go_ret
  exact ⟨_, rfl, ⟨hbx, hat.out, hO.out⟩, hB.out, hTu.out⟩

/-- Set: all that may come of it. -/
theorem rixset_any {w : World} {base xb : Nat} {vl : Value} {L : List Pr} (h : Rix w base xb vl L) (hl : L.length ≤ 100) (u v : List UInt8) (on : Bool) {L' : List Pr} {r : Bool} (hs : ixSet L (u, v) on = (L', r)) :
    Calls Try.prog 13 #[.pointer (some ⟨xb, 0, none⟩), .string ⟨u.toArray⟩, .string ⟨v.toArray⟩, .bool on] w fun e w' => ∃ x, e = .returned (.bool r) ∧ Rix w' base xb x L' ∧ Below base w w' ∧ Turned w w' (RixFoot xb vl) (RixFoot xb x) := by
  unfold ixSet at hs
  by_cases e : ixHas L (u, v) = on
  · rw [if_pos e] at hs
    cases hs
    refine (rixset_same h hl u v e).mono ?_
    rintro e w2 ⟨rfl, rfl⟩
    exact ⟨vl, rfl, h, Below.refl _ _, turned_below (Below.refl _ _)⟩
  · rw [if_neg e] at hs
    cases on with
    | true =>
      rw [if_pos rfl] at hs
      cases hs
      exact rixset_on h hl u v (by simpa using e)
    | false =>
      rw [if_neg (by decide)] at hs
      cases hs
      exact rixset_off h hl u v (by simpa using e)

end Go.Proofs.Ytlckphdmflofgaa
end

section
/-
  FOR THE STATEMENTS OF LAYER 13: calls that came in; whether they are few; an Index beside the document's.
-/
namespace Go.Proofs.Ytlckphdmflofgaa
open Go.RowKit Go.ChangeMaps Go.MapKept

/-- A call. -/
structure IOp where
  k : Int
  u : List UInt8
  o : List UInt8

def IOp.zero : IOp := ⟨0, [], []⟩

def iopVals (m : IOp) : List Value := [.int .i64 m.k, .string ⟨m.u.toArray⟩, .string ⟨m.o.toArray⟩]

theorem iopOK : RowOK Try.prog iopVals 3 IOp.zero 32 22 (.agg #[.int .i64 0, .string ⟨#[]⟩, .string ⟨#[]⟩]) 40 where
  len _ := rfl
  one a u hu := by
    simp only [iopVals, List.mem_cons, List.not_mem_nil, or_false] at hu
    rcases hu with rfl | rfl | rfl <;> rfl
  pos := by decide
  small := by decide
  under := Try.underlying22
  info := by kernel_rfl
  zvals := rfl
  fits := by decide

abbrev IOps (w : World) (v : Value) (l : List IOp) : Prop := RdS iopVals 3 IOp.zero w v l

theorem IOps.at {w : World} {a : Option Addr} {n cap : Nat} {l : List IOp} (h : IOps w (.slice a n cap) l) {k : Nat} (hk : k < l.length) :
    ∃ b off, a = some ⟨b, off, none⟩ ∧ b < w.heap.size ∧ ∃ d u c, l.getD k IOp.zero = ⟨d, u, c⟩ ∧ ∀ X, Below w.heap.size w X → X.cell? ⟨b, off + k * 3, none⟩ = some (.int .i64 d) ∧ X.cell? ⟨b, off + k * 3 + 1, none⟩ = some (.string ⟨u.toArray⟩) ∧ X.cell? ⟨b, off + k * 3 + 2, none⟩ = some (.string ⟨c.toArray⟩) := by
  obtain ⟨b, off, rfl, hc⟩ := h.row (Below.refl _ _) k hk
  obtain ⟨⟨d, u, c⟩, hy⟩ : ∃ y, l.getD k IOp.zero = y := ⟨_, rfl⟩
  rw [hy] at hc
  have hb : b < w.heap.size := World.block_lt_of_cell? w _ (hc 0 _ rfl)
  refine ⟨b, off, rfl, hb, d, u, c, hy, fun X hX => ?_⟩
  have h' := hc.later hX
  exact ⟨h' 0 _ rfl, h' 1 _ rfl, h' 2 _ rfl⟩

def fewI (l : List IOp) : Bool := decide (l.length ≤ 80) && l.all fun m => decide (m.u.length ≤ 40) && decide (m.o.length ≤ 40)

theorem fewI_yes {l : List IOp} (h : fewI l = true) : l.length ≤ 80 ∧ ∀ k, k < l.length → (l.getD k IOp.zero).u.length ≤ 40 ∧ (l.getD k IOp.zero).o.length ≤ 40 := by
  unfold fewI at h
  simp only [Bool.and_eq_true, decide_eq_true_eq, List.all_eq_true] at h
  refine ⟨h.1, fun k hk => h.2 _ ?_⟩
  rw [List.getD_eq_getElem?_getD, List.getElem?_eq_getElem hk]
  exact List.getElem_mem hk

theorem fewI_no {l : List IOp} {k : Nat} (hk : k < l.length) {d : Int} {u c : List UInt8} (hy : l.getD k IOp.zero = ⟨d, u, c⟩) (h : 40 < u.length ∨ 40 < c.length) : fewI l = false := by
  cases e : fewI l with
  | false => rfl
  | true =>
    have := (fewI_yes e).2 k hk
    rw [hy] at this
    simp only at this
    omega

theorem fewI_all {l : List IOp} (h0 : l.length ≤ 80) (h : ∀ k, k < l.length → (l.getD k IOp.zero).u.length ≤ 40 ∧ (l.getD k IOp.zero).o.length ≤ 40) : fewI l = true := by
  unfold fewI
  simp only [Bool.and_eq_true, decide_eq_true_eq, List.all_eq_true]
  refine ⟨h0, fun m hm => ?_⟩
  obtain ⟨k, hk, rfl⟩ := List.getElem_of_mem hm
  have := h k hk
  rw [List.getD_eq_getElem?_getD, List.getElem?_eq_getElem hk] at this
  exact this

set_option maxHeartbeats 3200000 in
set_option maxRecDepth 100000 in
theorem ifew_any {w : World} {v : Value} {l : List IOp} (h : IOps w v l) : Calls Try.prog 9 #[v] w fun e w' => e = .returned (.bool (fewI l)) ∧ w = w' := by
  obtain ⟨a, cap, rfl, hcap⟩ := h.open'
  have HV := Lib.hid h
  clear h
  go_enter Try.func9, Try.ntmps9
  by_cases h0 : 80 < l.length
  · have t0 : (80 : Int) < (l.length : Int) := by omega
    have t1 : decide ((80 : Int) < (l.length : Int)) = true := decide_eq_true t0
    have HR : Hid (fewI l = false) := by
      show _ = _
      cases e : fewI l with
      | false => rfl
      | true => have := (fewI_yes e).1; omega
    go_wp2_with fail
    go_ret
    exact ⟨by rw [HR.out]; rfl, rfl⟩
  · have t0 : ¬ (80 : Int) < (l.length : Int) := by omega
    have t1 : decide ((80 : Int) < (l.length : Int)) = false := decide_eq_false t0
    go_wp2_with fail
    go_loop [3] (fun s => ∃ i : Nat, i ≤ l.length ∧ s = .int .i64 i ∧ Hid (∀ k, k < i → (l.getD k IOp.zero).u.length ≤ 40 ∧ (l.getD k IOp.zero).o.length ≤ 40)) (fun s => l.length - (intOf s).toNat)
    case atStart => exact ⟨0, by omega, rfl, fun k hk => absurd hk (by omega)⟩
    case round =>
      obtain ⟨i, hi, rfl, HA⟩ := hrel
      by_cases hlt : i < l.length
      · obtain ⟨b, off, rfl, -, d, u, c, hy, hc⟩ := HV.out.at hlt
        obtain ⟨x0, x1, x2⟩ := hc w (Below.refl _ _)
        clear hc
        by_cases h1 : 40 < u.length
        · have s1 : (40 : Int) < (u.length : Int) := by omega
          have s2 : decide ((40 : Int) < (u.length : Int)) = true := decide_eq_true s1
          have HR : Hid (fewI l = false) := fewI_no hlt hy (.inl h1)
          clear hy
          go_wp2_with fail
          go_ret
          exact ⟨by rw [HR.out]; rfl, rfl⟩
        · have s1 : ¬ (40 : Int) < (u.length : Int) := by omega
          have s2 : decide ((40 : Int) < (u.length : Int)) = false := decide_eq_false s1
          by_cases h2 : 40 < c.length
          · have s3 : (40 : Int) < (c.length : Int) := by omega
            have s4 : decide ((40 : Int) < (c.length : Int)) = true := decide_eq_true s3
            have HR : Hid (fewI l = false) := fewI_no hlt hy (.inr h2)
            clear hy
            go_wp2_with fail
            go_ret
            exact ⟨by rw [HR.out]; rfl, rfl⟩
          · have s3 : ¬ (40 : Int) < (c.length : Int) := by omega
            have s4 : decide ((40 : Int) < (c.length : Int)) = false := decide_eq_false s3
            have HA2 : Hid (∀ k, k < i + 1 → (l.getD k IOp.zero).u.length ≤ 40 ∧ (l.getD k IOp.zero).o.length ≤ 40) := by
              show ∀ _, _
              intro k hk
              by_cases e : k = i
              · subst e
                rw [hy]
                exact ⟨by show u.length ≤ 40; omega, by show c.length ≤ 40; omega⟩
              · exact HA.out k (by omega)
            clear hy HA
            go_wp2_with fail
            go_round
            case rel => exact ⟨i + 1, by omega, by go_num, HA2⟩
            case measure => simp [intOf]; omega
      · obtain rfl : i = l.length := by omega
        have HR : Hid (fewI l = true) := fewI_all (by omega) HA.out
        go_wp2_with fail
        go_ret
        exact ⟨by rw [HR.out]; rfl, rfl⟩

/-! ### The Index and the document's, side by side -/

variable {w w' : World} {base xb kb K : Nat} {L : List Pr} {F F' : Nat → Prop} {v v' : Value}

theorem Rix.foot_lt (h : Rix w base kb v L) {b : Nat} (hb : RixFoot kb v b) : b < w.heap.size := by
  rcases hb with rfl | e
  · exact h.lt
  · obtain ⟨n, c, rfl⟩ := own_blk h.2.2 e
    exact h.2.2.head.2.2.1

theorem Rix.stay (h : Rix w base kb v L) (hk : ∀ b, RixFoot kb v b → w'.heap[b]? = w.heap[b]?) : Rix w' base kb v L := by
  refine ⟨h.1, (hk kb (.inl rfl)).trans h.2.1, ⟨h.2.2.1, ?_⟩⟩
  rcases h.2.2.2 with h' | ⟨g, cap, cur, h1, h2, h3, h4⟩
  · exact .inl h'
  · exact .inr ⟨g, cap, cur, h1, h2, by rw [hk g (.inr (by rw [h1]; rfl))]; exact h3, h4⟩

theorem ix_disj1 (hd : ∀ b, F b → ¬ RixFoot kb v b) (ht : Turned w w' F F') (hr : Rix w base kb v L) : ∀ b, F' b → ¬ RixFoot kb v b := by
  intro b hb hr'
  rcases ht.2.2 b hb with e | e
  · exact hd b e hr'
  · have := hr.foot_lt hr'
    omega

theorem ix_disj2 (hd : ∀ b, F b → ¬ RixFoot kb v b) (ht : Turned w w' (RixFoot kb v) (RixFoot kb v')) (hx : IxB w base xb K L F) : ∀ b, F b → ¬ RixFoot kb v' b := by
  intro b hb hr'
  rcases ht.2.2 b hr' with e | e
  · exact hd b hb e
  · have := hx.lt hb
    omega

/-- Both have the pairs L. -/
def IxTwo (w0 w : World) (base xb kb i : Nat) (L : List Pr) : Prop :=
  ∃ F v, IxB w base xb (12 * i) L F ∧ Rix w base kb v L ∧ (∀ b, F b → ¬ RixFoot kb v b) ∧ L.length ≤ i ∧ Below base w0 w

theorem IxTwo.later {w0 : World} {i : Nat} (h : IxTwo w0 w base xb kb i L) (hb : Below w.heap.size w w') : IxTwo w0 w' base xb kb i L := by
  obtain ⟨F, v, h1, h2, h3, h4, h5⟩ := h
  exact ⟨F, v, h1.later hb, h2.later hb, h3, h4, h5.trans (hb.mono h1.baseLe)⟩

theorem ixSet_len {p : Pr} {on : Bool} {L' : List Pr} {r : Bool} (hs : ixSet L p on = (L', r)) : L'.length ≤ L.length + 1 := by
  have := congrArg Prod.fst hs
  unfold ixSet at this
  subst this
  split
  · simp
  · split
    · simp
    · exact Nat.le_succ_of_le (List.length_filter_le _ _)

end Go.Proofs.Ytlckphdmflofgaa
end

section
/-
  FOR THE FRAMES: a slice of structs that came in, opened; over any program.
-/
namespace Go.Proofs.Ytlckphdmflofgaa
open Go.ChangeShapes Go.WideShapes Go.ChangeAt Go.RowKit Go.Deep

theorem choose_S {α : Type} (zero : α) {n : Nat} {Q : Nat → α → Prop} (h : ∀ i, i < n → ∃ r, Q i r) : ∃ t : List α, t.length = n ∧ ∀ i, i < n → Q i (t.getD i zero) := by
  induction n with
  | zero => exact ⟨[], rfl, fun i hi => absurd hi (by omega)⟩
  | succ n ih =>
    obtain ⟨t, hl, ht⟩ := ih fun i hi => h i (by omega)
    obtain ⟨r, hr⟩ := h n (by omega)
    refine ⟨t ++ [r], by simp [hl], fun i hi => ?_⟩
    by_cases hin : i < n
    · have := ht i hin
      simp only [List.getD] at this ⊢
      rwa [List.getElem?_append_left (by omega)]
    · obtain rfl : i = n := by omega
      simp only [List.getD]
      rw [List.getElem?_append_right (by omega), hl]
      simpa using hr

/-- A slice of structs that came in. -/
theorem open_rdS {α : Type} {P : Program} {vals : α → List Value} {sz : Nat} {zero : α} {T S : TypeId} {Z : Value} {bytes : Nat} (D : RowOK P vals sz zero T S Z bytes) (hcells : P.cellsOf T = sz)
    {H : Type} {enc : TypeId × Value → H} {w : World} {base : Nat} {spare : Nat → Bool} {held : Bool} {ok : α → Prop}
    (helem : ∀ fuel cs x, DataW.trod enc P w base spare held fuel T cs = some x → ∃ r, cs = vals r ∧ ok r)
    {r : Reach} {b0 : Nat} {v : Value} {d : DataW H} {p : List MemPlace} (hv : Value.okWide P w r b0 S v) (h : DataW.Trod enc P w base spare held S v d p) :
    ∃ t : List α, RdS vals sz zero w v t ∧ ∀ r ∈ t, ok r := by
  obtain ⟨a, len, cap, rfl⟩ := okWide_slice D.under hv
  obtain ⟨fuel, hf⟩ := h
  rcases open_slice D.under hf with ⟨hcs, _⟩ | ⟨x, l, c, m, n, D', Pl, hcs, _, hl, hm, hmm, _, hi⟩
  · simp [Value.cells] at hcs
    obtain ⟨rfl, rfl, rfl⟩ := hcs
    exact ⟨[], rdS_nil w, by simp⟩
  · simp [Value.cells] at hcs
    obtain ⟨rfl, rfl, rfl⟩ := hcs
    have hlm : len ≤ m := by rw [hmm]; split <;> omega
    rw [hcells] at hi
    obtain ⟨t, htl, ht⟩ := choose_S zero (n := len) (Q := fun i r => (∀ j u, (vals r)[j]? = some u → w.cell? ((x.add (i * sz)).add j) = some u) ∧ ok r) (fun i hil => by
      obtain ⟨cs', hc, htr⟩ := hi i (by omega)
      obtain ⟨_, hcl, hat⟩ := World.cells?_some hc
      obtain ⟨r, rfl, w1⟩ := helem _ _ _ htr
      refine ⟨r, fun j u hu => ?_, w1⟩
      have hj : j < sz := by have := (List.getElem?_eq_some_iff.1 hu).1; rwa [D.len] at this
      rw [hat j hj, hu])
    refine ⟨t, ⟨some x, cap, by rw [htl], by omega, by omega, (fun e => by cases e), ?_⟩, fun r hr => ?_⟩
    · by_cases h0 : len = 0
      · exact .inl (List.length_eq_zero_iff.1 (by omega))
      · obtain ⟨b, off, spot⟩ := x
        have hne : 0 < (vals (t.getD 0 zero)).length := by rw [D.len]; exact D.pos
        have hc := (ht 0 (by omega)).1 0 _ (List.getElem?_eq_getElem hne)
        have hspot : spot = none := by simpa [Addr.add] using World.cell?_spot hc
        subst hspot
        refine .inr ⟨b, off, rfl, ?_, fun i hil => fun j u hu => ?_⟩
        · have := World.block_lt_of_cell? w _ hc
          simpa [Addr.add] using this
        · have := (ht i (by omega)).1 j u hu
          rwa [Addr.add_lit, Addr.add_lit] at this
    · obtain ⟨i, hil, rfl⟩ := List.getElem_of_mem hr
      have := (ht i (by omega)).2
      rwa [List.getD_eq_getElem?_getD, List.getElem?_eq_getElem hil] at this

end Go.Proofs.Ytlckphdmflofgaa
end

section
/-
  FOR THE FRAMES OF LAYER 13's PROOFS: calls that came in, opened.
-/
namespace Go.Proofs.Ytlckphdmflofgaa
open Go.ChangeShapes Go.WideShapes Go.ChangeAt Go.RowKit Go.Deep

section
variable {H : Type} {enc : TypeId × Value → H} {w : World} {base : Nat} {spare : Nat → Bool} {held : Bool}

theorem list3I {α : Type} {l : List α} (h : l.length = 3) : ∃ a b c, l = [a, b, c] := by
  match l, h with
  | [a, b, c], _ => exact ⟨a, b, c, rfl⟩

theorem trod_textI {fuel : Nat} {cs : List Value} {x : DataW H × List MemPlace} (h : DataW.trod enc Try.prog w base spare held fuel 9 cs = some x) : ∃ l : List UInt8, cs = [.string ⟨l.toArray⟩] := by
  obtain ⟨s, e, _, _⟩ := DataW.trod_string Try.underlying9 h
  exact ⟨s.data.toList, by rw [e]⟩

theorem trod_intI {fuel : Nat} {cs : List Value} {x : DataW H × List MemPlace} (h : DataW.trod enc Try.prog w base spare held fuel 3 cs = some x) : ∃ z, cs = [.int .i64 z] ∧ (Lit.int .i64 z).wf = true := by
  obtain ⟨z, e, _, hw⟩ := DataW.trod_int Try.underlying3 h
  exact ⟨z, e, hw⟩

set_option maxRecDepth 100000 in
theorem trod_iop (fuel : Nat) (cs : List Value) (x : DataW H × List MemPlace) (h : DataW.trod enc Try.prog w base spare held fuel 32 cs = some x) :
    ∃ s : IOp, cs = iopVals s ∧ True := by
  obtain ⟨xs, n, _, _, hl, hx, hf⟩ := DataW.trod_struct Try.underlying32 h
  have c6 : Try.prog.cellsOf 32 = 3 := by kernel_rfl
  have c4 : Try.prog.cellsOf 3 = 1 := by kernel_rfl
  have c9 : Try.prog.cellsOf 9 = 1 := by kernel_rfl
  rw [c6] at hl
  obtain ⟨a, b, c, rfl⟩ := list3I hl
  have get : ∀ i, i < 3 → xs[i]? = some (xs.getD i (.nil, [])) := fun i hi => by
    have : i < xs.length := by rw [hx]; exact hi
    simp [List.getD, List.getElem?_eq_getElem this]
  have f0 : DataW.trod enc Try.prog w base spare held n 3 (([a, b, c].drop 0).take (Try.prog.cellsOf 3)) = some (xs.getD 0 (.nil, [])) := (hf 0 _ rfl).trans (get 0 (by omega))
  have f1 : DataW.trod enc Try.prog w base spare held n 9 (([a, b, c].drop 1).take (Try.prog.cellsOf 9)) = some (xs.getD 1 (.nil, [])) := (hf 1 _ rfl).trans (get 1 (by omega))
  have f2 : DataW.trod enc Try.prog w base spare held n 9 (([a, b, c].drop 2).take (Try.prog.cellsOf 9)) = some (xs.getD 2 (.nil, [])) := (hf 2 _ rfl).trans (get 2 (by omega))
  rw [c9] at f1 f2
  rw [c4] at f0
  obtain ⟨k, e0, _⟩ := trod_intI f0
  obtain ⟨u, e1⟩ := trod_textI f1
  obtain ⟨o, e2⟩ := trod_textI f2
  simp at e0 e1 e2
  subst e0 e1 e2
  exact ⟨⟨k, u, o⟩, rfl, trivial⟩

set_option maxRecDepth 100000 in
/-- Calls that came in. -/
theorem open_iops {r : Reach} {b0 : Nat} {v : Value} {d : DataW H} {p : List MemPlace} (hv : Value.okWide Try.prog w r b0 22 v) (h : DataW.Trod enc Try.prog w base spare held 22 v d p) :
    ∃ l : List IOp, IOps w v l := by
  obtain ⟨l, h1, _⟩ := open_rdS (ok := fun _ => True) iopOK (by kernel_rfl) trod_iop hv h
  exact ⟨l, h1⟩

end

end Go.Proofs.Ytlckphdmflofgaa
end

section
/-
  A FEW BLOCKS THAT A DRAWN REGION READS, KEPT THROUGH ITS CALLS: over any program.
-/
namespace Go.Proofs.Ytlckphdmflofgaa
open Go.RowKit

/-- Each block's cells, from the first one on. -/
def heldB (X : World) (bs : List (Nat × List Value)) : Prop := ∀ p ∈ bs, CellsAt X p.1 0 p.2

theorem heldB_nil (X : World) : heldB X [] := fun p h => by cases h
theorem heldB_cons {X : World} {b : Nat} {vs : List Value} {bs : List (Nat × List Value)} (h : CellsAt X b 0 vs) (ht : heldB X bs) : heldB X ((b, vs) :: bs) := fun p hp => by
  rcases List.mem_cons.1 hp with rfl | hp
  · exact h
  · exact ht p hp
theorem heldB_up {W X : World} {bs : List (Nat × List Value)} (hb : Below W.heap.size W X) (h : heldB W bs) : heldB X bs := fun p hp => (h p hp).later hb
theorem heldB_get {X : World} {bs : List (Nat × List Value)} (h : heldB X bs) {b : Nat} {vs : List Value} {i : Nat} {v : Value} (hm : (b, vs) ∈ bs) (hi : vs[i]? = some v) : X.cell? ⟨b, i, none⟩ = some v := by
  have := h _ hm i v hi
  rwa [Nat.zero_add] at this

/-- A few blocks, and one cell of a row. -/
def heldD (X : World) (bs : List (Nat × List Value)) (b off : Nat) (v : Value) : Prop := heldB X bs ∧ X.cell? ⟨b, off, none⟩ = some v

end Go.Proofs.Ytlckphdmflofgaa
end

section
/-
  IN A REGION THAT DRAWS: a call whose answer hangs on memory that stays.
-/
namespace Go.Proofs.Ytlckphdmflofgaa
open Go.RowKit

end Go.Proofs.Ytlckphdmflofgaa
end
