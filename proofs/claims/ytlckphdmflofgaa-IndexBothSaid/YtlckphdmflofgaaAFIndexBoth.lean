/-
  THE PROOF OF IndexBoth: for every input the law returns true, and each argument reads behind the call as it read before. No condition.
-/
import Derived.Test.YtlckphdmflofgaaA04
import Derived.Test.YtlckphdmflofgaaA06
import Derived.Test.YtlckphdmflofgaaA02
import Derived.Deep.CutBlock
import Derived.Test.YtlckphdmflofgaaRows
import Derived.ProofKit
import Derived.OpenShut
import Derived.ShutString
import Derived.ChangeOld
import Derived.SliceStrings
import Derived.Lib.SmallJoins

section
/-
  INDEXBOTH: its walk.
-/
namespace Go.Proofs.Ytlckphdmflofgaa
open Go.RowKit Go.ChangeMaps Go.MapKept

theorem names_two {ns : List (List UInt8)} (h : ∀ x ∈ ns, x.length ≤ 60) {u c : List UInt8} (hu : u.length ≤ 60) (hc : c.length ≤ 60) : ∀ x ∈ ns ++ [u, c], x.length ≤ 60 := by
  intro x hx
  rcases List.mem_append.1 hx with e | e
  · exact h x e
  · simp only [List.mem_cons, List.not_mem_nil, or_false] at e
    rcases e with rfl | rfl <;> assumption

theorem side_short {L : List Pr} (h : ∀ p ∈ L, p.1.length ≤ 60 ∧ p.2.length ≤ 60) : ∀ s u j y, j < (ixSide L s u).length → (ixSide L s u).getD j [] = y → y.length ≤ 60 := by
  intro s u j y hj hy
  have hm : y ∈ ixSide L s u := by
    rw [← hy, List.getD_eq_getElem?_getD, List.getElem?_eq_getElem hj]
    exact List.getElem_mem hj
  unfold ixSide at hm
  rw [mrg_mem, List.mem_map] at hm
  obtain ⟨p, hp, e⟩ := hm
  have := h p (List.mem_filter.1 hp).1
  cases s with
  | false => rw [← e]; exact this.2
  | true => rw [← e]; exact this.1

theorem mrg_short {ns : List (List UInt8)} (h : ∀ x ∈ ns, x.length ≤ 60) : ∀ j y, j < (mrg (ns ++ [])).length → (mrg (ns ++ [])).getD j [] = y → y.length ≤ 60 := by
  intro j y hj hy
  have hm : y ∈ mrg (ns ++ []) := by
    rw [← hy, List.getD_eq_getElem?_getD, List.getElem?_eq_getElem hj]
    exact List.getElem_mem hj
  rw [mrg_mem, List.append_nil] at hm
  exact h y hm

/-- Two cells that are held. -/
def ixS2 (b o : Nat) (u c : Value) (X : World) : Prop := X.cell? ⟨b, o + 1, none⟩ = some u ∧ X.cell? ⟨b, o + 2, none⟩ = some c

def ixS3 (b o b' o' : Nat) (u c : Value) (X : World) : Prop := X.cell? ⟨b, o, none⟩ = some u ∧ X.cell? ⟨b', o', none⟩ = some c

/-- What holds between two calls. -/
def IxBothAt (w0 w : World) (base xb k : Nat) (nv : Value) (ns : List (List UInt8)) : Prop :=
  ∃ L F, IxB w base xb (12 * k) L F ∧ OwnS txtVals 1 9 w base nv ns ∧ (∀ b, F b → nv.ownBlock ≠ some b) ∧ L.length ≤ k ∧ ns.length = 2 * k ∧ NamesOf L ns ∧ (∀ x ∈ ns, x.length ≤ 60) ∧ Below base w0 w

/-- .. and behind a call, before its names are laid to the others. -/
def IxBothMid (w0 w : World) (base xb k : Nat) (nv : Value) (ns : List (List UInt8)) (u c : List UInt8) : Prop :=
  ∃ L F, IxB w base xb (12 * k + 12) L F ∧ OwnS txtVals 1 9 w base nv ns ∧ (∀ b, F b → nv.ownBlock ≠ some b) ∧ L.length ≤ k + 1 ∧ ns.length = 2 * k ∧ NamesOf L (ns ++ [u, c]) ∧ (∀ x ∈ ns, x.length ≤ 60) ∧ Below base w0 w

theorem own_turned {w w' : World} {base : Nat} {nv : Value} {ns : List (List UInt8)} {F F' : Nat → Prop} (h : OwnS txtVals 1 9 w base nv ns) (hd : ∀ b, F b → nv.ownBlock ≠ some b) (ht : Turned w w' F F') :
    OwnS txtVals 1 9 w' base nv ns ∧ ∀ b, F' b → nv.ownBlock ≠ some b := by
  constructor
  · refine ⟨h.1, ?_⟩
    rcases h.2 with h' | ⟨g, cap, cur, h1, h2, h3, h4⟩
    · exact .inl h'
    · refine .inr ⟨g, cap, cur, h1, h2, ?_, h4⟩
      rw [ht.2.1 g (Array.getElem?_eq_some_iff.1 h3).1 (fun hf => hd g hf (by rw [h1]; rfl))]
      exact h3
  · intro b hb e
    rcases ht.2.2 b hb with a | a
    · exact hd b a e
    · have := (World.ownsRow.lt h b e).2
      omega

theorem sumTo_mono (L : List Pr) (s : Bool) (ns : List (List UInt8)) : ∀ d k, sumTo L s ns k ≤ sumTo L s ns (k + d) := by
  intro d
  induction d with
  | zero => exact fun k => Nat.le_refl _
  | succ d ih =>
    intro k
    refine Nat.le_trans (ih k) ?_
    by_cases h : k + d < ns.length
    · rw [show k + (d + 1) = (k + d) + 1 by omega, sumTo_next h rfl]
      exact Nat.le_add_right _ _
    · unfold sumTo
      rw [List.take_of_length_le (by omega), List.take_of_length_le (by omega)]
      exact Nat.le_refl _

theorem sumTo_le {L : List Pr} {s : Bool} {ns : List (List UInt8)} {k : Nat} (hk : k ≤ ns.length) : sumTo L s ns k ≤ sumTo L s ns ns.length := by
  obtain ⟨d, hd⟩ : ∃ d, ns.length = k + d := ⟨_, (Nat.add_sub_cancel' hk).symm⟩
  have := sumTo_mono L s ns d k
  rwa [← hd] at this

/-- What is known behind an append of two texts. -/
def OutT2 (w w' : World) (base : Nat) (v : Value) (t : List (List UInt8)) (a b : List UInt8) (v' : Value) : Prop :=
  ∃ g cap, v' = .slice (some ⟨g, 0, none⟩) (t.length + 2) cap ∧ OwnS txtVals 1 9 w' base v' (t ++ [a, b]) ∧ w.grownBy w' v.ownBlock ∧ (v.ownBlock = some g ∨ g = w.heap.size) ∧ g < w'.heap.size

theorem step_append_T2 {w : World} {ops : Array Oper} {o : Oper} {ac : Act} {K : Act → World → Prop} {Q : Exit → Act → World → Prop} {E : Prop}
    (hgd : o.guard = none) (s x : Operand) (ho : o.op = .call { callee := .builtin .append, args := #[s, x], argTypes := #[38, 38] })
    (base : Nat) (v : Value) (t : List (List UInt8)) (hs : ac.eval s = v) (hown : OwnS txtVals 1 9 w base v t)
    (ad : Addr) (c : Nat) (a b : List UInt8) (hx : ac.eval x = .slice (some ad) 2 c) (hsome : SrcS txtVals w ad [a, b])
    (hlen : t.length < 4294967) (hbase : base ≤ w.heap.size)
    (h : ∀ v' w', OutT2 w w' base v t a b v' → K (ac.put o.dst v') w') :
    if Region.wanted o (yielded ops ac.tmps) = true then Oper.wp Try.prog o ac w K Q else E := by
  obtain ⟨i, hi, hz, hsize, hby⟩ := info_parts txtOK.info
  have hzl : (Value.string ⟨#[]⟩).cells.size = 1 := rfl
  refine step_append_lies w hgd s x 38 ho base 9 i _ 1 16 txtOK.under hi hz hsize hby hzl (by decide) v t.length (cellsS txtVals t) hs hown ad 2 c (cellsS txtVals [a, b]) hx (cellsS_len txtOK.len [a, b]) hsome (cellsS_single txtOK.one [a, b]) (by decide)
    (by unfold maxLen; omega) (Nat.le_trans (Nat.mul_le_mul (show t.length + 2 ≤ 4294969 by omega) (Nat.le_refl 16)) (by decide)) hbase _ rfl ?_
  intro g cap w' h1 h2 h3 h4
  refine h _ w' ⟨g, cap, rfl, ?_, h2, h3, h4⟩
  unfold OwnS
  rw [cellsS_append, List.length_append]
  exact h1

set_option maxHeartbeats 25600000 in
set_option maxRecDepth 100000 in
theorem walkIndexBoth {w : World} {va : Value} {l : List IOp} (h : IOps w va l) :
    Calls Try.prog 4 #[va] w fun e w' => e = .returned (.bool true) ∧ Below w.heap.size w w' := by
  have HL := Lib.hid (fun w => live13 w)
  have HF := Lib.hid (ifew_any h)
  obtain ⟨a, cap, rfl, hcap⟩ := h.open'
  have HV := Lib.hid h
  clear h
  go_enter Try.func4, Try.ntmps4
  go_wp2_with fail
  refine HF.out.mono ?_
  rintro e w0 ⟨rfl, rfl⟩
  cases hfew : fewI l with
  | false =>
    go_wp2_with fail
    refine (HL.out _).mono ?_
    rintro e w2 ⟨rfl, hb⟩
    go_wp2_with fail
    go_ret
    exact ⟨rfl, hb⟩
  | true =>
    obtain ⟨hl80, hshort⟩ := fewI_yes hfew
    have HSH := Lib.hid hshort
    clear hshort hfew HF
    go_wp2_with fail
    refine (ixb_new w).mono ?_
    rintro e w1 ⟨xb, F1, rfl, hx, hb⟩
    have H0 : Hid (IxBothAt w w1 w.heap.size xb 0 (.slice none 0 0) []) := ⟨[], F1, hx, ownS_nil _ _, fun b _ e => (by cases e), Nat.le_refl _, rfl, fun p hp => (by cases hp), fun x hx => (by cases hx), hb⟩
    clear hx hb
    go_wp2_with fail
    go_loopw [4, 5] (fun nv0 s wr => ∃ k : Nat, ∃ ns : List (List UInt8), ∃ nv : Value, k ≤ l.length ∧ nv = nv0 ∧ s = .int .i64 k ∧ Hid (IxBothAt w wr w.heap.size xb k nv ns)) (fun _ s _ => l.length - (intOf s).toNat)
    case atStart => exact ⟨0, [], _, by omega, rfl, rfl, H0⟩
    case round =>
      obtain ⟨k, ns, nv, hk, hnv, rfl, HH⟩ := hrel
      subst hnv
      by_cases hlt : k < l.length
      · obtain ⟨b, off, rfl, hbw, d, u, c, hy, hcell⟩ := HV.out.at hlt
        have hsh := HSH.out k hlt
        rw [hy] at hsh
        obtain ⟨hu, hc⟩ := hsh
        simp only at hu hc
        have HB0 : Hid (Below w.heap.size w wr) := by
          obtain ⟨L, F1, X1, O1, D1, hL1, hn1, hN1, hS1, B1⟩ := HH.out
          exact B1
        obtain ⟨x0, x1, x2⟩ := hcell wr HB0.out
        clear hy HB0
        go_upto_if 31 with fail
        go_cut [] from 31 to 56 (fun wx => Hid (IxBothMid w wx w.heap.size xb k nv ns u c))
        case first =>
          obtain ⟨L, F1, X1, O1, D1, hL1, hn1, hN1, hS1, B1⟩ := HH.out
          have HX := Lib.hid X1
          have HO := Lib.hid O1
          have HD := Lib.hid D1
          have HB := Lib.hid B1
          have HN := Lib.hid hN1
          have HNS := Lib.hid hS1
          clear X1 O1 D1 B1 hN1 HH hS1
          by_cases e3 : d = 3
          · subst e3
            go_wp2_with fail
            refine (ixb_forget HX.out (by omega) u (by omega) (by omega)).mono ?_
            rintro e w2 ⟨F2, rfl, X2, B2, T2⟩
            have hl2 : (ixForget L u).length ≤ L.length := List.length_filter_le _ _
            have HE : Hid (IxBothMid w w2 w.heap.size xb k nv ns u c) := ⟨_, F2, X2.more (by omega), (own_turned HO.out HD.out T2).1, (own_turned HO.out HD.out T2).2, by omega, hn1, names_forget HN.out u u c, HNS.out, HB.out.trans B2⟩
            clear X2 B2 T2 HX HO HD HB HN x0 x1 x2
            go_wp2_with fail
            go_meet
            exact HE
          · have g3 : (d == 3) = false := by simpa using e3
            by_cases e1 : d = 1
            · subst e1
              obtain ⟨⟨L2, r2⟩, hs2⟩ : ∃ p, ixSet L (u, c) false = p := ⟨_, rfl⟩
              have HS2 := Lib.hid hs2
              have hL2 := ixSet_len hs2
              clear hs2
              have HXE := Lib.hid (HX.out.stay (w' := wr.drew) (fun _ _ => rfl))
              have HOE := Lib.hid HO.out.drew
              have HBE : Hid (Below w.heap.size w wr.drew) := Lib.hid HB.out.drew
              have k0 : wr.drew.cell? ⟨b, off + k * 3, none⟩ = some (.int .i64 1) ∧ wr.drew.cell? ⟨b, off + k * 3 + 1, none⟩ = some (.string ⟨u.toArray⟩) ∧ wr.drew.cell? ⟨b, off + k * 3 + 2, none⟩ = some (.string ⟨c.toArray⟩) := ⟨x0, x1, x2⟩
              go_wp2_with fail
              go_region_held (fun X => X.cell? ⟨b, off + k * 3, none⟩ = some (.int .i64 1) ∧ X.cell? ⟨b, off + k * 3 + 1, none⟩ = some (.string ⟨u.toArray⟩) ∧ X.cell? ⟨b, off + k * 3 + 2, none⟩ = some (.string ⟨c.toArray⟩)) ((first | exact k0 | exact k1)) ((go_at_call 12; refine (ixb_set HXE.out (by omega) u c (by omega) (by omega) (by omega) false HS2.out).mono ?_; rintro e w2 ⟨F2, rfl, X2, B2, T2⟩; have k1 := hcell w2 (HBE.out.trans B2)))
              have HE : Hid (IxBothMid w w2 w.heap.size xb k nv ns u c) := ⟨L2, F2, X2, (own_turned HOE.out HD.out T2).1, (own_turned HOE.out HD.out T2).2, by omega, hn1, names_set HN.out HS2.out, HNS.out, HBE.out.trans B2⟩
              clear X2 B2 T2 HX HO HD HB HN HXE HOE HBE HS2 k0 k1 x0 x1 x2
              go_wp2_with fail
              go_meet
              exact HE
            · have g1 : (d == 1) = false := by simpa using e1
              have g2 : (d != 1) = true := by simpa using e1
              obtain ⟨⟨L2, r2⟩, hs2⟩ : ∃ p, ixSet L (u, c) true = p := ⟨_, rfl⟩
              have HS2 := Lib.hid hs2
              have hL2 := ixSet_len hs2
              clear hs2
              have HXE := Lib.hid (HX.out.stay (w' := wr.drew) (fun _ _ => rfl))
              have HOE := Lib.hid HO.out.drew
              have HBE : Hid (Below w.heap.size w wr.drew) := Lib.hid HB.out.drew
              have k0 : wr.drew.cell? ⟨b, off + k * 3, none⟩ = some (.int .i64 d) ∧ wr.drew.cell? ⟨b, off + k * 3 + 1, none⟩ = some (.string ⟨u.toArray⟩) ∧ wr.drew.cell? ⟨b, off + k * 3 + 2, none⟩ = some (.string ⟨c.toArray⟩) := ⟨x0, x1, x2⟩
              go_wp2_with fail
              go_region_held (fun X => X.cell? ⟨b, off + k * 3, none⟩ = some (.int .i64 d) ∧ X.cell? ⟨b, off + k * 3 + 1, none⟩ = some (.string ⟨u.toArray⟩) ∧ X.cell? ⟨b, off + k * 3 + 2, none⟩ = some (.string ⟨c.toArray⟩)) ((first | exact k0 | exact k1)) ((go_at_call 12; refine (ixb_set HXE.out (by omega) u c (by omega) (by omega) (by omega) true HS2.out).mono ?_; rintro e w2 ⟨F2, rfl, X2, B2, T2⟩; have k1 := hcell w2 (HBE.out.trans B2)))
              have HE : Hid (IxBothMid w w2 w.heap.size xb k nv ns u c) := ⟨L2, F2, X2, (own_turned HOE.out HD.out T2).1, (own_turned HOE.out HD.out T2).2, by omega, hn1, names_set HN.out HS2.out, HNS.out, HBE.out.trans B2⟩
              clear X2 B2 T2 HX HO HD HB HN HXE HOE HBE HS2 k0 k1 x0 x1 x2
              go_wp2_with fail
              go_meet
              exact HE

        case rest =>
          obtain ⟨L3, F1, X1, O1, D1, hL1, hn1, hN1, hS1, B1⟩ := hcut.out
          have HX := Lib.hid X1
          have HO := Lib.hid O1
          have HD := Lib.hid D1
          have HB := Lib.hid B1
          have HN := Lib.hid hN1
          have hbs := Lib.hid X1.baseLe
          have HN1 := Lib.hid hn1
          have HNS := Lib.hid hS1
          clear X1 O1 D1 B1 hN1 hcut HH x0 x1 x2 hn1 hS1
          have HS0 : Hid (ixS2 b (off + k * 3) (.string ⟨u.toArray⟩) (.string ⟨c.toArray⟩) wc) := (hcell wc HB.out).2
          have hq0 : ∀ X, ixS2 b (off + k * 3) (.string ⟨u.toArray⟩) (.string ⟨c.toArray⟩) X → X.cell? ⟨b, off + k * 3 + 1, none⟩ = some (.string ⟨u.toArray⟩) := fun X h => h.1
          have hq1 : ∀ X, ixS2 b (off + k * 3) (.string ⟨u.toArray⟩) (.string ⟨c.toArray⟩) X → X.cell? ⟨b, off + k * 3 + 2, none⟩ = some (.string ⟨c.toArray⟩) := fun X h => h.2
          have HC := Lib.hid hcell
          clear hcell
          go_upto_region 13 with fail
          refine wp_region_held_drew (S := (ixS2 b (off + k * 3) (.string ⟨u.toArray⟩) (.string ⟨c.toArray⟩))) (by kernel_rfl) ?_ (fun hHeld => ?_)
          · exact HS0.out
          have G0 : Hid (∀ row, wc.grownBy wc.drew row) := fun row => ⟨rfl, rfl, rfl, Nat.le_refl _, fun _ _ _ => rfl⟩
          have HO0 := Lib.hid HO.out.drew
          have hsz0 : wc.drew.heap.size = wc.heap.size := rfl
          generalize wc.drew = z0 at G0 HO0 hsz0 hHeld ⊢
          refine wpAnyH_take (i := 0) (oi := { dst := some 57, op := Op.move (Operand.tmp 4), type := 38, pos := "law.go:100", after := #[], guard := none }) (v := ?_) rfl (by as_aux_lemma => kernel_rfl) (by as_aux_lemma => kernel_rfl) (by as_aux_lemma => kernel_rfl) (fun _ _ _ h => h) (Or.inl ⟨by rfl, ?_⟩) (by assumption) ?_
          rotate_left
          · intro w' hSw
            try dsimp only at hSw
            go_simp
            try with_reducible rfl
          try simp only [Act.put, List.setIfInBounds_toArray, List.set_cons_zero, List.set_cons_succ]
          refine wpAnyH_take (i := 1) (oi := { dst := some 58, op := Op.move (Operand.tmp 0), type := 22, pos := "law.go:100", after := #[], guard := none }) (v := ?_) rfl (by as_aux_lemma => kernel_rfl) (by as_aux_lemma => kernel_rfl) (by as_aux_lemma => kernel_rfl) (fun _ _ _ h => h) (Or.inl ⟨by rfl, ?_⟩) (by assumption) ?_
          rotate_left
          · intro w' hSw
            try dsimp only at hSw
            go_simp
            try with_reducible rfl
          try simp only [Act.put, List.setIfInBounds_toArray, List.set_cons_zero, List.set_cons_succ]
          refine wpAnyH_take (i := 2) (oi := { dst := some 59, op := Op.move (Operand.tmp 5), type := 3, pos := "law.go:100", after := #[], guard := none }) (v := ?_) rfl (by as_aux_lemma => kernel_rfl) (by as_aux_lemma => kernel_rfl) (by as_aux_lemma => kernel_rfl) (fun _ _ _ h => h) (Or.inl ⟨by rfl, ?_⟩) (by assumption) ?_
          rotate_left
          · intro w' hSw
            try dsimp only at hSw
            go_simp
            try with_reducible rfl
          try simp only [Act.put, List.setIfInBounds_toArray, List.set_cons_zero, List.set_cons_succ]
          refine wpAnyH_take (i := 3) (oi := { dst := some 60, op := Op.indexAddr 22 (Operand.tmp 58) (Operand.tmp 59), type := 0, pos := "law.go:100", after := #[{ on := 1, ground := Ground.data }, { on := 2, ground := Ground.data }], guard := none }) (v := ?_) rfl (by as_aux_lemma => kernel_rfl) (by as_aux_lemma => kernel_rfl) (by as_aux_lemma => kernel_rfl) (fun _ _ _ h => h) (Or.inl ⟨by rfl, ?_⟩) (by assumption) ?_
          rotate_left
          · intro w' hSw
            try dsimp only at hSw
            go_simp
            try with_reducible rfl
          try simp only [Act.put, List.setIfInBounds_toArray, List.set_cons_zero, List.set_cons_succ]
          refine wpAnyH_take (i := 4) (oi := { dst := some 61, op := Op.fieldAddr 32 (Operand.tmp 60) 1, type := 0, pos := "law.go:100", after := #[{ on := 3, ground := Ground.data }], guard := none }) (v := ?_) rfl (by as_aux_lemma => kernel_rfl) (by as_aux_lemma => kernel_rfl) (by as_aux_lemma => kernel_rfl) (fun _ _ _ h => h) (Or.inl ⟨by rfl, ?_⟩) (by assumption) ?_
          rotate_left
          · intro w' hSw
            try dsimp only at hSw
            go_simp
            try with_reducible rfl
          try simp only [Act.put, List.setIfInBounds_toArray, List.set_cons_zero, List.set_cons_succ]
          refine wpAnyH_take (i := 5) (oi := { dst := some 62, op := Op.load 9 (Operand.tmp 61), type := 9, pos := "law.go:100", after := #[{ on := 4, ground := Ground.data }], guard := none }) (v := ?_) rfl (by as_aux_lemma => kernel_rfl) (by as_aux_lemma => kernel_rfl) (by as_aux_lemma => kernel_rfl) (fun _ _ _ h => h) (Or.inl ⟨by rfl, ?_⟩) (by assumption) ?_
          rotate_left
          · intro w' hSw
            try dsimp only at hSw
            go_simp
            try with_reducible rfl
          try simp only [Act.put, List.setIfInBounds_toArray, List.set_cons_zero, List.set_cons_succ]
          refine wpAnyH_take (i := 6) (oi := { dst := some 63, op := Op.move (Operand.tmp 0), type := 22, pos := "law.go:100", after := #[], guard := none }) (v := ?_) rfl (by as_aux_lemma => kernel_rfl) (by as_aux_lemma => kernel_rfl) (by as_aux_lemma => kernel_rfl) (fun _ _ _ h => h) (Or.inl ⟨by rfl, ?_⟩) (by assumption) ?_
          rotate_left
          · intro w' hSw
            try dsimp only at hSw
            go_simp
            try with_reducible rfl
          try simp only [Act.put, List.setIfInBounds_toArray, List.set_cons_zero, List.set_cons_succ]
          refine wpAnyH_take (i := 7) (oi := { dst := some 64, op := Op.move (Operand.tmp 5), type := 3, pos := "law.go:100", after := #[], guard := none }) (v := ?_) rfl (by as_aux_lemma => kernel_rfl) (by as_aux_lemma => kernel_rfl) (by as_aux_lemma => kernel_rfl) (fun _ _ _ h => h) (Or.inl ⟨by rfl, ?_⟩) (by assumption) ?_
          rotate_left
          · intro w' hSw
            try dsimp only at hSw
            go_simp
            try with_reducible rfl
          try simp only [Act.put, List.setIfInBounds_toArray, List.set_cons_zero, List.set_cons_succ]
          refine wpAnyH_take (i := 8) (oi := { dst := some 65, op := Op.indexAddr 22 (Operand.tmp 63) (Operand.tmp 64), type := 0, pos := "law.go:100", after := #[{ on := 6, ground := Ground.data }, { on := 7, ground := Ground.data }], guard := none }) (v := ?_) rfl (by as_aux_lemma => kernel_rfl) (by as_aux_lemma => kernel_rfl) (by as_aux_lemma => kernel_rfl) (fun _ _ _ h => h) (Or.inl ⟨by rfl, ?_⟩) (by assumption) ?_
          rotate_left
          · intro w' hSw
            try dsimp only at hSw
            go_simp
            try with_reducible rfl
          try simp only [Act.put, List.setIfInBounds_toArray, List.set_cons_zero, List.set_cons_succ]
          refine wpAnyH_take (i := 9) (oi := { dst := some 66, op := Op.fieldAddr 32 (Operand.tmp 65) 2, type := 0, pos := "law.go:100", after := #[{ on := 8, ground := Ground.data }], guard := none }) (v := ?_) rfl (by as_aux_lemma => kernel_rfl) (by as_aux_lemma => kernel_rfl) (by as_aux_lemma => kernel_rfl) (fun _ _ _ h => h) (Or.inl ⟨by rfl, ?_⟩) (by assumption) ?_
          rotate_left
          · intro w' hSw
            try dsimp only at hSw
            go_simp
            try with_reducible rfl
          try simp only [Act.put, List.setIfInBounds_toArray, List.set_cons_zero, List.set_cons_succ]
          refine wpAnyH_take (i := 10) (oi := { dst := some 67, op := Op.load 9 (Operand.tmp 66), type := 9, pos := "law.go:100", after := #[{ on := 9, ground := Ground.data }], guard := none }) (v := ?_) rfl (by as_aux_lemma => kernel_rfl) (by as_aux_lemma => kernel_rfl) (by as_aux_lemma => kernel_rfl) (fun _ _ _ h => h) (Or.inl ⟨by rfl, ?_⟩) (by assumption) ?_
          rotate_left
          · intro w' hSw
            try dsimp only at hSw
            go_simp
            try with_reducible rfl
          try simp only [Act.put, List.setIfInBounds_toArray, List.set_cons_zero, List.set_cons_succ]
          refine wpAnyH_ready (rs := [11]) (by as_aux_lemma => kernel_rfl) (by simp) ?_
          refine AllReadyH.cons (o := { dst := some 68, op := Op.buildSlice 38 2 #[(0, Operand.tmp 62), (1, Operand.tmp 67)], type := 38, pos := "law.go:100", after := #[{ on := 5, ground := Ground.data }, { on := 10, ground := Ground.data }], guard := none }) rfl (fun Kx hK => ?_) AllReadyH.nil
          go_simp
          have nz := (MapKept.heap_alloc z0 (.cells #[.string ⟨u.toArray⟩, .string ⟨c.toArray⟩] 9)).1
          have G1 : ∀ row, wc.grownBy (z0.alloc (.cells #[.string ⟨u.toArray⟩, .string ⟨c.toArray⟩] 9)) row := fun row => World.grownBy.trans (G0.out row) (World.grownBy_alloc z0 _ row)
          have HO1 := Lib.hid (HO0.out.alloc (.cells #[.string ⟨u.toArray⟩, .string ⟨c.toArray⟩] 9))
          have BZ1 : Hid (Below w.heap.size w (z0.alloc (.cells #[.string ⟨u.toArray⟩, .string ⟨c.toArray⟩] 9))) := Lib.hid (HB.out.grown (G1 none) hbs.out (fun k hk => by cases hk))
          have hg1s := (G1 none).size
          refine hK.out _ _ ?_ (fun hHeld2 => ?_)
          · exact (HC.out _ BZ1.out).2
          clear hK Kx hHeld
          have hHeld := hHeld2
          clear hHeld2
          try simp only [Act.put, List.setIfInBounds_toArray, List.set_cons_zero, List.set_cons_succ]
          have G1 := Lib.hid G1
          generalize z0.alloc (.cells #[.string ⟨u.toArray⟩, .string ⟨c.toArray⟩] 9) = z1 at nz G1 HO1 BZ1 hHeld hg1s ⊢
          generalize z0.heap.size = rb at nz hsz0 ⊢
          have SR : Hid (SrcS txtVals z1 ⟨rb, 0, none⟩ [u, c]) := by
            show ∀ _, _
            intro j x hx
            rw [Addr.add_lit, Nat.zero_add, cell_of_row z1 rb j _ _ _ nz, ← hx]
            simp [cellsS, txtVals, encS]
          clear nz
          refine wpAnyH_ready (rs := [12]) (by as_aux_lemma => kernel_rfl) (by simp) ?_
          refine AllReadyH.cons (o := { dst := some 69, op := Op.call { callee := Callee.builtin Builtin.append, args := #[Operand.tmp 57, Operand.tmp 68], argTypes := #[38, 38] }, type := 38, pos := "law.go:100", after := #[{ on := 0, ground := Ground.data }, { on := 11, ground := Ground.data }], guard := none }) rfl (fun Kx hK => ?_) AllReadyH.nil
          refine step_append_T2 rfl (.tmp 57) (.tmp 68) rfl w.heap.size _ ns (by simp [Act.eval]; done) HO1.out ⟨rb, 0, none⟩ 2 u c (by simp [Act.eval]; done) SR.out (by have := HN1.out; omega) (Nat.le_trans hbs.out hg1s) ?_
          intro v2 z2 ⟨g, cap, hv2, hown2, hgrow2, hlies2, hglt2⟩
          have G2 := Lib.hid ((G1.out _).trans hgrow2)
          have BZ2 : Hid (Below w.heap.size w z2) := Lib.hid (BZ1.out.grown hgrow2 (Nat.le_trans hbs.out hg1s) (fun k hk => (World.ownsRow.lt HO1.out k hk).1))
          have X2 := Lib.hid (HX.out.stay (w' := z2) fun b hb => G2.out.block b (HX.out.lt hb) (fun e => HD.out b hb e.symm))
          have D2 : Hid (∀ b, F1 b → v2.ownBlock ≠ some b) := by
            show ∀ _, _
            intro b hb e
            rw [hv2] at e
            have e : g = b := Option.some.inj e
            subst e
            rcases hlies2 with a | a
            · exact HD.out g hb a
            · have h1 := HX.out.lt hb
              omega
          have W2 := Lib.hid hown2
          clear hown2 hgrow2 hlies2 hglt2 SR HO1 hg1s G1
          go_simp
          refine hK.out _ _ ?_ (fun hHeld2 => ?_)
          · exact (HC.out _ BZ2.out).2
          clear hK Kx hHeld
          have hHeld := hHeld2
          clear hHeld2
          try simp only [Act.put, List.setIfInBounds_toArray, List.set_cons_zero, List.set_cons_succ]
          refine wpAnyH_take (i := 13) (oi := { dst := some 4, op := Op.assign (Operand.tmp 69), type := 38, pos := "law.go:100", after := #[{ on := 12, ground := Ground.data }, { on := 12, ground := Ground.chain }, { on := 0, ground := Ground.phase }, { on := 1, ground := Ground.phase }, { on := 2, ground := Ground.phase }, { on := 3, ground := Ground.phase }, { on := 4, ground := Ground.phase }, { on := 5, ground := Ground.phase }, { on := 6, ground := Ground.phase }, { on := 7, ground := Ground.phase }, { on := 8, ground := Ground.phase }, { on := 9, ground := Ground.phase }, { on := 10, ground := Ground.phase }, { on := 11, ground := Ground.phase }, { on := 12, ground := Ground.phase }], guard := none }) (v := ?_) rfl (by as_aux_lemma => kernel_rfl) (by as_aux_lemma => kernel_rfl) (by as_aux_lemma => kernel_rfl) (fun _ _ _ h => h) (Or.inl ⟨by rfl, ?_⟩) (by assumption) ?_
          rotate_left
          · intro w' hSw
            try dsimp only at hSw
            go_simp
            try with_reducible rfl
          try simp only [Act.put, List.setIfInBounds_toArray, List.set_cons_zero, List.set_cons_succ]
          refine wpAnyH_done (by kernel_rfl) ?_ _
          have HE : Hid (IxBothAt w z2 w.heap.size xb (k + 1) (.slice (some ⟨g, 0, none⟩) (ns.length + 2) cap) (ns ++ [u, c])) := ⟨L3, F1, (show 12 * (k + 1) = 12 * k + 12 by omega) ▸ X2.out, hv2 ▸ W2.out, hv2 ▸ D2.out, hL1, by (have := HN1.out; simp; omega), HN.out, names_two HNS.out (by omega) (by omega), BZ2.out⟩
          clear HX HO HD HB HN hbs HS0 hq0 hq1 HC X2 D2 W2 BZ2 hHeld
          go_wp2_with fail
          go_roundw
          case rel => exact ⟨k + 1, ns ++ [u, c], _, by omega, rfl, by go_num, HE⟩
          case measure => simp [intOf]; omega

      · obtain rfl : k = l.length := by omega
        obtain ⟨L, F1, X1, O1, D1, hL1, hn1, hN1, hS1, B1⟩ := HH.out
        have HX := Lib.hid X1
        have HB := Lib.hid B1
        have TT := Lib.hid (ownT_of O1).texts
        have hnl : ns.length ≤ 500 := by omega
        have HSL : Hid (∀ s u j y, j < (ixSide L s u).length → (ixSide L s u).getD j [] = y → y.length ≤ 60) := side_short X1.short
        have HMS := Lib.hid (mrg_short hS1)
        have E1 := Lib.hid (sumTo_all X1.nd true (rising_nodup (mrg_rising _)) (names_pc hN1 true))
        have E2 := Lib.hid (sumTo_all X1.nd false (rising_nodup (mrg_rising _)) (names_pc hN1 false))
        clear X1 O1 D1 B1 hN1 hn1 HH hS1
        go_wp2_with fail
        refine (irmerge_big TT.out (texts_nil _) hnl (by simp)).mono ?_
        rintro e w2 ⟨tn, rfl, ht, b2⟩
        have TN := Lib.hid ht
        replace HX := Lib.hid (HX.out.later b2)
        replace HB := Lib.hid (HB.out.trans (b2.mono HB.out.size))
        clear ht b2 TT
        have hnm : (mrg (ns ++ [])).length ≤ 500 := Nat.le_trans (mrg_len _) (by simpa using hnl)
        generalize mrg (ns ++ []) = nm at TN HMS E1 E2 hnm
        obtain ⟨na, nc, rfl, -⟩ := TN.out
        have hsum1 := fun k hk => sumTo_le (L := L) (s := true) (ns := nm) (k := k) hk
        have hsum2 := fun k hk => sumTo_le (L := L) (s := false) (ns := nm) (k := k) hk
        rw [E1.out] at hsum1
        rw [E2.out] at hsum2
        have HS1 := Lib.hid hsum1
        have HS2 := Lib.hid hsum2
        clear hsum1 hsum2
        go_wp2_with fail
        go_loopw [6, 7, 8] (fun p q s wr => ∃ k : Nat, k ≤ nm.length ∧ s = .int .i64 k ∧ p = .int .i64 (sumTo L true nm k) ∧ q = .int .i64 (sumTo L false nm k) ∧ Hid (IxB wr w.heap.size xb (12 * l.length) L F1) ∧ Hid (Texts wr (.slice na nm.length nc) nm) ∧ Hid (Below w.heap.size w wr)) (fun _ _ s _ => nm.length - (intOf s).toNat)
        case atStart => exact ⟨0, by omega, rfl, rfl, rfl, HX, TN, HB⟩
        case round =>
          clear HX TN HB
          obtain ⟨k, hk, rfl, rfl, rfl, HX, TN, HB⟩ := hrel
          by_cases hlt : k < nm.length
          · obtain ⟨bn, on, rfl, hcn⟩ := TN.out.cell (Below.refl _ _) k hlt
            obtain ⟨u, hu⟩ : ∃ u, nm.getD k [] = u := ⟨_, rfl⟩
            rw [hu] at hcn
            have hul := Lib.hid (HMS.out k u hlt hu)
            have hun := Lib.hid hu
            have S1 := Lib.hid (HS1.out (k + 1) hlt)
            have S2 := Lib.hid (HS2.out (k + 1) hlt)
            have N1 := Lib.hid (sumTo_next (L := L) (s := true) hlt hu)
            have N2 := Lib.hid (sumTo_next (L := L) (s := false) hlt hu)
            have HLT := Lib.hid hlt
            clear hu
            go_wp2_with fail
            refine (ixb_watch HX.out u hul.out (by omega) rfl).mono ?_
            rintro e w3 ⟨v1, rfl, ⟨ht, _⟩, b3⟩
            have T1 := Lib.hid ht
            replace HX := Lib.hid (HX.out.later b3)
            replace TN := Lib.hid (TN.out.later b3)
            replace HB := Lib.hid (HB.out.trans (b3.mono HB.out.size))
            replace hcn := (b3.cell (World.block_lt_of_cell? _ _ hcn)).trans hcn
            clear ht b3
            go_wp2_with fail
            refine (ixb_cont HX.out u hul.out (by omega) rfl).mono ?_
            rintro e w4 ⟨v2, rfl, ⟨ht, _⟩, b4⟩
            have T2 := Lib.hid ht
            replace T1 := Lib.hid (T1.out.later b4)
            replace HX := Lib.hid (HX.out.later b4)
            replace TN := Lib.hid (TN.out.later b4)
            replace HB := Lib.hid (HB.out.trans (b4.mono HB.out.size))
            clear ht b4 hcn
            obtain ⟨a1, c1, rfl, -⟩ := T1.out
            obtain ⟨a2, c2, rfl, -⟩ := T2.out
            have hz1 : sumTo L true nm k + (ixSide L true u).length ≤ 80 := by have := S1.out; have := N1.out; omega
            have hz2 : sumTo L false nm k + (ixSide L false u).length ≤ 80 := by have := S2.out; have := N2.out; omega
            have hw1 : IntKind.i64.wrap ((sumTo L true nm k : Int) + ((ixSide L true u).length : Int)) = (sumTo L true nm k : Int) + (ixSide L true u).length := IntWalk.i64_in _ (by omega)
            have hw2 : IntKind.i64.wrap ((sumTo L false nm k : Int) + ((ixSide L false u).length : Int)) = (sumTo L false nm k : Int) + (ixSide L false u).length := IntWalk.i64_in _ (by omega)
            go_wp2_with fail
            clear hw1 hw2
            have A1 : Hid ((sumTo L true nm k : Int) + (ixSide L true u).length = sumTo L true nm (k + 1)) := by
              show _ = _
              rw [N1.out]
              simp
            have A2 : Hid ((sumTo L false nm k : Int) + (ixSide L false u).length = sumTo L false nm (k + 1)) := by
              show _ = _
              rw [N2.out]
              simp
            go_loopw [11] (fun s wz => ∃ j : Nat, j ≤ (ixSide L true u).length ∧ s = .int .i64 j ∧ Hid (Below w4.heap.size w4 wz)) (fun s _ => (ixSide L true u).length - (intOf s).toNat)
            case atStart => exact ⟨0, by omega, rfl, Below.refl _ _⟩
            case round =>
              obtain ⟨j, hj, rfl, HK⟩ := hrel
              by_cases hjt : j < (ixSide L true u).length
              · obtain ⟨b1, o1, rfl, hc1⟩ := T1.out.cell HK.out j hjt
                obtain ⟨b2, o2, e2, hc2⟩ := TN.out.cell HK.out k hlt
                injection e2 with e2
                injection e2 with e2 e22 _
                subst e2 e22
                obtain ⟨y, hy⟩ : ∃ y, (ixSide L true u).getD j [] = y := ⟨_, rfl⟩
                rw [hy] at hc1
                rw [hun.out] at hc2
                have hyl := Lib.hid (HSL.out true u j y hjt hy)
                have HHS := Lib.hid (side_has hjt hy)
                have HXJ := Lib.hid ((HX.out.later HK.out).stay (w' := wr.drew) (fun _ _ => rfl))
                have HKD : Hid (Below w4.heap.size w4 wr.drew) := Lib.hid HK.out.drew
                cases j with
                | zero =>
                  simp only [Nat.add_zero] at hc1
                  have HS0 : Hid (ixS3 b1 o1 bn (on + k) (.string ⟨y.toArray⟩) (.string ⟨u.toArray⟩) wr) := ⟨hc1, hc2⟩
                  have hq0 : ∀ X, ixS3 b1 o1 bn (on + k) (.string ⟨y.toArray⟩) (.string ⟨u.toArray⟩) X → X.cell? ⟨b1, o1, none⟩ = some (.string ⟨y.toArray⟩) := fun X h => h.1
                  have hq1 : ∀ X, ixS3 b1 o1 bn (on + k) (.string ⟨y.toArray⟩) (.string ⟨u.toArray⟩) X → X.cell? ⟨bn, on + k, none⟩ = some (.string ⟨u.toArray⟩) := fun X h => h.2
                  go_upto_region 27 with fail
                  clear hc1 hc2
                  refine wp_region_held_drew (S := (ixS3 b1 o1 bn (on + k) (.string ⟨y.toArray⟩) (.string ⟨u.toArray⟩))) (by kernel_rfl) ?_ (fun hHeld => ?_)
                  · exact HS0.out
                  refine wpAnyH_take (i := 0) (oi := { dst := some 104, op := Op.move (Operand.tmp 3), type := 25, pos := "law.go:111", after := #[], guard := none }) (v := ?_) rfl (by as_aux_lemma => kernel_rfl) (by as_aux_lemma => kernel_rfl) (by as_aux_lemma => kernel_rfl) (fun _ _ _ h => h) (Or.inl ⟨by rfl, ?_⟩) (by assumption) ?_
                  rotate_left
                  · intro w' hSw
                    try dsimp only at hSw
                    go_simp
                    try with_reducible rfl
                  try simp only [Act.put, List.setIfInBounds_toArray, List.set_cons_zero, List.set_cons_succ]
                  refine wpAnyH_take (i := 1) (oi := { dst := some 105, op := Op.move (Operand.tmp 9), type := 38, pos := "law.go:111", after := #[], guard := none }) (v := ?_) rfl (by as_aux_lemma => kernel_rfl) (by as_aux_lemma => kernel_rfl) (by as_aux_lemma => kernel_rfl) (fun _ _ _ h => h) (Or.inl ⟨by rfl, ?_⟩) (by assumption) ?_
                  rotate_left
                  · intro w' hSw
                    try dsimp only at hSw
                    go_simp
                    try with_reducible rfl
                  try simp only [Act.put, List.setIfInBounds_toArray, List.set_cons_zero, List.set_cons_succ]
                  refine wpAnyH_take (i := 2) (oi := { dst := some 106, op := Op.move (Operand.tmp 11), type := 3, pos := "law.go:111", after := #[], guard := none }) (v := ?_) rfl (by as_aux_lemma => kernel_rfl) (by as_aux_lemma => kernel_rfl) (by as_aux_lemma => kernel_rfl) (fun _ _ _ h => h) (Or.inl ⟨by rfl, ?_⟩) (by assumption) ?_
                  rotate_left
                  · intro w' hSw
                    try dsimp only at hSw
                    go_simp
                    try with_reducible rfl
                  try simp only [Act.put, List.setIfInBounds_toArray, List.set_cons_zero, List.set_cons_succ]
                  refine wpAnyH_take (i := 3) (oi := { dst := some 107, op := Op.indexAddr 38 (Operand.tmp 105) (Operand.tmp 106), type := 0, pos := "law.go:111", after := #[{ on := 1, ground := Ground.data }, { on := 2, ground := Ground.data }], guard := none }) (v := ?_) rfl (by as_aux_lemma => kernel_rfl) (by as_aux_lemma => kernel_rfl) (by as_aux_lemma => kernel_rfl) (fun _ _ _ h => h) (Or.inl ⟨by rfl, ?_⟩) (by assumption) ?_
                  rotate_left
                  · intro w' hSw
                    try dsimp only at hSw
                    go_simp
                    try with_reducible rfl
                  try simp only [Act.put, List.setIfInBounds_toArray, List.set_cons_zero, List.set_cons_succ]
                  refine wpAnyH_take (i := 4) (oi := { dst := some 108, op := Op.load 9 (Operand.tmp 107), type := 9, pos := "law.go:111", after := #[{ on := 3, ground := Ground.data }], guard := none }) (v := ?_) rfl (by as_aux_lemma => kernel_rfl) (by as_aux_lemma => kernel_rfl) (by as_aux_lemma => kernel_rfl) (fun _ _ _ h => h) (Or.inl ⟨by rfl, ?_⟩) (by assumption) ?_
                  rotate_left
                  · intro w' hSw
                    try dsimp only at hSw
                    go_simp
                    try with_reducible rfl
                  try simp only [Act.put, List.setIfInBounds_toArray, List.set_cons_zero, List.set_cons_succ]
                  refine wpAnyH_take (i := 5) (oi := { dst := some 109, op := Op.move (Operand.tmp 4), type := 38, pos := "law.go:111", after := #[], guard := none }) (v := ?_) rfl (by as_aux_lemma => kernel_rfl) (by as_aux_lemma => kernel_rfl) (by as_aux_lemma => kernel_rfl) (fun _ _ _ h => h) (Or.inl ⟨by rfl, ?_⟩) (by assumption) ?_
                  rotate_left
                  · intro w' hSw
                    try dsimp only at hSw
                    go_simp
                    try with_reducible rfl
                  try simp only [Act.put, List.setIfInBounds_toArray, List.set_cons_zero, List.set_cons_succ]
                  refine wpAnyH_take (i := 6) (oi := { dst := some 110, op := Op.move (Operand.tmp 8), type := 3, pos := "law.go:111", after := #[], guard := none }) (v := ?_) rfl (by as_aux_lemma => kernel_rfl) (by as_aux_lemma => kernel_rfl) (by as_aux_lemma => kernel_rfl) (fun _ _ _ h => h) (Or.inl ⟨by rfl, ?_⟩) (by assumption) ?_
                  rotate_left
                  · intro w' hSw
                    try dsimp only at hSw
                    go_simp
                    try with_reducible rfl
                  try simp only [Act.put, List.setIfInBounds_toArray, List.set_cons_zero, List.set_cons_succ]
                  refine wpAnyH_take (i := 7) (oi := { dst := some 111, op := Op.indexAddr 38 (Operand.tmp 109) (Operand.tmp 110), type := 0, pos := "law.go:111", after := #[{ on := 5, ground := Ground.data }, { on := 6, ground := Ground.data }], guard := none }) (v := ?_) rfl (by as_aux_lemma => kernel_rfl) (by as_aux_lemma => kernel_rfl) (by as_aux_lemma => kernel_rfl) (fun _ _ _ h => h) (Or.inl ⟨by rfl, ?_⟩) (by assumption) ?_
                  rotate_left
                  · intro w' hSw
                    try dsimp only at hSw
                    go_simp
                    try with_reducible rfl
                  try simp only [Act.put, List.setIfInBounds_toArray, List.set_cons_zero, List.set_cons_succ]
                  refine wpAnyH_take (i := 8) (oi := { dst := some 112, op := Op.load 9 (Operand.tmp 111), type := 9, pos := "law.go:111", after := #[{ on := 7, ground := Ground.data }], guard := none }) (v := ?_) rfl (by as_aux_lemma => kernel_rfl) (by as_aux_lemma => kernel_rfl) (by as_aux_lemma => kernel_rfl) (fun _ _ _ h => h) (Or.inl ⟨by rfl, ?_⟩) (by assumption) ?_
                  rotate_left
                  · intro w' hSw
                    try dsimp only at hSw
                    go_simp
                    try with_reducible rfl
                  try simp only [Act.put, List.setIfInBounds_toArray, List.set_cons_zero, List.set_cons_succ]
                  refine wpAnyH_ready (rs := [9]) (by as_aux_lemma => kernel_rfl) (by simp) ?_
                  refine AllReadyH.cons (o := { dst := some 113, op := Op.call { callee := Callee.value (Operand.func 14), args := #[Operand.tmp 104, Operand.tmp 108, Operand.tmp 112], argTypes := #[25, 9, 9] }, type := 4, pos := "law.go:111", after := #[{ on := 0, ground := Ground.data }, { on := 4, ground := Ground.data }, { on := 8, ground := Ground.data }], guard := none }) rfl (fun Kx hK => ?_) AllReadyH.nil
                  go_simp
                  refine (ixb_has HXJ.out y u hyl.out hul.out (q := true) HHS.out).mono ?_
                  rintro e w5 ⟨rfl, b5⟩
                  go_wp2_with fail
                  refine hK.out _ _ ?_ (fun hHeld2 => ?_)
                  · exact ⟨(b5.cell (World.block_lt_of_cell? _ _ HS0.out.1)).trans HS0.out.1, (b5.cell (World.block_lt_of_cell? _ _ HS0.out.2)).trans HS0.out.2⟩
                  clear hK Kx hHeld
                  have hHeld := hHeld2
                  clear hHeld2
                  try simp only [Act.put, List.setIfInBounds_toArray, List.set_cons_zero, List.set_cons_succ]
                  refine wpAnyH_take (i := 10) (oi := { dst := some 114, op := Op.unOp UnOp.not 4 (Operand.tmp 113), type := 4, pos := "law.go:111", after := #[{ on := 9, ground := Ground.data }], guard := none }) (v := ?_) rfl (by as_aux_lemma => kernel_rfl) (by as_aux_lemma => kernel_rfl) (by as_aux_lemma => kernel_rfl) (fun _ _ _ h => h) (Or.inl ⟨by rfl, ?_⟩) (by assumption) ?_
                  rotate_left
                  · intro w' hSw
                    try dsimp only at hSw
                    go_simp
                    try with_reducible rfl
                  try simp only [Act.put, List.setIfInBounds_toArray, List.set_cons_zero, List.set_cons_succ]
                  refine wpAnyH_take (i := 11) (oi := { dst := some 115, op := Op.move (Operand.tmp 114), type := 4, pos := "law.go:111", after := #[{ on := 10, ground := Ground.data }, { on := 9, ground := Ground.chain }], guard := none }) (v := ?_) rfl (by as_aux_lemma => kernel_rfl) (by as_aux_lemma => kernel_rfl) (by as_aux_lemma => kernel_rfl) (fun _ _ _ h => h) (Or.inl ⟨by rfl, ?_⟩) (by assumption) ?_
                  rotate_left
                  · intro w' hSw
                    try dsimp only at hSw
                    go_simp
                    try with_reducible rfl
                  try simp only [Act.put, List.setIfInBounds_toArray, List.set_cons_zero, List.set_cons_succ]
                  refine wpAnyH_take (i := 12) (oi := { dst := some 116, op := Op.move (Operand.tmp 11), type := 3, pos := "law.go:111", after := #[{ on := 11, ground := Ground.guard }], guard := some (11, false) }) (v := ?_) rfl (by as_aux_lemma => kernel_rfl) (by as_aux_lemma => kernel_rfl) (by as_aux_lemma => kernel_rfl) (fun _ _ _ h => h) (Or.inl ⟨by rfl, ?_⟩) (by assumption) ?_
                  rotate_left
                  · intro w' hSw
                    try dsimp only at hSw
                    go_simp
                    try with_reducible rfl
                  try simp only [Act.put, List.setIfInBounds_toArray, List.set_cons_zero, List.set_cons_succ]
                  refine wpAnyH_take (i := 13) (oi := { dst := some 117, op := Op.binOp BinOp.gtr 3 (Operand.tmp 116) (Operand.const (Value.int IntKind.i64 0)) 3, type := 4, pos := "law.go:111", after := #[{ on := 12, ground := Ground.data }, { on := 11, ground := Ground.guard }], guard := some (11, false) }) (v := ?_) rfl (by as_aux_lemma => kernel_rfl) (by as_aux_lemma => kernel_rfl) (by as_aux_lemma => kernel_rfl) (fun _ _ _ h => h) (Or.inl ⟨by rfl, ?_⟩) (by assumption) ?_
                  rotate_left
                  · intro w' hSw
                    try dsimp only at hSw
                    go_simp
                    try with_reducible rfl
                  try simp only [Act.put, List.setIfInBounds_toArray, List.set_cons_zero, List.set_cons_succ]
                  refine wpAnyH_take (i := 14) (oi := { dst := some 118, op := Op.move (Operand.tmp 117), type := 4, pos := "law.go:111", after := #[{ on := 13, ground := Ground.data }, { on := 11, ground := Ground.chain }, { on := 11, ground := Ground.guard }], guard := some (11, false) }) (v := ?_) rfl (by as_aux_lemma => kernel_rfl) (by as_aux_lemma => kernel_rfl) (by as_aux_lemma => kernel_rfl) (fun _ _ _ h => h) (Or.inl ⟨by rfl, ?_⟩) (by assumption) ?_
                  rotate_left
                  · intro w' hSw
                    try dsimp only at hSw
                    go_simp
                    try with_reducible rfl
                  try simp only [Act.put, List.setIfInBounds_toArray, List.set_cons_zero, List.set_cons_succ]
                  refine wpAnyH_take (i := 15) (oi := { dst := some 119, op := Op.move (Operand.tmp 9), type := 38, pos := "law.go:111", after := #[{ on := 14, ground := Ground.guard }], guard := some (14, true) }) (v := undef) rfl (by as_aux_lemma => kernel_rfl) (by as_aux_lemma => kernel_rfl) (by as_aux_lemma => kernel_rfl) (fun _ _ _ h => h) (Or.inr ⟨by rfl, rfl⟩) (by assumption) ?_
                  try simp only [Act.put, List.setIfInBounds_toArray, List.set_cons_zero, List.set_cons_succ]
                  refine wpAnyH_take (i := 16) (oi := { dst := some 120, op := Op.move (Operand.tmp 11), type := 3, pos := "law.go:111", after := #[{ on := 14, ground := Ground.guard }], guard := some (14, true) }) (v := undef) rfl (by as_aux_lemma => kernel_rfl) (by as_aux_lemma => kernel_rfl) (by as_aux_lemma => kernel_rfl) (fun _ _ _ h => h) (Or.inr ⟨by rfl, rfl⟩) (by assumption) ?_
                  try simp only [Act.put, List.setIfInBounds_toArray, List.set_cons_zero, List.set_cons_succ]
                  refine wpAnyH_take (i := 17) (oi := { dst := some 121, op := Op.binOp BinOp.sub 3 (Operand.tmp 120) (Operand.const (Value.int IntKind.i64 1)) 3, type := 3, pos := "law.go:111", after := #[{ on := 16, ground := Ground.data }, { on := 14, ground := Ground.guard }], guard := some (14, true) }) (v := undef) rfl (by as_aux_lemma => kernel_rfl) (by as_aux_lemma => kernel_rfl) (by as_aux_lemma => kernel_rfl) (fun _ _ _ h => h) (Or.inr ⟨by rfl, rfl⟩) (by assumption) ?_
                  try simp only [Act.put, List.setIfInBounds_toArray, List.set_cons_zero, List.set_cons_succ]
                  refine wpAnyH_take (i := 18) (oi := { dst := some 122, op := Op.indexAddr 38 (Operand.tmp 119) (Operand.tmp 121), type := 0, pos := "law.go:111", after := #[{ on := 15, ground := Ground.data }, { on := 17, ground := Ground.data }, { on := 14, ground := Ground.guard }], guard := some (14, true) }) (v := undef) rfl (by as_aux_lemma => kernel_rfl) (by as_aux_lemma => kernel_rfl) (by as_aux_lemma => kernel_rfl) (fun _ _ _ h => h) (Or.inr ⟨by rfl, rfl⟩) (by assumption) ?_
                  try simp only [Act.put, List.setIfInBounds_toArray, List.set_cons_zero, List.set_cons_succ]
                  refine wpAnyH_take (i := 19) (oi := { dst := some 123, op := Op.load 9 (Operand.tmp 122), type := 9, pos := "law.go:111", after := #[{ on := 18, ground := Ground.data }, { on := 14, ground := Ground.guard }], guard := some (14, true) }) (v := undef) rfl (by as_aux_lemma => kernel_rfl) (by as_aux_lemma => kernel_rfl) (by as_aux_lemma => kernel_rfl) (fun _ _ _ h => h) (Or.inr ⟨by rfl, rfl⟩) (by assumption) ?_
                  try simp only [Act.put, List.setIfInBounds_toArray, List.set_cons_zero, List.set_cons_succ]
                  refine wpAnyH_take (i := 20) (oi := { dst := some 124, op := Op.move (Operand.tmp 9), type := 38, pos := "law.go:111", after := #[{ on := 14, ground := Ground.guard }], guard := some (14, true) }) (v := undef) rfl (by as_aux_lemma => kernel_rfl) (by as_aux_lemma => kernel_rfl) (by as_aux_lemma => kernel_rfl) (fun _ _ _ h => h) (Or.inr ⟨by rfl, rfl⟩) (by assumption) ?_
                  try simp only [Act.put, List.setIfInBounds_toArray, List.set_cons_zero, List.set_cons_succ]
                  refine wpAnyH_take (i := 21) (oi := { dst := some 125, op := Op.move (Operand.tmp 11), type := 3, pos := "law.go:111", after := #[{ on := 14, ground := Ground.guard }], guard := some (14, true) }) (v := undef) rfl (by as_aux_lemma => kernel_rfl) (by as_aux_lemma => kernel_rfl) (by as_aux_lemma => kernel_rfl) (fun _ _ _ h => h) (Or.inr ⟨by rfl, rfl⟩) (by assumption) ?_
                  try simp only [Act.put, List.setIfInBounds_toArray, List.set_cons_zero, List.set_cons_succ]
                  refine wpAnyH_take (i := 22) (oi := { dst := some 126, op := Op.indexAddr 38 (Operand.tmp 124) (Operand.tmp 125), type := 0, pos := "law.go:111", after := #[{ on := 20, ground := Ground.data }, { on := 21, ground := Ground.data }, { on := 14, ground := Ground.guard }], guard := some (14, true) }) (v := undef) rfl (by as_aux_lemma => kernel_rfl) (by as_aux_lemma => kernel_rfl) (by as_aux_lemma => kernel_rfl) (fun _ _ _ h => h) (Or.inr ⟨by rfl, rfl⟩) (by assumption) ?_
                  try simp only [Act.put, List.setIfInBounds_toArray, List.set_cons_zero, List.set_cons_succ]
                  refine wpAnyH_take (i := 23) (oi := { dst := some 127, op := Op.load 9 (Operand.tmp 126), type := 9, pos := "law.go:111", after := #[{ on := 22, ground := Ground.data }, { on := 14, ground := Ground.guard }], guard := some (14, true) }) (v := undef) rfl (by as_aux_lemma => kernel_rfl) (by as_aux_lemma => kernel_rfl) (by as_aux_lemma => kernel_rfl) (fun _ _ _ h => h) (Or.inr ⟨by rfl, rfl⟩) (by assumption) ?_
                  try simp only [Act.put, List.setIfInBounds_toArray, List.set_cons_zero, List.set_cons_succ]
                  refine wpAnyH_take (i := 24) (oi := { dst := some 128, op := Op.call { callee := Callee.value (Operand.func 25), args := #[Operand.tmp 123, Operand.tmp 127], argTypes := #[9, 9] }, type := 4, pos := "law.go:111", after := #[{ on := 19, ground := Ground.data }, { on := 23, ground := Ground.data }, { on := 14, ground := Ground.chain }, { on := 14, ground := Ground.guard }], guard := some (14, true) }) (v := undef) rfl (by as_aux_lemma => kernel_rfl) (by as_aux_lemma => kernel_rfl) (by as_aux_lemma => kernel_rfl) (fun _ _ _ h => h) (Or.inr ⟨by rfl, rfl⟩) (by assumption) ?_
                  try simp only [Act.put, List.setIfInBounds_toArray, List.set_cons_zero, List.set_cons_succ]
                  refine wpAnyH_take (i := 25) (oi := { dst := some 129, op := Op.unOp UnOp.not 4 (Operand.tmp 128), type := 4, pos := "law.go:111", after := #[{ on := 24, ground := Ground.data }, { on := 14, ground := Ground.guard }], guard := some (14, true) }) (v := undef) rfl (by as_aux_lemma => kernel_rfl) (by as_aux_lemma => kernel_rfl) (by as_aux_lemma => kernel_rfl) (fun _ _ _ h => h) (Or.inr ⟨by rfl, rfl⟩) (by assumption) ?_
                  try simp only [Act.put, List.setIfInBounds_toArray, List.set_cons_zero, List.set_cons_succ]
                  refine wpAnyH_take (i := 26) (oi := { dst := some 130, op := Op.pick (Operand.tmp 118) (Operand.tmp 129) (Operand.const (Value.bool false)), type := 4, pos := "law.go:111", after := #[{ on := 14, ground := Ground.data }, { on := 25, ground := Ground.data }, { on := 11, ground := Ground.guard }], guard := some (11, false) }) (v := ?_) rfl (by as_aux_lemma => kernel_rfl) (by as_aux_lemma => kernel_rfl) (by as_aux_lemma => kernel_rfl) (fun _ _ _ h => h) (Or.inl ⟨by rfl, ?_⟩) (by assumption) ?_
                  rotate_left
                  · intro w' hSw
                    try dsimp only at hSw
                    go_simp
                    try with_reducible rfl
                  try simp only [Act.put, List.setIfInBounds_toArray, List.set_cons_zero, List.set_cons_succ]
                  refine wpAnyH_take (i := 27) (oi := { dst := some 131, op := Op.pick (Operand.tmp 115) (Operand.const (Value.bool true)) (Operand.tmp 130), type := 4, pos := "law.go:111", after := #[{ on := 11, ground := Ground.data }, { on := 26, ground := Ground.data }], guard := none }) (v := ?_) rfl (by as_aux_lemma => kernel_rfl) (by as_aux_lemma => kernel_rfl) (by as_aux_lemma => kernel_rfl) (fun _ _ _ h => h) (Or.inl ⟨by rfl, ?_⟩) (by assumption) ?_
                  rotate_left
                  · intro w' hSw
                    try dsimp only at hSw
                    go_simp
                    try with_reducible rfl
                  try simp only [Act.put, List.setIfInBounds_toArray, List.set_cons_zero, List.set_cons_succ]
                  refine wpAnyH_done (by kernel_rfl) ?_ _
                  have HK2 : Hid (Below w4.heap.size w4 w5) := Lib.hid (below2Z HKD.out b5)
                  clear b5 HXJ HKD HK HS0 hq0 hq1 hHeld
                  go_wp2_with fail
                  go_roundw
                  case rel => exact ⟨1, by omega, by go_num, HK2⟩
                  case measure => simp [intOf]; omega
                | succ i =>
                  obtain ⟨b3, o3, e3, hc3⟩ := T1.out.cell HK.out i (by omega)
                  injection e3 with e3
                  injection e3 with e3 e4 _
                  subst e3 e4
                  obtain ⟨x, hx⟩ : ∃ x, (ixSide L true u).getD i [] = x := ⟨_, rfl⟩
                  rw [hx] at hc3
                  have HLS := Lib.hid (side_rise hjt hx hy)
                  have hw : IntKind.i64.wrap ((i : Int) + 1 - 1) = i := by rw [Int.add_sub_cancel]; exact IntWalk.i64_in _ (by omega)
                  have hw3 : IntKind.i64.wrap (i : Int) = i := IntWalk.i64_in _ (by omega)
                  have t0 : (0 : Int) ≤ (i : Int) := by omega
                  have t1 : (i : Int) < ((ixSide L true u).length : Int) := by omega
                  have t2 : decide ((0 : Int) < (i : Int) + 1) = true := decide_eq_true (by omega)
                  have t3 : (0 : Int) < (i : Int) + 1 := by omega
                  have t4 : (0 : Int) ≤ (i : Int) + 1 := by omega
                  have t5 : (i : Int) + 1 < ((ixSide L true u).length : Int) := by omega
                  have k0 : wr.drew.cell? ⟨b1, o1 + (i + 1), none⟩ = some (.string ⟨y.toArray⟩) ∧ wr.drew.cell? ⟨bn, on + k, none⟩ = some (.string ⟨u.toArray⟩) ∧ wr.drew.cell? ⟨b1, o1 + i, none⟩ = some (.string ⟨x.toArray⟩) := ⟨hc1, hc2, hc3⟩
                  go_wp2_with fail
                  go_region_held (fun X => X.cell? ⟨b1, o1 + (i + 1), none⟩ = some (.string ⟨y.toArray⟩) ∧ X.cell? ⟨bn, on + k, none⟩ = some (.string ⟨u.toArray⟩) ∧ X.cell? ⟨b1, o1 + i, none⟩ = some (.string ⟨x.toArray⟩)) ((first | exact k0 | exact k1)) ((first | (go_at_call 14; refine (ixb_has HXJ.out y u hyl.out hul.out (q := true) HHS.out).mono ?_; rintro e w5 ⟨rfl, b5⟩; have k1 : w5.cell? ⟨b1, o1 + (i + 1), none⟩ = some (.string ⟨y.toArray⟩) ∧ w5.cell? ⟨bn, on + k, none⟩ = some (.string ⟨u.toArray⟩) ∧ w5.cell? ⟨b1, o1 + i, none⟩ = some (.string ⟨x.toArray⟩) := ⟨(b5.cell (World.block_lt_of_cell? _ _ k0.1)).trans k0.1, (b5.cell (World.block_lt_of_cell? _ _ k0.2.1)).trans k0.2.1, (b5.cell (World.block_lt_of_cell? _ _ k0.2.2)).trans k0.2.2⟩) | (go_at_call 25; refine (rless_eq x y HLS.out _).mono ?_; rintro e w6 ⟨rfl, rfl⟩)))
                  have HK2 : Hid (Below w4.heap.size w4 w5) := Lib.hid (below2Z HKD.out b5)
                  clear b5 k0 k1 hc1 hc2 hc3 HXJ HKD HK
                  go_wp2_with fail
                  go_roundw
                  case rel => exact ⟨i + 1 + 1, by omega, by go_num, HK2⟩
                  case measure => simp [intOf]; omega
              · obtain rfl : j = (ixSide L true u).length := by omega
                replace HX := Lib.hid (HX.out.later HK.out)
                replace TN := Lib.hid (TN.out.later HK.out)
                replace T2 := Lib.hid (T2.out.later HK.out)
                replace HB := Lib.hid (HB.out.trans (HK.out.mono HB.out.size))
                clear T1 HK
                obtain ⟨w7, hw7⟩ : ∃ X, X = wr := ⟨_, rfl⟩
                subst hw7
                go_wp2_with fail
                go_loopw [12] (fun s wz => ∃ j : Nat, j ≤ (ixSide L false u).length ∧ s = .int .i64 j ∧ Hid (Below w7.heap.size w7 wz)) (fun s _ => (ixSide L false u).length - (intOf s).toNat)
                case atStart => exact ⟨0, by omega, rfl, Below.refl _ _⟩
                case round =>
                  obtain ⟨j, hj, rfl, HK⟩ := hrel
                  by_cases hjt : j < (ixSide L false u).length
                  · obtain ⟨b1, o1, rfl, hc1⟩ := T2.out.cell HK.out j hjt
                    obtain ⟨b2, o2, e2, hc2⟩ := TN.out.cell HK.out k hlt
                    injection e2 with e2
                    injection e2 with e2 e22 _
                    subst e2 e22
                    obtain ⟨y, hy⟩ : ∃ y, (ixSide L false u).getD j [] = y := ⟨_, rfl⟩
                    rw [hy] at hc1
                    rw [hun.out] at hc2
                    have hyl := Lib.hid (HSL.out false u j y hjt hy)
                    have HHS := Lib.hid (side_has hjt hy)
                    have HXJ := Lib.hid ((HX.out.later HK.out).stay (w' := wr.drew) (fun _ _ => rfl))
                    have HKD : Hid (Below w7.heap.size w7 wr.drew) := Lib.hid HK.out.drew
                    cases j with
                    | zero =>
                      simp only [Nat.add_zero] at hc1
                      have HS0 : Hid (ixS3 b1 o1 bn (on + k) (.string ⟨y.toArray⟩) (.string ⟨u.toArray⟩) wr) := ⟨hc1, hc2⟩
                      have hq0 : ∀ X, ixS3 b1 o1 bn (on + k) (.string ⟨y.toArray⟩) (.string ⟨u.toArray⟩) X → X.cell? ⟨b1, o1, none⟩ = some (.string ⟨y.toArray⟩) := fun X h => h.1
                      have hq1 : ∀ X, ixS3 b1 o1 bn (on + k) (.string ⟨y.toArray⟩) (.string ⟨u.toArray⟩) X → X.cell? ⟨bn, on + k, none⟩ = some (.string ⟨u.toArray⟩) := fun X h => h.2
                      go_upto_region 32 with fail
                      clear hc1 hc2
                      refine wp_region_held_drew (S := (ixS3 b1 o1 bn (on + k) (.string ⟨y.toArray⟩) (.string ⟨u.toArray⟩))) (by kernel_rfl) ?_ (fun hHeld => ?_)
                      · exact HS0.out
                      refine wpAnyH_take (i := 0) (oi := { dst := some 138, op := Op.move (Operand.tmp 3), type := 25, pos := "law.go:116", after := #[], guard := none }) (v := ?_) rfl (by as_aux_lemma => kernel_rfl) (by as_aux_lemma => kernel_rfl) (by as_aux_lemma => kernel_rfl) (fun _ _ _ h => h) (Or.inl ⟨by rfl, ?_⟩) (by assumption) ?_
                      rotate_left
                      · intro w' hSw
                        try dsimp only at hSw
                        go_simp
                        try with_reducible rfl
                      try simp only [Act.put, List.setIfInBounds_toArray, List.set_cons_zero, List.set_cons_succ]
                      refine wpAnyH_take (i := 1) (oi := { dst := some 139, op := Op.move (Operand.tmp 4), type := 38, pos := "law.go:116", after := #[], guard := none }) (v := ?_) rfl (by as_aux_lemma => kernel_rfl) (by as_aux_lemma => kernel_rfl) (by as_aux_lemma => kernel_rfl) (fun _ _ _ h => h) (Or.inl ⟨by rfl, ?_⟩) (by assumption) ?_
                      rotate_left
                      · intro w' hSw
                        try dsimp only at hSw
                        go_simp
                        try with_reducible rfl
                      try simp only [Act.put, List.setIfInBounds_toArray, List.set_cons_zero, List.set_cons_succ]
                      refine wpAnyH_take (i := 2) (oi := { dst := some 140, op := Op.move (Operand.tmp 8), type := 3, pos := "law.go:116", after := #[], guard := none }) (v := ?_) rfl (by as_aux_lemma => kernel_rfl) (by as_aux_lemma => kernel_rfl) (by as_aux_lemma => kernel_rfl) (fun _ _ _ h => h) (Or.inl ⟨by rfl, ?_⟩) (by assumption) ?_
                      rotate_left
                      · intro w' hSw
                        try dsimp only at hSw
                        go_simp
                        try with_reducible rfl
                      try simp only [Act.put, List.setIfInBounds_toArray, List.set_cons_zero, List.set_cons_succ]
                      refine wpAnyH_take (i := 3) (oi := { dst := some 141, op := Op.indexAddr 38 (Operand.tmp 139) (Operand.tmp 140), type := 0, pos := "law.go:116", after := #[{ on := 1, ground := Ground.data }, { on := 2, ground := Ground.data }], guard := none }) (v := ?_) rfl (by as_aux_lemma => kernel_rfl) (by as_aux_lemma => kernel_rfl) (by as_aux_lemma => kernel_rfl) (fun _ _ _ h => h) (Or.inl ⟨by rfl, ?_⟩) (by assumption) ?_
                      rotate_left
                      · intro w' hSw
                        try dsimp only at hSw
                        go_simp
                        try with_reducible rfl
                      try simp only [Act.put, List.setIfInBounds_toArray, List.set_cons_zero, List.set_cons_succ]
                      refine wpAnyH_take (i := 4) (oi := { dst := some 142, op := Op.load 9 (Operand.tmp 141), type := 9, pos := "law.go:116", after := #[{ on := 3, ground := Ground.data }], guard := none }) (v := ?_) rfl (by as_aux_lemma => kernel_rfl) (by as_aux_lemma => kernel_rfl) (by as_aux_lemma => kernel_rfl) (fun _ _ _ h => h) (Or.inl ⟨by rfl, ?_⟩) (by assumption) ?_
                      rotate_left
                      · intro w' hSw
                        try dsimp only at hSw
                        go_simp
                        try with_reducible rfl
                      try simp only [Act.put, List.setIfInBounds_toArray, List.set_cons_zero, List.set_cons_succ]
                      refine wpAnyH_take (i := 5) (oi := { dst := some 143, op := Op.move (Operand.tmp 10), type := 38, pos := "law.go:116", after := #[], guard := none }) (v := ?_) rfl (by as_aux_lemma => kernel_rfl) (by as_aux_lemma => kernel_rfl) (by as_aux_lemma => kernel_rfl) (fun _ _ _ h => h) (Or.inl ⟨by rfl, ?_⟩) (by assumption) ?_
                      rotate_left
                      · intro w' hSw
                        try dsimp only at hSw
                        go_simp
                        try with_reducible rfl
                      try simp only [Act.put, List.setIfInBounds_toArray, List.set_cons_zero, List.set_cons_succ]
                      refine wpAnyH_take (i := 6) (oi := { dst := some 144, op := Op.move (Operand.tmp 12), type := 3, pos := "law.go:116", after := #[], guard := none }) (v := ?_) rfl (by as_aux_lemma => kernel_rfl) (by as_aux_lemma => kernel_rfl) (by as_aux_lemma => kernel_rfl) (fun _ _ _ h => h) (Or.inl ⟨by rfl, ?_⟩) (by assumption) ?_
                      rotate_left
                      · intro w' hSw
                        try dsimp only at hSw
                        go_simp
                        try with_reducible rfl
                      try simp only [Act.put, List.setIfInBounds_toArray, List.set_cons_zero, List.set_cons_succ]
                      refine wpAnyH_take (i := 7) (oi := { dst := some 145, op := Op.indexAddr 38 (Operand.tmp 143) (Operand.tmp 144), type := 0, pos := "law.go:116", after := #[{ on := 5, ground := Ground.data }, { on := 6, ground := Ground.data }], guard := none }) (v := ?_) rfl (by as_aux_lemma => kernel_rfl) (by as_aux_lemma => kernel_rfl) (by as_aux_lemma => kernel_rfl) (fun _ _ _ h => h) (Or.inl ⟨by rfl, ?_⟩) (by assumption) ?_
                      rotate_left
                      · intro w' hSw
                        try dsimp only at hSw
                        go_simp
                        try with_reducible rfl
                      try simp only [Act.put, List.setIfInBounds_toArray, List.set_cons_zero, List.set_cons_succ]
                      refine wpAnyH_take (i := 8) (oi := { dst := some 146, op := Op.load 9 (Operand.tmp 145), type := 9, pos := "law.go:116", after := #[{ on := 7, ground := Ground.data }], guard := none }) (v := ?_) rfl (by as_aux_lemma => kernel_rfl) (by as_aux_lemma => kernel_rfl) (by as_aux_lemma => kernel_rfl) (fun _ _ _ h => h) (Or.inl ⟨by rfl, ?_⟩) (by assumption) ?_
                      rotate_left
                      · intro w' hSw
                        try dsimp only at hSw
                        go_simp
                        try with_reducible rfl
                      try simp only [Act.put, List.setIfInBounds_toArray, List.set_cons_zero, List.set_cons_succ]
                      refine wpAnyH_ready (rs := [9]) (by as_aux_lemma => kernel_rfl) (by simp) ?_
                      refine AllReadyH.cons (o := { dst := some 147, op := Op.call { callee := Callee.value (Operand.func 14), args := #[Operand.tmp 138, Operand.tmp 142, Operand.tmp 146], argTypes := #[25, 9, 9] }, type := 4, pos := "law.go:116", after := #[{ on := 0, ground := Ground.data }, { on := 4, ground := Ground.data }, { on := 8, ground := Ground.data }], guard := none }) rfl (fun Kx hK => ?_) AllReadyH.nil
                      go_simp
                      refine (ixb_has HXJ.out u y hul.out hyl.out (q := true) HHS.out).mono ?_
                      rintro e w5 ⟨rfl, b5⟩
                      go_wp2_with fail
                      refine hK.out _ _ ?_ (fun hHeld2 => ?_)
                      · exact ⟨(b5.cell (World.block_lt_of_cell? _ _ HS0.out.1)).trans HS0.out.1, (b5.cell (World.block_lt_of_cell? _ _ HS0.out.2)).trans HS0.out.2⟩
                      clear hK Kx hHeld
                      have hHeld := hHeld2
                      clear hHeld2
                      try simp only [Act.put, List.setIfInBounds_toArray, List.set_cons_zero, List.set_cons_succ]
                      refine wpAnyH_take (i := 10) (oi := { dst := some 148, op := Op.unOp UnOp.not 4 (Operand.tmp 147), type := 4, pos := "law.go:116", after := #[{ on := 9, ground := Ground.data }], guard := none }) (v := ?_) rfl (by as_aux_lemma => kernel_rfl) (by as_aux_lemma => kernel_rfl) (by as_aux_lemma => kernel_rfl) (fun _ _ _ h => h) (Or.inl ⟨by rfl, ?_⟩) (by assumption) ?_
                      rotate_left
                      · intro w' hSw
                        try dsimp only at hSw
                        go_simp
                        try with_reducible rfl
                      try simp only [Act.put, List.setIfInBounds_toArray, List.set_cons_zero, List.set_cons_succ]
                      refine wpAnyH_take (i := 11) (oi := { dst := some 149, op := Op.move (Operand.tmp 148), type := 4, pos := "law.go:116", after := #[{ on := 10, ground := Ground.data }, { on := 9, ground := Ground.chain }], guard := none }) (v := ?_) rfl (by as_aux_lemma => kernel_rfl) (by as_aux_lemma => kernel_rfl) (by as_aux_lemma => kernel_rfl) (fun _ _ _ h => h) (Or.inl ⟨by rfl, ?_⟩) (by assumption) ?_
                      rotate_left
                      · intro w' hSw
                        try dsimp only at hSw
                        go_simp
                        try with_reducible rfl
                      try simp only [Act.put, List.setIfInBounds_toArray, List.set_cons_zero, List.set_cons_succ]
                      refine wpAnyH_take (i := 12) (oi := { dst := some 150, op := Op.move (Operand.tmp 12), type := 3, pos := "law.go:116", after := #[{ on := 11, ground := Ground.guard }], guard := some (11, false) }) (v := ?_) rfl (by as_aux_lemma => kernel_rfl) (by as_aux_lemma => kernel_rfl) (by as_aux_lemma => kernel_rfl) (fun _ _ _ h => h) (Or.inl ⟨by rfl, ?_⟩) (by assumption) ?_
                      rotate_left
                      · intro w' hSw
                        try dsimp only at hSw
                        go_simp
                        try with_reducible rfl
                      try simp only [Act.put, List.setIfInBounds_toArray, List.set_cons_zero, List.set_cons_succ]
                      refine wpAnyH_take (i := 13) (oi := { dst := some 151, op := Op.binOp BinOp.gtr 3 (Operand.tmp 150) (Operand.const (Value.int IntKind.i64 0)) 3, type := 4, pos := "law.go:116", after := #[{ on := 12, ground := Ground.data }, { on := 11, ground := Ground.guard }], guard := some (11, false) }) (v := ?_) rfl (by as_aux_lemma => kernel_rfl) (by as_aux_lemma => kernel_rfl) (by as_aux_lemma => kernel_rfl) (fun _ _ _ h => h) (Or.inl ⟨by rfl, ?_⟩) (by assumption) ?_
                      rotate_left
                      · intro w' hSw
                        try dsimp only at hSw
                        go_simp
                        try with_reducible rfl
                      try simp only [Act.put, List.setIfInBounds_toArray, List.set_cons_zero, List.set_cons_succ]
                      refine wpAnyH_take (i := 14) (oi := { dst := some 152, op := Op.move (Operand.tmp 151), type := 4, pos := "law.go:116", after := #[{ on := 13, ground := Ground.data }, { on := 11, ground := Ground.chain }, { on := 11, ground := Ground.guard }], guard := some (11, false) }) (v := ?_) rfl (by as_aux_lemma => kernel_rfl) (by as_aux_lemma => kernel_rfl) (by as_aux_lemma => kernel_rfl) (fun _ _ _ h => h) (Or.inl ⟨by rfl, ?_⟩) (by assumption) ?_
                      rotate_left
                      · intro w' hSw
                        try dsimp only at hSw
                        go_simp
                        try with_reducible rfl
                      try simp only [Act.put, List.setIfInBounds_toArray, List.set_cons_zero, List.set_cons_succ]
                      refine wpAnyH_take (i := 15) (oi := { dst := some 153, op := Op.move (Operand.tmp 10), type := 38, pos := "law.go:116", after := #[{ on := 14, ground := Ground.guard }], guard := some (14, true) }) (v := undef) rfl (by as_aux_lemma => kernel_rfl) (by as_aux_lemma => kernel_rfl) (by as_aux_lemma => kernel_rfl) (fun _ _ _ h => h) (Or.inr ⟨by rfl, rfl⟩) (by assumption) ?_
                      try simp only [Act.put, List.setIfInBounds_toArray, List.set_cons_zero, List.set_cons_succ]
                      refine wpAnyH_take (i := 16) (oi := { dst := some 154, op := Op.move (Operand.tmp 12), type := 3, pos := "law.go:116", after := #[{ on := 14, ground := Ground.guard }], guard := some (14, true) }) (v := undef) rfl (by as_aux_lemma => kernel_rfl) (by as_aux_lemma => kernel_rfl) (by as_aux_lemma => kernel_rfl) (fun _ _ _ h => h) (Or.inr ⟨by rfl, rfl⟩) (by assumption) ?_
                      try simp only [Act.put, List.setIfInBounds_toArray, List.set_cons_zero, List.set_cons_succ]
                      refine wpAnyH_take (i := 17) (oi := { dst := some 155, op := Op.binOp BinOp.sub 3 (Operand.tmp 154) (Operand.const (Value.int IntKind.i64 1)) 3, type := 3, pos := "law.go:116", after := #[{ on := 16, ground := Ground.data }, { on := 14, ground := Ground.guard }], guard := some (14, true) }) (v := undef) rfl (by as_aux_lemma => kernel_rfl) (by as_aux_lemma => kernel_rfl) (by as_aux_lemma => kernel_rfl) (fun _ _ _ h => h) (Or.inr ⟨by rfl, rfl⟩) (by assumption) ?_
                      try simp only [Act.put, List.setIfInBounds_toArray, List.set_cons_zero, List.set_cons_succ]
                      refine wpAnyH_take (i := 18) (oi := { dst := some 156, op := Op.indexAddr 38 (Operand.tmp 153) (Operand.tmp 155), type := 0, pos := "law.go:116", after := #[{ on := 15, ground := Ground.data }, { on := 17, ground := Ground.data }, { on := 14, ground := Ground.guard }], guard := some (14, true) }) (v := undef) rfl (by as_aux_lemma => kernel_rfl) (by as_aux_lemma => kernel_rfl) (by as_aux_lemma => kernel_rfl) (fun _ _ _ h => h) (Or.inr ⟨by rfl, rfl⟩) (by assumption) ?_
                      try simp only [Act.put, List.setIfInBounds_toArray, List.set_cons_zero, List.set_cons_succ]
                      refine wpAnyH_take (i := 19) (oi := { dst := some 157, op := Op.load 9 (Operand.tmp 156), type := 9, pos := "law.go:116", after := #[{ on := 18, ground := Ground.data }, { on := 14, ground := Ground.guard }], guard := some (14, true) }) (v := undef) rfl (by as_aux_lemma => kernel_rfl) (by as_aux_lemma => kernel_rfl) (by as_aux_lemma => kernel_rfl) (fun _ _ _ h => h) (Or.inr ⟨by rfl, rfl⟩) (by assumption) ?_
                      try simp only [Act.put, List.setIfInBounds_toArray, List.set_cons_zero, List.set_cons_succ]
                      refine wpAnyH_take (i := 20) (oi := { dst := some 158, op := Op.move (Operand.tmp 10), type := 38, pos := "law.go:116", after := #[{ on := 14, ground := Ground.guard }], guard := some (14, true) }) (v := undef) rfl (by as_aux_lemma => kernel_rfl) (by as_aux_lemma => kernel_rfl) (by as_aux_lemma => kernel_rfl) (fun _ _ _ h => h) (Or.inr ⟨by rfl, rfl⟩) (by assumption) ?_
                      try simp only [Act.put, List.setIfInBounds_toArray, List.set_cons_zero, List.set_cons_succ]
                      refine wpAnyH_take (i := 21) (oi := { dst := some 159, op := Op.move (Operand.tmp 12), type := 3, pos := "law.go:116", after := #[{ on := 14, ground := Ground.guard }], guard := some (14, true) }) (v := undef) rfl (by as_aux_lemma => kernel_rfl) (by as_aux_lemma => kernel_rfl) (by as_aux_lemma => kernel_rfl) (fun _ _ _ h => h) (Or.inr ⟨by rfl, rfl⟩) (by assumption) ?_
                      try simp only [Act.put, List.setIfInBounds_toArray, List.set_cons_zero, List.set_cons_succ]
                      refine wpAnyH_take (i := 22) (oi := { dst := some 160, op := Op.indexAddr 38 (Operand.tmp 158) (Operand.tmp 159), type := 0, pos := "law.go:116", after := #[{ on := 20, ground := Ground.data }, { on := 21, ground := Ground.data }, { on := 14, ground := Ground.guard }], guard := some (14, true) }) (v := undef) rfl (by as_aux_lemma => kernel_rfl) (by as_aux_lemma => kernel_rfl) (by as_aux_lemma => kernel_rfl) (fun _ _ _ h => h) (Or.inr ⟨by rfl, rfl⟩) (by assumption) ?_
                      try simp only [Act.put, List.setIfInBounds_toArray, List.set_cons_zero, List.set_cons_succ]
                      refine wpAnyH_take (i := 23) (oi := { dst := some 161, op := Op.load 9 (Operand.tmp 160), type := 9, pos := "law.go:116", after := #[{ on := 22, ground := Ground.data }, { on := 14, ground := Ground.guard }], guard := some (14, true) }) (v := undef) rfl (by as_aux_lemma => kernel_rfl) (by as_aux_lemma => kernel_rfl) (by as_aux_lemma => kernel_rfl) (fun _ _ _ h => h) (Or.inr ⟨by rfl, rfl⟩) (by assumption) ?_
                      try simp only [Act.put, List.setIfInBounds_toArray, List.set_cons_zero, List.set_cons_succ]
                      refine wpAnyH_take (i := 24) (oi := { dst := some 162, op := Op.call { callee := Callee.value (Operand.func 25), args := #[Operand.tmp 157, Operand.tmp 161], argTypes := #[9, 9] }, type := 4, pos := "law.go:116", after := #[{ on := 19, ground := Ground.data }, { on := 23, ground := Ground.data }, { on := 14, ground := Ground.chain }, { on := 14, ground := Ground.guard }], guard := some (14, true) }) (v := undef) rfl (by as_aux_lemma => kernel_rfl) (by as_aux_lemma => kernel_rfl) (by as_aux_lemma => kernel_rfl) (fun _ _ _ h => h) (Or.inr ⟨by rfl, rfl⟩) (by assumption) ?_
                      try simp only [Act.put, List.setIfInBounds_toArray, List.set_cons_zero, List.set_cons_succ]
                      refine wpAnyH_take (i := 25) (oi := { dst := some 163, op := Op.unOp UnOp.not 4 (Operand.tmp 162), type := 4, pos := "law.go:116", after := #[{ on := 24, ground := Ground.data }, { on := 14, ground := Ground.guard }], guard := some (14, true) }) (v := undef) rfl (by as_aux_lemma => kernel_rfl) (by as_aux_lemma => kernel_rfl) (by as_aux_lemma => kernel_rfl) (fun _ _ _ h => h) (Or.inr ⟨by rfl, rfl⟩) (by assumption) ?_
                      try simp only [Act.put, List.setIfInBounds_toArray, List.set_cons_zero, List.set_cons_succ]
                      refine wpAnyH_take (i := 26) (oi := { dst := some 164, op := Op.pick (Operand.tmp 152) (Operand.tmp 163) (Operand.const (Value.bool false)), type := 4, pos := "law.go:116", after := #[{ on := 14, ground := Ground.data }, { on := 25, ground := Ground.data }, { on := 11, ground := Ground.guard }], guard := some (11, false) }) (v := ?_) rfl (by as_aux_lemma => kernel_rfl) (by as_aux_lemma => kernel_rfl) (by as_aux_lemma => kernel_rfl) (fun _ _ _ h => h) (Or.inl ⟨by rfl, ?_⟩) (by assumption) ?_
                      rotate_left
                      · intro w' hSw
                        try dsimp only at hSw
                        go_simp
                        try with_reducible rfl
                      try simp only [Act.put, List.setIfInBounds_toArray, List.set_cons_zero, List.set_cons_succ]
                      refine wpAnyH_take (i := 27) (oi := { dst := some 165, op := Op.pick (Operand.tmp 149) (Operand.const (Value.bool true)) (Operand.tmp 164), type := 4, pos := "law.go:116", after := #[{ on := 11, ground := Ground.data }, { on := 26, ground := Ground.data }], guard := none }) (v := ?_) rfl (by as_aux_lemma => kernel_rfl) (by as_aux_lemma => kernel_rfl) (by as_aux_lemma => kernel_rfl) (fun _ _ _ h => h) (Or.inl ⟨by rfl, ?_⟩) (by assumption) ?_
                      rotate_left
                      · intro w' hSw
                        try dsimp only at hSw
                        go_simp
                        try with_reducible rfl
                      try simp only [Act.put, List.setIfInBounds_toArray, List.set_cons_zero, List.set_cons_succ]
                      refine wpAnyH_done (by kernel_rfl) ?_ _
                      have HK2 : Hid (Below w7.heap.size w7 w5) := Lib.hid (below2Z HKD.out b5)
                      clear b5 HXJ HKD HK HS0 hq0 hq1 hHeld
                      go_wp2_with fail
                      go_roundw
                      case rel => exact ⟨1, by omega, by go_num, HK2⟩
                      case measure => simp [intOf]; omega
                    | succ i =>
                      obtain ⟨b3, o3, e3, hc3⟩ := T2.out.cell HK.out i (by omega)
                      injection e3 with e3
                      injection e3 with e3 e4 _
                      subst e3 e4
                      obtain ⟨x, hx⟩ : ∃ x, (ixSide L false u).getD i [] = x := ⟨_, rfl⟩
                      rw [hx] at hc3
                      have HLS := Lib.hid (side_rise hjt hx hy)
                      have hw : IntKind.i64.wrap ((i : Int) + 1 - 1) = i := by rw [Int.add_sub_cancel]; exact IntWalk.i64_in _ (by omega)
                      have hw3 : IntKind.i64.wrap (i : Int) = i := IntWalk.i64_in _ (by omega)
                      have t0 : (0 : Int) ≤ (i : Int) := by omega
                      have t1 : (i : Int) < ((ixSide L false u).length : Int) := by omega
                      have t2 : decide ((0 : Int) < (i : Int) + 1) = true := decide_eq_true (by omega)
                      have t3 : (0 : Int) < (i : Int) + 1 := by omega
                      have t4 : (0 : Int) ≤ (i : Int) + 1 := by omega
                      have t5 : (i : Int) + 1 < ((ixSide L false u).length : Int) := by omega
                      have k0 : wr.drew.cell? ⟨b1, o1 + (i + 1), none⟩ = some (.string ⟨y.toArray⟩) ∧ wr.drew.cell? ⟨bn, on + k, none⟩ = some (.string ⟨u.toArray⟩) ∧ wr.drew.cell? ⟨b1, o1 + i, none⟩ = some (.string ⟨x.toArray⟩) := ⟨hc1, hc2, hc3⟩
                      go_wp2_with fail
                      go_region_held (fun X => X.cell? ⟨b1, o1 + (i + 1), none⟩ = some (.string ⟨y.toArray⟩) ∧ X.cell? ⟨bn, on + k, none⟩ = some (.string ⟨u.toArray⟩) ∧ X.cell? ⟨b1, o1 + i, none⟩ = some (.string ⟨x.toArray⟩)) ((first | exact k0 | exact k1)) ((first | (go_at_call 14; refine (ixb_has HXJ.out u y hul.out hyl.out (q := true) HHS.out).mono ?_; rintro e w5 ⟨rfl, b5⟩; have k1 : w5.cell? ⟨b1, o1 + (i + 1), none⟩ = some (.string ⟨y.toArray⟩) ∧ w5.cell? ⟨bn, on + k, none⟩ = some (.string ⟨u.toArray⟩) ∧ w5.cell? ⟨b1, o1 + i, none⟩ = some (.string ⟨x.toArray⟩) := ⟨(b5.cell (World.block_lt_of_cell? _ _ k0.1)).trans k0.1, (b5.cell (World.block_lt_of_cell? _ _ k0.2.1)).trans k0.2.1, (b5.cell (World.block_lt_of_cell? _ _ k0.2.2)).trans k0.2.2⟩) | (go_at_call 25; refine (rless_eq x y HLS.out _).mono ?_; rintro e w6 ⟨rfl, rfl⟩)))
                      have HK2 : Hid (Below w7.heap.size w7 w5) := Lib.hid (below2Z HKD.out b5)
                      clear b5 k0 k1 hc1 hc2 hc3 HXJ HKD HK
                      go_wp2_with fail
                      go_roundw
                      case rel => exact ⟨i + 1 + 1, by omega, by go_num, HK2⟩
                      case measure => simp [intOf]; omega
                  · obtain rfl : j = (ixSide L false u).length := by omega
                    replace HX := Lib.hid (HX.out.later HK.out)
                    replace TN := Lib.hid (TN.out.later HK.out)
                    replace HB := Lib.hid (HB.out.trans (HK.out.mono HB.out.size))
                    clear T2 HK
                    go_wp2_with fail
                    go_roundw
                    case rel => exact ⟨k + 1, HLT.out, by go_num, by rw [A1.out], by rw [A2.out], HX, TN, HB⟩
                    case measure =>
                      have := HLT.out
                      simp [intOf]
                      omega
          · obtain rfl : k = nm.length := by omega
            rw [E1.out, E2.out]
            go_wp2_with fail
            refine (ixb_len HX.out).mono ?_
            rintro e w9 ⟨rfl, rfl⟩
            go_wp2_with fail
            refine (ixb_len HX.out).mono ?_
            rintro e w9 ⟨rfl, rfl⟩
            go_wp2_with fail
            refine (HL.out _).mono ?_
            rintro e w3 ⟨rfl, hb⟩
            go_wp2_with fail
            go_ret
            exact ⟨rfl, HB.out.trans (hb.mono HB.out.size)⟩

end Go.Proofs.Ytlckphdmflofgaa
end

section
/-
  THE FRAME OF THE PROOF OF IndexBoth: for every input the law returns true, and each argument reads behind the call as it read before. No condition.
-/
namespace Go.Proofs.Ytlckphdmflofgaa.indexBoth
open Go.ChangeShapes Go.WideShapes Go.ChangeAt Go.RowKit
open Go.ChangeMaps (open_string shut_string)
set_option linter.unusedVariables false

theorem own : ownKnob Try.prog.godebug = none := by kernel_rfl
theorem laidOut : laidOutB Try.prog = true := by kernel_rfl

set_option maxRecDepth 100000 in
theorem lifted (os : Os) (started : os.Started) (H : Type) (enc : TypeId × Value → H) :
    ReturnsInHanded {} Try.checked os 4 .any (Rows.indexBothSpec.pre6 enc Try.prog Try.f4 Rows.indexBothRow.domain false) (Rows.indexBothSpec.post enc Try.prog Try.f4 false true false false) := by
  refine returnsInHanded_of_change (C := Try.checked) own started (by kernel_rfl) Try.func4
    (ChangeSpec.witness6 (enc := enc) (C := Try.checked) false ⟨#[], #[.slice none 0 0], []⟩ 8 (by kernel_rfl) (by kernel_rfl) (by kernel_rfl) (by kernel_rfl)) ?_
  intro W base args ds gs before hval0 hW hcnd _
  have hval : ∀ (j : Nat) t v, Try.f4.params[j]? = some t → args[j]? = some v → Value.okWide Try.prog W .any base t v := hval0
  have hW' := hW
  obtain ⟨p, q, hA0, hV, rfl, hfz, hnd⟩ := hW
  have hA : DataW.TrodAll enc Try.prog W 0 (fun _ => true) true Try.f4.params.toList args.toList ds p := hA0
  rw [Try.params4] at hA hval
  obtain ⟨v0, vs0, d0, ds0, p0, q0, hargs, rfl, rfl, h0, r0⟩ := trodAll_cons hA
  obtain ⟨rfl, rfl, rfl⟩ := trodAll_nil r0
  obtain rfl : args = #[v0] := by cases args; simp_all
  obtain ⟨rfl, rfl⟩ := trodVars_none hV
  have k0 := h0
  have lt0 : ∀ x ∈ p0, x.block < W.heap.size := by obtain ⟨m, hm⟩ := k0; exact DataW.trod_lt m _ _ _ hm
  obtain ⟨l0, w0⟩ := open_iops (hval 0 22 v0 rfl rfl) h0
  clear hA0 hval0
  refine (walkIndexBoth (w := W) w0).mono fun e W' ⟨he, bel⟩ => ?_
  subst he
  exact ⟨_, rfl, _, _, _, [], _, [], hW', trodAll_mk1 (shut_bool Try.underlying4 _), (trodAll_cons_mk (Below.trod laidOut (by kernel_rfl) (of_decide_eq_true (by kernel_rfl)) k0 bel lt0) trodAll_mk0), rfl, bel.frame _, fun h => by cases h⟩

theorem over : Rows.indexBothRow.holds Try.pinned (OpenSpec.ofChange Rows.indexBothSpec) :=
  OpenClaim.holds_of_wide 4 Try.f4 rfl rfl rfl rfl rfl rfl rfl ⟨rfl, rfl, rfl, rfl, rfl⟩ rfl rfl rfl rfl rfl (by kernel_rfl) Try.func4 (by kernel_rfl)
    (of_decide_eq_true (by kernel_rfl)) (by unfold Func.isWrapper; first | (rw [if_pos (by decide +kernel)]; kernel_rfl) | (rw [if_neg (by decide +kernel)]; exact ⟨rfl, rfl⟩))
    (fun os started H enc _ => lifted os started H enc)

/-- THE STATEMENT. -/
theorem proved : Rows.IndexBothSaid := over
#print axioms proved
end Go.Proofs.Ytlckphdmflofgaa.indexBoth
end
