/-
  TEXTS OF THE PROOF, one behind the other: RosPairP, RosPairE, RosMayC, IdRow, RosOf, EntWith, RosDoC, RosDoC2, RosWatP, RosSort, RosSort2.
-/
import Derived.Test.YthfkfonfiejbmaaGreatC01
import Derived.Test.YthfkfonfiejbmaaGreatC14
import Derived.Laws.AppendOwnNone
import Derived.Laws.OwnMore
import Derived.Test.YthfkfonfiejbmaaGreatC08
import Derived.Test.YthfkfonfiejbmaaGreatC07
import Derived.Deep.RegionHeld3

set_option linter.unusedVariables false

section

/-
  LAYER 8, PLAIN: has an entry its counterpart? Told from what stands at the counterpart's place.
-/
namespace Go.Proofs.YthfkfonfiejbmaaGreat

theorem roPaired_off {l : List Ent} {eo ec : List UInt8} {x : It} (hany : (l.any fun e => entIs e ⟨ec, eo, ⟨false, false, false, false, false⟩⟩) = false) : roPaired l ⟨eo, ec, x⟩ = false := by
  show ((l.any fun x => entIs x ⟨ec, eo, ⟨false, false, false, false, false⟩⟩) && _) = false
  rw [hany, Bool.false_and]

theorem roPaired_on {l : List Ent} (hr : Rise l) {eo ec fo fc : List UInt8} {x i : It} (hany : (l.any fun e => entIs e ⟨ec, eo, ⟨false, false, false, false, false⟩⟩) = true)
    (hlt : entPlace l ⟨ec, eo, ⟨false, false, false, false, false⟩⟩ < l.length) (he : l.getD (entPlace l ⟨ec, eo, ⟨false, false, false, false, false⟩⟩) Ent.zero = ⟨fo, fc, i⟩)
    (hs : entIs ⟨fo, fc, i⟩ ⟨ec, eo, ⟨false, false, false, false, false⟩⟩ = true) : roPaired l ⟨eo, ec, x⟩ = (suMay x i && !(suEmpty x && suEmpty i)) := by
  have hm : (⟨fo, fc, i⟩ : Ent) ∈ l := by rw [← he, getD_at hlt]; exact List.getElem_mem hlt
  have hit := roIt_mem hr hm
  obtain ⟨ho, hc⟩ := entIs_iff.1 hs
  simp only at ho hc hit
  subst ho hc
  unfold roPaired
  simp only []
  rw [hit, show (l.any fun x => entIs x ⟨fo, fc, It.zero⟩) = true from hany, Bool.true_and]

/-- Where the counterpart stands. -/
theorem roPair_place {l : List Ent} (hr : Rise l) {eo ec : List UInt8} (hany : (l.any fun e => entIs e ⟨ec, eo, ⟨false, false, false, false, false⟩⟩) = true) :
    entPlace l ⟨ec, eo, ⟨false, false, false, false, false⟩⟩ < l.length ∧ entIs (l.getD (entPlace l ⟨ec, eo, ⟨false, false, false, false, false⟩⟩) Ent.zero) ⟨ec, eo, ⟨false, false, false, false, false⟩⟩ = true := by
  have ht := (entPlace_there hr ⟨ec, eo, ⟨false, false, false, false, false⟩⟩).trans hany
  rw [Bool.and_eq_true, decide_eq_true_eq] at ht
  exact ht

end Go.Proofs.YthfkfonfiejbmaaGreat

end

section

/-
  LAYER 8: isPaired against one plain function.
-/
namespace Go.Proofs.YthfkfonfiejbmaaGreat
open Go.RowKit

theorem paired_any {w : World} {v : Value} {l : List Ent} (hv : Ents w v l) (hr : Rise l) (eo ec : List UInt8) (x1 x2 x3 x4 x5 : Bool) {r : Bool} (h : Hid (roPaired l ⟨eo, ec, ⟨x1, x2, x3, x4, x5⟩⟩ = r)) :
    Calls Tryz.prog 91 #[v, .agg #[.string ⟨eo.toArray⟩, .string ⟨ec.toArray⟩, .bool x1, .bool x2, .bool x3, .bool x4, .bool x5]] w fun e w' => e = .returned (.bool r) ∧ Below w.heap.size w w' := by
  cases hany : (l.any fun e => entIs e ⟨ec, eo, ⟨false, false, false, false, false⟩⟩) with
  | false =>
    have hR := roPaired_off (x := ⟨x1, x2, x3, x4, x5⟩) hany
    rw [h.out] at hR
    subst hR
    exact paired_no hv hr eo ec x1 x2 x3 x4 x5 hany
  | true =>
    obtain ⟨hlt, hs⟩ := roPair_place hr hany
    obtain ⟨⟨fo, fc, ⟨i1, i2, i3, i4, i5⟩⟩, he⟩ : ∃ r, l.getD (entPlace l ⟨ec, eo, ⟨false, false, false, false, false⟩⟩) Ent.zero = r := ⟨_, rfl⟩
    rw [he] at hs
    have hP := paired_yes hv hr eo ec x1 x2 x3 x4 x5 hlt he hs
    have hR := roPaired_on (x := ⟨x1, x2, x3, x4, x5⟩) hr hany hlt he hs
    rw [h.out] at hR
    rw [← hR] at hP
    exact hP

end Go.Proofs.YthfkfonfiejbmaaGreat

end

section

/-
  LAYER 8, THE CODE: whether rosters may be.
-/
namespace Go.Proofs.YthfkfonfiejbmaaGreat
open Go.RowKit

theorem roMayC_off {l : List Ent} {k : Nat} (hk : k < l.length) (h : roCodeAt l k = false) : roMayC l = false := by
  rw [Bool.eq_false_iff]
  intro h'
  unfold roMayC at h'
  rw [Bool.and_eq_true, List.all_eq_true, List.all_eq_true] at h'
  rw [h'.2 k (by simpa using hk)] at h
  cases h

theorem roCode_next {l : List Ent} {k : Nat} (h : (List.range k).all (roCodeAt l) = true) (hk : roCodeAt l k = true) : (List.range (k + 1)).all (roCodeAt l) = true := by
  rw [List.range_succ, List.all_append, h]
  simp [hk]

set_option maxHeartbeats 3200000 in
set_option maxRecDepth 100000 in
theorem romay_any {w : World} {v : Value} {l : List Ent} (hv : Ents w v l) (hs : ShortE l) {r : Bool} (h : Hid (roMayC l = r)) :
    Calls Tryz.prog 60 #[v] w fun e w' => e = .returned (.bool r) ∧ Below w.heap.size w w' := by
  have HV := Lib.hid hv
  have HS := Lib.hid hs
  have HI := Lib.hid (rises_any hv hs)
  obtain ⟨a, cap, rfl, hm⟩ := hv.open'
  clear hv hs
  cases hri : riseB l with
  | false =>
    have HR : roMayC l = false := by
      show (riseB l && _) = false
      rw [hri, Bool.false_and]
    rw [h.out] at HR
    subst HR
    rw [hri] at HI
    clear hri
    go_enter Tryz.func60, Tryz.ntmps60
    go_wp2_with fail
    refine HI.out.mono ?_
    rintro e w1 ⟨rfl, b1⟩
    have B1 := Lib.hid b1
    clear b1
    go_wp2_with fail
    go_ret
    exact ⟨rfl, B1.out⟩
  | true =>
    have HRise := Lib.hid (riseB_rise hri)
    have HRB := Lib.hid hri
    rw [hri] at HI
    clear hri
    go_enter Tryz.func60, Tryz.ntmps60
    go_wp2_with fail
    refine HI.out.mono ?_
    rintro e w1 ⟨rfl, b1⟩
    have B1 := Lib.hid b1
    clear b1
    go_wp2_with fail
    go_loopw [10] (fun i wr => ∃ k : Nat, k ≤ l.length ∧ i = .int .i64 k ∧ Hid (Below w.heap.size w wr) ∧ Hid ((List.range k).all (roCodeAt l) = true)) (fun i _ => l.length - (intOf i).toNat)
    case atStart => exact ⟨0, by omega, rfl, B1, by show _ = _; simp⟩
    case round =>
      obtain ⟨k, hk, rfl, HB, HA⟩ := hrel
      by_cases hlt : k < l.length
      · obtain ⟨b, off, rfl, h0, h1, h2, h3, h4, h5, h6⟩ := HV.out.row HB.out k hlt
        obtain ⟨⟨eo, ec, ⟨i1, i2, i3, i4, i5⟩⟩, hr⟩ : ∃ r, l.getD k Ent.zero = r := ⟨_, rfl⟩
        rw [hr] at h0 h1 h2 h3 h4 h5 h6
        simp only at h0 h1 h2 h3 h4 h5 h6
        have B2 := Lib.hid (bl_allocS HB.out (.cells #[.string ⟨eo.toArray⟩, .string ⟨ec.toArray⟩, .bool i1, .bool i2, .bool i3, .bool i4, .bool i5] 68))
        have C1 := Lib.hid (cells7_made wr ⟨eo, ec, ⟨i1, i2, i3, i4, i5⟩⟩ 68)
        have HO := Lib.hid (over_any (HV.out.later B2.out) hlt)
        cases ho : roOver l k with
        | true =>
          have HR : roMayC l = false := roMayC_off hlt (by unfold roCodeAt; rw [ho]; rfl)
          rw [h.out] at HR
          subst HR
          rw [ho] at HO
          clear ho hr
          go_wp2_with fail
          refine HO.out.mono ?_
          rintro e w3 ⟨rfl, b3⟩
          have B3 := Lib.hid (below2S B2.out b3)
          clear b3
          go_wp2_with fail
          go_ret
          exact ⟨rfl, B3.out⟩
        | false =>
          rw [ho] at HO
          obtain ⟨q, hq⟩ : ∃ q, roPaired l ⟨eo, ec, ⟨i1, i2, i3, i4, i5⟩⟩ = q := ⟨_, rfl⟩
          have hAt : roCodeAt l k = q := by
            unfold roCodeAt
            rw [ho, hr, hq]
            rfl
          have HAt := Lib.hid hAt
          have HQ := Lib.hid hq
          clear hAt hq ho hr
          go_wp2_with fail
          refine HO.out.mono ?_
          rintro e w3 ⟨rfl, b3⟩
          have B3 := Lib.hid (below2S B2.out b3)
          obtain ⟨c0, c1, c2, c3, c4, c5, c6⟩ := C1.out.later b3
          simp only [Nat.zero_add] at c0 c1 c2 c3 c4 c5 c6
          clear b3
          go_wp2_with fail
          refine (paired_any (HV.out.later B3.out) HRise.out eo ec i1 i2 i3 i4 i5 HQ).mono ?_
          rintro e w4 ⟨rfl, b4⟩
          have B4 := Lib.hid (below2S B3.out b4)
          clear b4 c0 c1 c2 c3 c4 c5 c6
          cases q with
          | true =>
            have HA2 := Lib.hid (roCode_next HA.out HAt.out)
            go_wp2_with fail
            go_roundw
            case rel => exact ⟨k + 1, by omega, by go_num, B4, HA2⟩
            case measure => simp [intOf]; omega
          | false =>
            have HR : roMayC l = false := roMayC_off hlt HAt.out
            rw [h.out] at HR
            subst HR
            go_wp2_with fail
            go_ret
            exact ⟨rfl, B4.out⟩
      · obtain rfl : k = l.length := by omega
        have HR : roMayC l = true := by
          unfold roMayC
          rw [HA.out, Bool.and_true]
          exact HRB.out
        rw [h.out] at HR
        subst HR
        go_wp2_with fail
        go_ret
        exact ⟨rfl, HB.out⟩

end Go.Proofs.YthfkfonfiejbmaaGreat

end

section

/-
  ROWS OF TEXTS IN MEMORY, over any program: what they hold, and what append makes of them.
-/
namespace Go.Proofs.YthfkfonfiejbmaaGreat
open Go.RowKit

/-- A text as a cell's value. -/
def encS (l : List UInt8) : Value := .string ⟨l.toArray⟩

/-- Which list of texts a slice holds. -/
def Texts (w : World) (v : Value) (ls : List (List UInt8)) : Prop :=
  ∃ a cap, v = .slice a ls.length cap ∧ ls.length ≤ cap ∧ cap ≤ maxLen ∧ (a = none → cap = 0) ∧
    (ls = [] ∨ ∃ b off, a = some ⟨b, off, none⟩ ∧ b < w.heap.size ∧ ∀ i, i < ls.length → w.cell? ⟨b, off + i, none⟩ = some (encS (ls.getD i [])))

theorem Texts.later {w w' : World} {v : Value} {ls : List (List UInt8)} (h : Texts w v ls) (hb : Below w.heap.size w w') : Texts w' v ls := by
  obtain ⟨a, cap, h1, h2, h3, h4, h5⟩ := h
  refine ⟨a, cap, h1, h2, h3, h4, ?_⟩
  rcases h5 with h5 | ⟨b, off, e, hlt, hc⟩
  · exact .inl h5
  · exact .inr ⟨b, off, e, Nat.lt_of_lt_of_le hlt hb.size, fun i hi => (hb.cell (p := ⟨b, off + i, none⟩) hlt).trans (hc i hi)⟩

theorem texts_nil (w : World) : Texts w (.slice none 0 0) [] := ⟨none, 0, rfl, by simp, by simp, fun _ => rfl, .inl rfl⟩

theorem encS_one (ls : List (List UInt8)) : ∀ u ∈ ls.map encS, u.oneCell' = true := by
  intro u hu
  obtain ⟨l, _, rfl⟩ := List.mem_map.1 hu
  rfl

/-- A row of the call's own. -/
theorem texts_of_own {w : World} {base e : Nat} {v : Value} {ls : List (List UInt8)} (h : w.ownsRow base e 1 v ls.length (ls.map encS)) : Texts w v ls := by
  rcases h with ⟨_, ⟨rfl, h0⟩ | ⟨g, cap, cur, rfl, hb, hg, hn, hc, hsz, htk⟩⟩
  · obtain rfl : ls = [] := List.length_eq_zero_iff.1 h0
    exact texts_nil w
  · refine ⟨some ⟨g, 0, none⟩, cap, rfl, hn, hc, (fun e => by cases e), ?_⟩
    refine .inr ⟨g, 0, rfl, (Array.getElem?_eq_some_iff.1 hg).1, fun i hi => ?_⟩
    rw [Nat.zero_add, cell_of_row w g i cur e (0, 0) hg]
    have h1 : cur.toList[i]? = (ls.map encS)[i]? := by
      rw [← htk, List.getElem?_take, if_pos (by omega)]
    have h2 : (ls.map encS)[i]? = some (encS (ls.getD i [])) := by
      simp [List.getD, List.getElem?_eq_getElem hi]
    rw [← h2, ← h1]
    simp

/-- A row of texts of the call's own. -/
def OwnT (w : World) (base e : Nat) (v : Value) (ls : List (List UInt8)) : Prop := w.ownsRow base e 1 v ls.length (ls.map encS)

theorem OwnT.alloc {w : World} {base e : Nat} {v : Value} {ls : List (List UInt8)} (h : OwnT w base e v ls) (o : Obj) : OwnT (w.alloc o) base e v ls := World.ownsRow.alloc h o
theorem OwnT.texts {w : World} {base e : Nat} {v : Value} {ls : List (List UInt8)} (h : OwnT w base e v ls) : Texts w v ls := texts_of_own h
/-- 'out = append(out, src...)', out nil or a row of the call's own, src whatever (its address any term). -/
theorem wpList_append_texts {P : Program} {w : World} {ops : Array Oper} {rest : List Oper} {o : Oper} {a : Act} {Q : Exit → Act → World → Prop}
    (hgd : o.guard = none) (s x : Operand) (t : TypeId) (ho : o.op = .call { callee := .builtin .append, args := #[s, x], argTypes := #[t, t] })
    (base : Nat) (e : TypeId) (i : TypeInfo) (z : Value) (bytes : Nat) (ht : P.underlying t = some (.slice e)) (hi : P.info? e = some i) (hz : i.zero = some z)
    (hsize : i.size = 1) (hby : i.bytes = bytes) (hzs : z.cells.size = 1)
    (v : Value) (ls : List (List UInt8)) (hs : a.eval s = v) (hown : OwnT w base e v ls)
    (ao : Option Addr) (m c : Nat) (ms : List (List UInt8)) (hx : a.eval x = .slice ao m c) (hm : m = ms.length) (hnone : ao = none → c = 0 ∧ ms = [])
    (hsome : ∀ ad, ao = some ad → ∀ j u, (ms.map encS)[j]? = some u → w.cell? (ad.add j) = some u)
    (hlen : ls.length + ms.length < 4294967296) (hb : bytes ≤ 4096) (hbase : base ≤ w.heap.size)
    (h : ∀ v' w', OwnT w' base e v' (ls ++ ms) → Below base w w' → wpList P ops Q rest (a.put o.dst v') w') :
    wpList P ops Q (o :: rest) a w := by
  cases ao with
  | none =>
    obtain ⟨rfl, rfl⟩ := hnone rfl
    simp only [List.length_nil] at hm
    subst hm
    exact wpList_append_own_none hgd s x t ho base e i 1 ht hi v ls.length (ls.map encS) hs hown hx (h v w (by simpa using hown) (Below.refl _ _))
  | some ad =>
    subst hm
    refine wpList_append_own _ hgd s x t ho base e i z 1 bytes ht hi hz hsize hby hzs (by decide) v ls.length (ls.map encS) hs hown ad ms.length c (ms.map encS) hx (by simp) (hsome ad rfl) (encS_one ms)
      (by unfold maxLen; omega) (Nat.le_trans (Nat.mul_le_mul (show ls.length + ms.length ≤ 4294967296 by omega) hb) (by decide)) hbase ?_
    intro v' w' hown' hgrow _
    refine h v' w' ?_ ((Below.refl base w).grown hgrow hbase (fun k hk => (World.ownsRow.lt hown k hk).1))
    unfold OwnT
    rw [List.map_append, List.length_append]
    exact hown'

end Go.Proofs.YthfkfonfiejbmaaGreat

end

section

/-
  LAYER 8: the Contacts of an Owner, the document's and the code's.
-/
namespace Go.Proofs.YthfkfonfiejbmaaGreat
open Go.RowKit

theorem Tryz.infoTxt : (Tryz.prog.info? 9).map (fun i => (i.zero, i.size, i.bytes)) = some (some (.string ⟨#[]⟩), 1, 16) := by kernel_rfl

theorem new_cellR {w : World} {u : Value} {e : TypeId} : ∀ ad, some (⟨w.heap.size, 0, none⟩ : Addr) = some ad → ∀ j v, ([u] : List Value)[j]? = some v → (w.alloc (.cells #[u] e)).cell? (ad.add j) = some v := by
  intro ad had j v hv
  obtain rfl := Option.some.inj had
  exact cells_one w u e j v hv

theorem new_cellN {w : World} {u : Value} {e : TypeId} {B : Nat} (hB : B = w.heap.size) : ∀ ad, some (⟨B, 0, none⟩ : Addr) = some ad → ∀ j v, ([u] : List Value)[j]? = some v → (w.alloc (.cells #[u] e)).cell? (ad.add j) = some v := by
  subst hB
  exact new_cellR

theorem roOf_succ {l : List Ent} {k : Nat} (hk : k < l.length) (o : List UInt8) : roOf (l.take (k + 1)) o = if (l.getD k Ent.zero).o = o then roOf (l.take k) o ++ [(l.getD k Ent.zero).c] else roOf (l.take k) o := by
  unfold roOf
  rw [List.take_succ_eq_append_getElem hk, getD_at hk, List.filter_append, List.map_append]
  by_cases h : l[k].o = o
  · rw [if_pos h, List.filter_cons, if_pos (by simp [ofOwner, h])]
    rfl
  · rw [if_neg h, List.filter_cons, if_neg (by simp [ofOwner, h])]
    simp

theorem roOf_le (l : List Ent) (o : List UInt8) : (roOf l o).length ≤ l.length := by
  rw [roOf_len]
  exact List.length_filter_le _ _

set_option maxHeartbeats 1600000 in
set_option maxRecDepth 100000 in
theorem rof_any {w : World} {v : Value} {l : List Ent} (hv : Ents w v l) (hl : l.length ≤ 4294967) (o : List UInt8) :
    Calls Tryz.prog 35 #[v, .string ⟨o.toArray⟩] w fun e w' => ∃ u, e = .returned u ∧ OwnT w' w.heap.size 9 u (roOf l o) ∧ Below w.heap.size w w' := by
  obtain ⟨i0, hi, hz0, hz1, hz2⟩ := info_parts Tryz.infoTxt
  have HV := Lib.hid hv
  obtain ⟨a, cap, rfl, _⟩ := hv.open'
  clear hv
  go_enter Tryz.func35, Tryz.ntmps35
  go_wp2_with fail
  go_loopw [5, 6] (fun s i wr => ∃ k : Nat, k ≤ l.length ∧ i = .int .i64 k ∧ Hid (OwnT wr w.heap.size 9 s (roOf (l.take k) o)) ∧ Hid (Below w.heap.size w wr)) (fun _ i _ => l.length - (intOf i).toNat)
  case atStart => exact ⟨0, by omega, rfl, World.ownsRow_nil _ _ _ _, Below.refl _ _⟩
  case round =>
    obtain ⟨k, hk, rfl, HO, HN⟩ := hrel
    by_cases hlt : k < l.length
    · obtain ⟨b, off, rfl, h0, h1, _⟩ := HV.out.row HN.out k hlt
      have hX := roOf_succ hlt o
      obtain ⟨⟨eo, c, it⟩, hr⟩ : ∃ r, l.getD k Ent.zero = r := ⟨_, rfl⟩
      rw [hr] at h0 h1 hX
      simp only at h0 h1 hX
      clear hr
      by_cases ho : eo = o
      · rw [if_pos ho] at hX
        have HX := Lib.hid hX
        subst ho
        have O2 := Lib.hid (HO.out.alloc (.cells #[.string ⟨c.toArray⟩] 9))
        have N2 := Lib.hid (bl_allocS HN.out (.cells #[.string ⟨c.toArray⟩] 9))
        have hz3 := N2.out.size
        have hcl : (roOf (l.take k) eo).length ≤ 4294967 := by have := roOf_le (l.take k) eo; rw [List.length_take] at this; omega
        clear hX HO
        go_wp2_with (at_builtin; go_must (refine wpList_append_texts rfl _ _ 72 rfl w.heap.size 9 i0 _ 16 Tryz.underlying72 hi hz0 hz1 hz2 rfl _ (roOf (l.take k) eo) rfl (by exact O2.out) _ 1 1 [c] rfl rfl (fun e => nomatch e) ?c1 (by simp only [List.length_cons, List.length_nil]; omega) (by decide) hz3 ?_))
        case c1 => exact new_cellR
        intro v' w' hown' hb'
        rw [← HX.out] at hown'
        have O3 := Lib.hid hown'
        have N3 := Lib.hid (N2.out.trans hb')
        clear hown' hb' O2 h0 h1
        go_wp2_with fail
        go_roundw
        case rel => exact ⟨k + 1, by omega, by go_num, O3, N3⟩
        case measure => simp [intOf]; omega
      · rw [if_neg ho] at hX
        have o3 := HO.out
        rw [← hX] at o3
        have O3 := Lib.hid o3
        clear o3
        have t1 : (eo == o) = false := by rw [beq_eq_false_iff_ne]; exact ho
        clear hX HO ho
        go_wp2_with fail
        go_roundw
        case rel => exact ⟨k + 1, by omega, by go_num, O3, HN⟩
        case measure => simp [intOf]; omega
    · obtain rfl : k = l.length := by omega
      have ht := HO.out
      rw [List.take_length] at ht
      have HT := Lib.hid ht
      clear ht
      go_wp2_with fail
      go_ret
      exact ⟨_, rfl, HT.out, HN.out⟩

set_option maxHeartbeats 1600000 in
set_option maxRecDepth 100000 in
theorem of_any {w : World} {v : Value} {l : List Ent} (hv : Ents w v l) (hl : l.length ≤ 4294967) (o : List UInt8) :
    Calls Tryz.prog 97 #[v, .string ⟨o.toArray⟩] w fun e w' => ∃ u, e = .returned u ∧ OwnT w' w.heap.size 9 u (roOf l o) ∧ Below w.heap.size w w' := by
  obtain ⟨i0, hi, hz0, hz1, hz2⟩ := info_parts Tryz.infoTxt
  have HV := Lib.hid hv
  obtain ⟨a, cap, rfl, _⟩ := hv.open'
  clear hv
  go_enter Tryz.func97, Tryz.ntmps97
  go_wp2_with fail
  go_loopw [5, 10] (fun s i wr => ∃ k : Nat, k ≤ l.length ∧ i = .int .i64 k ∧ Hid (OwnT wr w.heap.size 9 s (roOf (l.take k) o)) ∧ Hid (Below w.heap.size w wr)) (fun _ i _ => l.length - (intOf i).toNat)
  case atStart => exact ⟨0, by omega, rfl, World.ownsRow_nil _ _ _ _, Below.refl _ _⟩
  case round =>
    obtain ⟨k, hk, rfl, HO, HN⟩ := hrel
    by_cases hlt : k < l.length
    · obtain ⟨b, off, rfl, h0, h1, h2, h3, h4, h5, h6⟩ := HV.out.row HN.out k hlt
      have hX := roOf_succ hlt o
      obtain ⟨⟨eo, c, ⟨i1, i2, i3, i4, i5⟩⟩, hr⟩ : ∃ r, l.getD k Ent.zero = r := ⟨_, rfl⟩
      rw [hr] at h0 h1 h2 h3 h4 h5 h6 hX
      simp only at h0 h1 h2 h3 h4 h5 h6 hX
      clear hr
      by_cases ho : eo = o
      · rw [if_pos ho] at hX
        have HX := Lib.hid hX
        subst ho
        have O2 := Lib.hid ((HO.out.alloc (.cells #[.string ⟨eo.toArray⟩, .string ⟨c.toArray⟩, .bool i1, .bool i2, .bool i3, .bool i4, .bool i5] 68)).alloc (.cells #[.string ⟨c.toArray⟩] 9))
        have N2 := Lib.hid (bl_allocS (bl_allocS HN.out (.cells #[.string ⟨eo.toArray⟩, .string ⟨c.toArray⟩, .bool i1, .bool i2, .bool i3, .bool i4, .bool i5] 68)) (.cells #[.string ⟨c.toArray⟩] 9))
        have hz3 := N2.out.size
        have hcl : (roOf (l.take k) eo).length ≤ 4294967 := by have := roOf_le (l.take k) eo; rw [List.length_take] at this; omega
        clear hX HO
        go_wp2_with (at_builtin; go_must (refine wpList_append_texts rfl _ _ 72 rfl w.heap.size 9 i0 _ 16 Tryz.underlying72 hi hz0 hz1 hz2 rfl _ (roOf (l.take k) eo) rfl (by exact O2.out) _ 1 1 [c] rfl rfl (fun e => nomatch e) ?c1 (by simp only [List.length_cons, List.length_nil]; omega) (by decide) hz3 ?_))
        case c1 => exact new_cellN (by simp)
        intro v' w' hown' hb'
        rw [← HX.out] at hown'
        have O3 := Lib.hid hown'
        have N3 := Lib.hid (N2.out.trans hb')
        clear hown' hb' O2 h0 h1 h2 h3 h4 h5 h6
        go_wp2_with fail
        go_roundw
        case rel => exact ⟨k + 1, by omega, by go_num, O3, N3⟩
        case measure => simp [intOf]; omega
      · rw [if_neg ho] at hX
        have o3 := HO.out.alloc (.cells #[.string ⟨eo.toArray⟩, .string ⟨c.toArray⟩, .bool i1, .bool i2, .bool i3, .bool i4, .bool i5] 68)
        rw [← hX] at o3
        have O3 := Lib.hid o3
        clear o3
        have N3 := Lib.hid (bl_allocS HN.out (.cells #[.string ⟨eo.toArray⟩, .string ⟨c.toArray⟩, .bool i1, .bool i2, .bool i3, .bool i4, .bool i5] 68))
        have t1 : (eo == o) = false := by rw [beq_eq_false_iff_ne]; exact ho
        clear hX HO ho
        go_wp2_with fail
        go_roundw
        case rel => exact ⟨k + 1, by omega, by go_num, O3, N3⟩
        case measure => simp [intOf]; omega
    · obtain rfl : k = l.length := by omega
      have ht := HO.out
      rw [List.take_length] at ht
      have HT := Lib.hid ht
      clear ht
      go_wp2_with fail
      go_ret
      exact ⟨_, rfl, HT.out, HN.out⟩

end Go.Proofs.YthfkfonfiejbmaaGreat

end

section

/-
  LAYER 8, THE CODE: with; isFull.
-/
namespace Go.Proofs.YthfkfonfiejbmaaGreat
open Go.RowKit

theorem putO_here {l : List Ent} (hr : Rise l) {x : Ent} (h : (decide (entPlace l x < l.length) && entIs (l.getD (entPlace l x) Ent.zero) x) = true) : putO entLt entIs l x = l.set (entPlace l x) x := by
  have hany := (entPlace_there hr x).symm.trans h
  unfold putO
  cases hf : findO entIs l x with
  | none =>
    have := (findO_isSome (eq := entIs) (l := l) (x := x)).trans hany
    rw [hf] at this
    cases this
  | some i =>
    have := findO_place entOrd hr hf
    subst this
    rfl

theorem putO_new {l : List Ent} (hr : Rise l) {x : Ent} (h : (decide (entPlace l x < l.length) && entIs (l.getD (entPlace l x) Ent.zero) x) = false) : putO entLt entIs l x = putS l (entPlace l x) x := by
  have hany := (entPlace_there hr x).symm.trans h
  unfold putO
  cases hf : findO entIs l x with
  | none => rfl
  | some i =>
    have := (findO_isSome (eq := entIs) (l := l) (x := x)).trans hany
    rw [hf] at this
    cases this

set_option maxHeartbeats 1600000 in
set_option maxRecDepth 100000 in
theorem rwith_any {w : World} {v : Value} {l : List Ent} (hv : Ents w v l) (hr : Rise l) (hl : l.length ≤ 1000) (xo xc : List UInt8) (x1 x2 x3 x4 x5 : Bool) :
    Calls Tryz.prog 68 #[v, .agg #[.string ⟨xo.toArray⟩, .string ⟨xc.toArray⟩, .bool x1, .bool x2, .bool x3, .bool x4, .bool x5]] w fun e w' => ∃ u, e = .returned u ∧ OwnS entVals 7 68 w' w.heap.size u (putO entLt entIs l ⟨xo, xc, ⟨x1, x2, x3, x4, x5⟩⟩) ∧ Below w.heap.size w w' := by
  have bn := bl_newZ w (.cells #[.string ⟨xo.toArray⟩, .string ⟨xc.toArray⟩, .bool x1, .bool x2, .bool x3, .bool x4, .bool x5] 68)
  have B0 := Lib.hid bn
  have HS := Lib.hid (show (w.alloc (.cells #[.string ⟨xo.toArray⟩, .string ⟨xc.toArray⟩, .bool x1, .bool x2, .bool x3, .bool x4, .bool x5] 68)).heap.size = w.heap.size + 1 by simp)
  have K0 := Lib.hid (cells7_made w ⟨xo, xc, ⟨x1, x2, x3, x4, x5⟩⟩ 68)
  have HV := Lib.hid (hv.later bn)
  obtain ⟨p, hp⟩ : ∃ p, entPlace l ⟨xo, xc, ⟨x1, x2, x3, x4, x5⟩⟩ = p := ⟨_, rfl⟩
  obtain ⟨q, hq⟩ : ∃ q, (decide (p < l.length) && entIs (l.getD p Ent.zero) ⟨xo, xc, ⟨x1, x2, x3, x4, x5⟩⟩) = q := ⟨_, rfl⟩
  have HP := Lib.hid (place_any HV.out hr xo xc x1 x2 x3 x4 x5 hp hq)
  have hple : p ≤ l.length := by rw [← hp]; exact entPlace_le l _
  have HE : Hid (putO entLt entIs l ⟨xo, xc, ⟨x1, x2, x3, x4, x5⟩⟩ = if q = true then l.set p ⟨xo, xc, ⟨x1, x2, x3, x4, x5⟩⟩ else putS l p ⟨xo, xc, ⟨x1, x2, x3, x4, x5⟩⟩) := by
    show _ = _
    subst hp
    cases q with
    | true => rw [if_pos rfl]; exact putO_here hr hq
    | false => rw [if_neg (by decide)]; exact putO_new hr hq
  have HQ : Hid (q = true → p < l.length) := fun e => by
    rw [e, Bool.and_eq_true, decide_eq_true_eq] at hq
    exact hq.1
  generalize putO entLt entIs l ⟨xo, xc, ⟨x1, x2, x3, x4, x5⟩⟩ = R at HE ⊢
  obtain ⟨a, cap, rfl, hm⟩ := hv.open'
  clear hv bn hp hq
  cases q with
  | true =>
    have hlt := HQ.out rfl
    go_enter Tryz.func68, Tryz.ntmps68
    go_wp2_with fail
    refine HP.out.mono ?_
    rintro e w1 ⟨rfl, b1⟩
    have B1 := Lib.hid (below2Z B0.out b1)
    have K1 := Lib.hid (K0.out.later b1)
    have V1 := Lib.hid (HV.out.later b1)
    have hz1 := b1.size
    clear b1
    go_wp2_with fail
    refine (ent_clone V1.out.rdS (by omega)).mono ?_
    rintro e w2 ⟨u, rfl, ho, b2⟩
    have B2 := Lib.hid (below2Z B1.out b2)
    obtain ⟨k0, k1, k2, k3, k4, k5, k6⟩ := K1.out.later b2
    simp only [Nat.zero_add] at k0 k1 k2 k3 k4 k5 k6
    have HO := Lib.hid ho
    rw [HS.out] at hz1
    rcases ho.2 with ⟨rfl, h0⟩ | ⟨g, cp, cur, rfl, hbg, -, -, hcm, -, -⟩
    · omega
    · have n0 : (0 : Int) ≤ (p : Int) := by omega
      have n1 : (p : Int) < (l.length : Int) := by omega
      obtain ⟨s0, s1, s2, s3, s4, s5, s6⟩ := cells7_at.2 (HO.out.row entOK hlt)
      have f0 := HO.out.frozenAt (p * 7)
      have f1 := HO.out.frozenAt (p * 7 + 1)
      have f2 := HO.out.frozenAt (p * 7 + 2)
      have f3 := HO.out.frozenAt (p * 7 + 3)
      have f4 := HO.out.frozenAt (p * 7 + 4)
      have f5 := HO.out.frozenAt (p * 7 + 5)
      have f6 := HO.out.frozenAt (p * 7 + 6)
      have O3 := Lib.hid (ownS_low (setE_own HO.out hlt xo xc x1 x2 x3 x4 x5) (show w.heap.size ≤ w1.heap.size by omega))
      have N3 := Lib.hid (setE_below (o := p * 7) B2.out (show w.heap.size ≤ g by omega) xo xc x1 x2 x3 x4 x5)
      have HR := HE.out
      simp only [if_true] at HR
      have hid := Lib.hid HR
      clear ho b2 HR HE HQ
      go_wp2_with fail
      go_ret
      exact ⟨_, rfl, by rw [hid.out]; exact O3.out, N3.out⟩
  | false =>
    have HR := HE.out
    simp only [Bool.false_eq_true, if_false] at HR
    have hid := Lib.hid HR
    clear HR HE HQ
    go_enter Tryz.func68, Tryz.ntmps68
    go_wp2_with fail
    refine HP.out.mono ?_
    rintro e w1 ⟨rfl, b1⟩
    have B1 := Lib.hid (below2Z B0.out b1)
    have K1 := Lib.hid (K0.out.later b1)
    have V1 := Lib.hid (HV.out.later b1)
    have hz1 := b1.size
    rw [HS.out] at hz1
    clear b1
    go_wp2_with fail
    refine (ent_clone V1.out.rdS (by omega)).mono ?_
    rintro e w2 ⟨u, rfl, ho, b2⟩
    have B2 := Lib.hid (below2Z B1.out b2)
    obtain ⟨k0, k1, k2, k3, k4, k5, k6⟩ := K1.out.later b2
    simp only [Nat.zero_add] at k0 k1 k2 k3 k4 k5 k6
    have b3 := bl_newZ w2 (.cells #[.string ⟨xo.toArray⟩, .string ⟨xc.toArray⟩, .bool x1, .bool x2, .bool x3, .bool x4, .bool x5] 68)
    have HO := Lib.hid (ho.later b3)
    have HL := Lib.hid (loneS_new (vals := entVals) (T := 68) (w := w2) (r := ⟨xo, xc, ⟨x1, x2, x3, x4, x5⟩⟩) (cs := #[.string ⟨xo.toArray⟩, .string ⟨xc.toArray⟩, .bool x1, .bool x2, .bool x3, .bool x4, .bool x5]) rfl (B := w2.heap.size) rfl)
    have HNE : Hid (∀ g n c, u = .slice (some ⟨g, 0, none⟩) n c → w2.heap.size ≠ g) := fun g n c e => by
      subst e
      have h1 := ho.head.2.2.1
      omega
    have hz2 := b2.size
    have hz3 := b3.size
    have HI := Lib.hid (ent_insert (base := w1.heap.size) HO.out (by omega) hl hple HL.out HNE.out)
    have B3 := Lib.hid (below2Z B2.out b3)
    have hw1 : Hid (w.heap.size ≤ w1.heap.size) := by show _ ≤ _; omega
    clear ho b2 b3 hz2 hz3
    go_wp2_with fail
    refine HI.out.mono ?_
    rintro e w4 ⟨y, rfl, ho4, b4⟩
    have O4 := Lib.hid (ownS_low ho4 hw1.out)
    have B4 := Lib.hid (B3.out.trans (b4.mono hw1.out))
    clear b4 ho4
    go_wp2_with fail
    go_ret
    exact ⟨_, rfl, by rw [hid.out]; exact O4.out, B4.out⟩

end Go.Proofs.YthfkfonfiejbmaaGreat

end

section

/-
  LAYER 8, THE CODE: isFull; find, as one contract; Do.
-/
namespace Go.Proofs.YthfkfonfiejbmaaGreat
open Go.RowKit

theorem e7_cells {w : World} {B : Nat} {xo xc : List UInt8} {x1 x2 x3 x4 x5 : Bool} (h : w.heap[B]? = some (.cells #[.string ⟨xo.toArray⟩, .string ⟨xc.toArray⟩, .bool x1, .bool x2, .bool x3, .bool x4, .bool x5] 68 (0, 0))) : Cells7 w B 0 ⟨xo, xc, ⟨x1, x2, x3, x4, x5⟩⟩ :=
  ⟨cell_of_row w B 0 _ _ (0, 0) h, cell_of_row w B 1 _ _ (0, 0) h, cell_of_row w B 2 _ _ (0, 0) h, cell_of_row w B 3 _ _ (0, 0) h, cell_of_row w B 4 _ _ (0, 0) h, cell_of_row w B 5 _ _ (0, 0) h, cell_of_row w B 6 _ _ (0, 0) h⟩

theorem e7_frozen {w : World} {B : Nat} {cs : Array Value} (h : w.heap[B]? = some (.cells cs 68 (0, 0))) (j : Nat) : w.frozen? ⟨B, j, none⟩ = false := frozen_of_row w B j _ _ h

/-- An entry's item stored anew. -/
def setI (w : World) (B : Nat) (x1 x2 x3 x4 x5 : Bool) : World :=
  ((((w.setCell ⟨B, 2, none⟩ (.bool x1)).setCell ⟨B, 3, none⟩ (.bool x2)).setCell ⟨B, 4, none⟩ (.bool x3)).setCell ⟨B, 5, none⟩ (.bool x4)).setCell ⟨B, 6, none⟩ (.bool x5)

theorem e7_set {w : World} {B : Nat} {xo xc : List UInt8} {x1 x2 x3 x4 x5 : Bool} (h : w.heap[B]? = some (.cells #[.string ⟨xo.toArray⟩, .string ⟨xc.toArray⟩, .bool x1, .bool x2, .bool x3, .bool x4, .bool x5] 68 (0, 0))) (y1 y2 y3 y4 y5 : Bool) : (setI w B y1 y2 y3 y4 y5).heap[B]? = some (.cells #[.string ⟨xo.toArray⟩, .string ⟨xc.toArray⟩, .bool y1, .bool y2, .bool y3, .bool y4, .bool y5] 68 (0, 0)) :=
  heap_setCell_same _ B 6 _ _ (.bool y5) (heap_setCell_same _ B 5 _ _ (.bool y4) (heap_setCell_same _ B 4 _ _ (.bool y3) (heap_setCell_same _ B 3 _ _ (.bool y2) (heap_setCell_same w B 2 _ _ (.bool y1) h))))

theorem heap_set_otherR {w : World} {b c : Nat} {o : Obj} (h : w.heap[b]? = some o) (hne : c ≠ b) (j : Nat) (v : Value) : (w.setCell ⟨c, j, none⟩ v).heap[b]? = some o :=
  (heap_setCell_other w ⟨c, j, none⟩ b v (fun e => hne e.symm)).trans h

theorem e7_other {w : World} {B C : Nat} {o : Obj} (h : w.heap[C]? = some o) (hne : B ≠ C) (y1 y2 y3 y4 y5 : Bool) : (setI w B y1 y2 y3 y4 y5).heap[C]? = some o :=
  heap_set_otherR (heap_set_otherR (heap_set_otherR (heap_set_otherR (heap_set_otherR h hne 2 _) hne 3 _) hne 4 _) hne 5 _) hne 6 _

theorem setI_below {w w1 : World} {n B : Nat} (h : Below n w w1) (hB : n ≤ B) (y1 y2 y3 y4 y5 : Bool) : Below n w (setI w1 B y1 y2 y3 y4 y5) :=
  ((((h.setCell hB _).setCell hB _).setCell hB _).setCell hB _).setCell hB _

theorem heap_newR (w : World) (o : Obj) {B : Nat} (hB : B = w.heap.size) : (w.alloc o).heap[B]? = some o := by
  subst hB
  exact heap_alloc_new w o

theorem heap_ltR {w : World} {B : Nat} {o : Obj} (h : w.heap[B]? = some o) : B < w.heap.size := (Array.getElem?_eq_some_iff.1 h).1

theorem heap_laterR {w w' : World} {B : Nat} {o : Obj} (h : w.heap[B]? = some o) (hb : Below w.heap.size w w') : w'.heap[B]? = some o := (hb.block B (heap_ltR h)).trans h

set_option maxHeartbeats 800000 in
set_option maxRecDepth 100000 in
theorem risFull_any {w : World} {v : Value} {l : List Ent} (hv : Ents w v l) (hl : l.length ≤ 1000) (o : List UInt8) {r : Bool} (h : Hid (decide (16 ≤ (roOf l o).length) = r)) :
    Calls Tryz.prog 65 #[v, .string ⟨o.toArray⟩] w fun e w' => e = .returned (.bool r) ∧ Below w.heap.size w w' := by
  have HO := Lib.hid (of_any hv (by omega) o)
  obtain ⟨a, cap, rfl, hm⟩ := hv.open'
  have hle := roOf_le l o
  clear hv
  go_enter Tryz.func65, Tryz.ntmps65
  go_wp2_with fail
  refine HO.out.mono ?_
  rintro e w1 ⟨u, rfl, ho, b1⟩
  have B1 := Lib.hid b1
  have ht : decide ((16 : Int) ≤ ((roOf l o).length : Int)) = r := by rw [← h.out]; congr 1; apply propext; omega
  rcases ho with ⟨_, ⟨rfl, h0⟩ | ⟨g, cp, cur, rfl, -, -, -, -, -, -⟩⟩
  · rw [h0] at ht
    clear b1
    go_wp2_with fail
    go_ret
    exact ⟨by first | (rw [← ht]; rfl) | rfl | simp_all, B1.out⟩
  · clear b1
    go_wp2_with fail
    go_ret
    exact ⟨by first | rfl | (rw [← ht]), B1.out⟩

/-- find, of a pair: what stands there, or nothing in it. -/
theorem rfind_eq {w : World} {v : Value} {l : List Ent} (hv : Ents w v l) (hr : Rise l) (xo xc : List UInt8) {i1 i2 i3 i4 i5 q : Bool} (hi : Hid (roIt l xo xc = ⟨i1, i2, i3, i4, i5⟩)) (hq : Hid ((l.any fun x => entIs x ⟨xo, xc, It.zero⟩) = q)) :
    Calls Tryz.prog 62 #[v, .agg #[.string ⟨xo.toArray⟩, .string ⟨xc.toArray⟩, .bool false, .bool false, .bool false, .bool false, .bool false]] w fun e w' => e = .returned (.tuple #[.agg #[.string ⟨xo.toArray⟩, .string ⟨xc.toArray⟩, .bool i1, .bool i2, .bool i3, .bool i4, .bool i5], .bool q]) ∧ Below w.heap.size w w' := by
  have hq0 := hq.out
  cases q with
  | false =>
    have h0 : roIt l xo xc = It.zero := roIt_none fun e he h' => by
      rw [List.any_eq_false] at hq0
      exact hq0 e he (entIs_iff.2 h')
    have h1 := hi.out
    rw [h0] at h1
    injection h1 with e1 e2 e3 e4 e5
    subst e1 e2 e3 e4 e5
    exact find_no hv hr xo xc false false false false false hq0
  | true =>
    have ht := (entPlace_there hr ⟨xo, xc, ⟨false, false, false, false, false⟩⟩).trans hq0
    rw [Bool.and_eq_true, decide_eq_true_eq] at ht
    obtain ⟨hlt, hs⟩ := ht
    obtain ⟨⟨fo, fc, ⟨j1, j2, j3, j4, j5⟩⟩, he⟩ : ∃ r, l.getD (entPlace l ⟨xo, xc, ⟨false, false, false, false, false⟩⟩) Ent.zero = r := ⟨_, rfl⟩
    rw [he] at hs
    obtain ⟨ho, hc⟩ := entIs_iff.1 hs
    simp only at ho hc
    subst ho hc
    have hm : (⟨fo, fc, ⟨j1, j2, j3, j4, j5⟩⟩ : Ent) ∈ l := by rw [← he, getD_at hlt]; exact List.getElem_mem hlt
    have h1 := roIt_mem hr hm
    simp only at h1
    rw [h1] at hi
    have h2 := hi.out
    injection h2 with e1 e2 e3 e4 e5
    subst e1 e2 e3 e4 e5
    exact find_yes hv hr fo fc false false false false false hlt he hs

set_option maxHeartbeats 3200000 in
set_option maxRecDepth 100000 in
theorem rdoA {w : World} {v : Value} {l : List Ent} (hv : Ents w v l) (hs : ShortE l) (hl : l.length ≤ 1000) (u o : List UInt8) (hu : u.length ≤ 4294967296) (ho : o.length ≤ 4294967296) (k : Int) (hm : roMayC l = false) :
    Calls Tryz.prog 28 #[v, .int .i64 k, .string ⟨u.toArray⟩, .string ⟨o.toArray⟩] w fun e w' => ∃ v', e = .returned (.tuple #[v', .int .i64 1]) ∧ Ents w' v' l ∧ Below w.heap.size w w' := by
  have HV := Lib.hid hv
  have HM := Lib.hid (romay_any hv hs (Lib.hid hm))
  obtain ⟨a, cap, rfl, hmx⟩ := hv.open'
  clear hv hs hm
  go_enter Tryz.func28, Tryz.ntmps28
  go_wp2_with fail
  refine HM.out.mono ?_
  rintro e w1 ⟨rfl, b1⟩
  have HB := Lib.hid b1
  clear b1
  go_wp2_with fail
  go_ret2
  exact ⟨_, rfl, HV.out.later HB.out, HB.out⟩

set_option maxHeartbeats 3200000 in
set_option maxRecDepth 100000 in
theorem rdoB {w : World} {v : Value} {l : List Ent} (hv : Ents w v l) (hs : ShortE l) (hl : l.length ≤ 1000) (u o : List UInt8) (hu : u.length ≤ 4294967296) (ho : o.length ≤ 4294967296) (k : Int) (hm : roMayC l = true) (h1 : idIs u = false) :
    Calls Tryz.prog 28 #[v, .int .i64 k, .string ⟨u.toArray⟩, .string ⟨o.toArray⟩] w fun e w' => ∃ v', e = .returned (.tuple #[v', .int .i64 1]) ∧ Ents w' v' l ∧ Below w.heap.size w w' := by
  have HV := Lib.hid hv
  have HM := Lib.hid (romay_any hv hs (Lib.hid hm))
  have I1 := Lib.hid (is_eq u hu (Lib.hid h1))
  clear h1
  obtain ⟨a, cap, rfl, hmx⟩ := hv.open'
  clear hv hs hm
  go_enter Tryz.func28, Tryz.ntmps28
  go_wp2_with fail
  refine HM.out.mono ?_
  rintro e w1 ⟨rfl, b1⟩
  have HB := Lib.hid b1
  clear b1
  go_wp2_with fail
  refine (I1.out _).mono ?_
  rintro e w2 ⟨rfl, b⟩
  replace HB := Lib.hid (below2S HB.out b)
  clear b
  go_wp2_with fail
  go_ret2
  exact ⟨_, rfl, HV.out.later HB.out, HB.out⟩

set_option maxHeartbeats 3200000 in
set_option maxRecDepth 100000 in
theorem rdoC {w : World} {v : Value} {l : List Ent} (hv : Ents w v l) (hs : ShortE l) (hl : l.length ≤ 1000) (u o : List UInt8) (hu : u.length ≤ 4294967296) (ho : o.length ≤ 4294967296) (k : Int) (hm : roMayC l = true) (h1 : idIs u = true) (h2 : idIs o = false) :
    Calls Tryz.prog 28 #[v, .int .i64 k, .string ⟨u.toArray⟩, .string ⟨o.toArray⟩] w fun e w' => ∃ v', e = .returned (.tuple #[v', .int .i64 1]) ∧ Ents w' v' l ∧ Below w.heap.size w w' := by
  have HV := Lib.hid hv
  have HM := Lib.hid (romay_any hv hs (Lib.hid hm))
  have I1 := Lib.hid (is_eq u hu (Lib.hid h1))
  have I2 := Lib.hid (is_eq o ho (Lib.hid h2))
  clear h1 h2
  obtain ⟨a, cap, rfl, hmx⟩ := hv.open'
  clear hv hs hm
  go_enter Tryz.func28, Tryz.ntmps28
  go_wp2_with fail
  refine HM.out.mono ?_
  rintro e w1 ⟨rfl, b1⟩
  have HB := Lib.hid b1
  clear b1
  go_wp2_with fail
  refine (I1.out _).mono ?_
  rintro e w2 ⟨rfl, b⟩
  replace HB := Lib.hid (below2S HB.out b)
  clear b
  go_wp2_with fail
  refine (I2.out _).mono ?_
  rintro e w3 ⟨rfl, b⟩
  replace HB := Lib.hid (below2S HB.out b)
  clear b
  go_wp2_with fail
  go_ret2
  exact ⟨_, rfl, HV.out.later HB.out, HB.out⟩

set_option maxHeartbeats 3200000 in
set_option maxRecDepth 100000 in
theorem rdoD {w : World} {v : Value} {l : List Ent} (hv : Ents w v l) (hs : ShortE l) (hl : l.length ≤ 1000) (u o : List UInt8) (hu : u.length ≤ 4294967296) (ho : o.length ≤ 4294967296) (k : Int) (hm : roMayC l = true) (h1 : idIs u = true) (h2 : idIs o = true) (h3 : (u == o) = true) :
    Calls Tryz.prog 28 #[v, .int .i64 k, .string ⟨u.toArray⟩, .string ⟨o.toArray⟩] w fun e w' => ∃ v', e = .returned (.tuple #[v', .int .i64 1]) ∧ Ents w' v' l ∧ Below w.heap.size w w' := by
  have HV := Lib.hid hv
  have HM := Lib.hid (romay_any hv hs (Lib.hid hm))
  have I1 := Lib.hid (is_eq u hu (Lib.hid h1))
  have I2 := Lib.hid (is_eq o ho (Lib.hid h2))
  clear h1 h2
  obtain ⟨a, cap, rfl, hmx⟩ := hv.open'
  clear hv hs hm
  go_enter Tryz.func28, Tryz.ntmps28
  go_wp2_with fail
  refine HM.out.mono ?_
  rintro e w1 ⟨rfl, b1⟩
  have HB := Lib.hid b1
  clear b1
  go_wp2_with fail
  refine (I1.out _).mono ?_
  rintro e w2 ⟨rfl, b⟩
  replace HB := Lib.hid (below2S HB.out b)
  clear b
  go_wp2_with fail
  refine (I2.out _).mono ?_
  rintro e w3 ⟨rfl, b⟩
  replace HB := Lib.hid (below2S HB.out b)
  clear b
  go_wp2_with fail
  go_ret2
  exact ⟨_, rfl, HV.out.later HB.out, HB.out⟩

set_option maxHeartbeats 3200000 in
set_option maxRecDepth 100000 in
theorem rdoE {w : World} {v : Value} {l : List Ent} (hv : Ents w v l) (hs : ShortE l) (hl : l.length ≤ 1000) (u o : List UInt8) (hu : u.length ≤ 4294967296) (ho : o.length ≤ 4294967296) (k : Int) (hm : roMayC l = true) (h1 : idIs u = true) (h2 : idIs o = true) (h3 : (u == o) = false) {i1 i2 i3 i4 i5 j1 j2 j3 j4 j5 q q' a1 a2 a3 a4 a5 b1 b2 b3 b4 b5 : Bool} {er : Nat} (hi : roIt l u o = ⟨i1, i2, i3, i4, i5⟩) (hj : roIt l o u = ⟨j1, j2, j3, j4, j5⟩) (hq : (l.any fun x => entIs x ⟨u, o, It.zero⟩) = q) (hq' : (l.any fun x => entIs x ⟨o, u, It.zero⟩) = q') (hk : (Lit.int .i64 k).wf = true) (hact : suAct ⟨i1, i2, i3, i4, i5⟩ ⟨j1, j2, j3, j4, j5⟩ k = (⟨a1, a2, a3, a4, a5⟩, ⟨b1, b2, b3, b4, b5⟩, er)) (her : er ≠ 0) :
    Calls Tryz.prog 28 #[v, .int .i64 k, .string ⟨u.toArray⟩, .string ⟨o.toArray⟩] w fun e w' => ∃ v', e = .returned (.tuple #[v', .int .i64 (er : Int)]) ∧ Ents w' v' l ∧ Below w.heap.size w w' := by
  have t9 : ((er : Int) != 0) = true := by rw [bne_iff_ne]; omega
  clear her
  have HV := Lib.hid hv
  have HM := Lib.hid (romay_any hv hs (Lib.hid hm))
  have HR := Lib.hid (roMay_rise hm)
  have I1 := Lib.hid (is_eq u hu (Lib.hid h1))
  have I2 := Lib.hid (is_eq o ho (Lib.hid h2))
  have E1 := Lib.hid (entry_any u o)
  have E2 := Lib.hid (entry_any o u)
  have FI := Lib.hid hi
  have FJ := Lib.hid hj
  have FQ := Lib.hid hq
  have FQ' := Lib.hid hq'
  have HA := Lib.hid (sact_any i1 i2 i3 i4 i5 j1 j2 j3 j4 j5 k hk)
  rw [hact] at HA
  obtain ⟨a, cap, rfl, hmx⟩ := hv.open'
  clear hv hs hm h1 h2 hi hj hq hq' hk hact
  go_enter Tryz.func28, Tryz.ntmps28
  go_wp2_with fail
  refine HM.out.mono ?_
  rintro e w1 ⟨rfl, b1⟩
  have HB := Lib.hid b1
  clear b1
  go_wp2_with fail
  refine (I1.out _).mono ?_
  rintro e w2 ⟨rfl, b⟩
  replace HB := Lib.hid (below2S HB.out b)
  clear b
  go_wp2_with fail
  refine (I2.out _).mono ?_
  rintro e w3 ⟨rfl, b⟩
  replace HB := Lib.hid (below2S HB.out b)
  clear b
  go_wp2_with fail
  refine (E1.out _).mono ?_
  rintro e w4 ⟨rfl, b⟩
  replace HB := Lib.hid (below2S HB.out b)
  clear b
  go_wp2_with fail
  refine (rfind_eq (HV.out.later HB.out) HR.out u o FI FQ).mono ?_
  rintro e w5 ⟨rfl, b⟩
  have bb := bl_newZ w5 (.cells #[.string ⟨u.toArray⟩, .string ⟨o.toArray⟩, .bool i1, .bool i2, .bool i3, .bool i4, .bool i5] 68)
  have X10 := Lib.hid (heap_newR w5 (.cells #[.string ⟨u.toArray⟩, .string ⟨o.toArray⟩, .bool i1, .bool i2, .bool i3, .bool i4, .bool i5] 68) rfl)
  have HS5 := Lib.hid (below2S HB.out b).size
  replace HB := Lib.hid (below2S (below2S HB.out b) bb)
  clear b bb
  go_wp2_with fail
  generalize hW : w5.alloc (.cells #[.string ⟨u.toArray⟩, .string ⟨o.toArray⟩, .bool i1, .bool i2, .bool i3, .bool i4, .bool i5] 68) = w6 at HB X10 ⊢
  generalize hN : w5.heap.size = n5 at X10 HS5 ⊢
  clear hW hN
  refine (E2.out _).mono ?_
  rintro e w7 ⟨rfl, b⟩
  replace X10 := Lib.hid (heap_laterR X10.out b)
  replace HB := Lib.hid (below2S HB.out b)
  clear b
  go_wp2_with fail
  refine (rfind_eq (HV.out.later HB.out) HR.out o u FJ FQ').mono ?_
  rintro e w8 ⟨rfl, b⟩
  have bb := bl_newZ w8 (.cells #[.string ⟨o.toArray⟩, .string ⟨u.toArray⟩, .bool j1, .bool j2, .bool j3, .bool j4, .bool j5] 68)
  have X12 := Lib.hid (heap_newR w8 (.cells #[.string ⟨o.toArray⟩, .string ⟨u.toArray⟩, .bool j1, .bool j2, .bool j3, .bool j4, .bool j5] 68) rfl)
  have HS8 := Lib.hid (below2S HB.out b).size
  replace X10 := Lib.hid (heap_laterR X10.out b)
  have hne := Lib.hid (heap_ltR X10.out)
  replace X10 := Lib.hid (heap_laterR X10.out bb)
  replace HB := Lib.hid (below2S (below2S HB.out b) bb)
  clear b bb
  obtain ⟨c0, c1, c2, c3, c4, c5, c6⟩ := e7_cells X10.out
  obtain ⟨d0, d1, d2, d3, d4, d5, d6⟩ := e7_cells X12.out
  simp only [Nat.zero_add] at c0 c1 c2 c3 c4 c5 c6 d0 d1 d2 d3 d4 d5 d6
  go_wp2_with fail
  generalize hW : w8.alloc (.cells #[.string ⟨o.toArray⟩, .string ⟨u.toArray⟩, .bool j1, .bool j2, .bool j3, .bool j4, .bool j5] 68) = w9 at HB X10 X12 c0 c1 c2 c3 c4 c5 c6 d0 d1 d2 d3 d4 d5 d6 ⊢
  generalize hN : w8.heap.size = n8 at X12 HS8 hne d0 d1 d2 d3 d4 d5 d6 ⊢
  clear hW hN c0 c1 c2 c3 c4 c5 c6 d0 d1 d2 d3 d4 d5 d6
  refine (HA.out _).mono ?_
  rintro e w10 ⟨rfl, b⟩
  replace X10 := Lib.hid (heap_laterR X10.out b)
  replace X12 := Lib.hid (heap_laterR X12.out b)
  replace HB := Lib.hid (below2S HB.out b)
  clear b
  have hne1 : n5 ≠ n8 := by have := hne.out; omega
  have Y12 := e7_other X12.out hne1 a1 a2 a3 a4 a5
  have Y10 := e7_set X10.out a1 a2 a3 a4 a5
  have Z12 := Lib.hid (e7_set Y12 b1 b2 b3 b4 b5)
  have Z10 := Lib.hid (e7_other Y10 hne1.symm b1 b2 b3 b4 b5)
  have ZB := Lib.hid (setI_below (setI_below HB.out HS5.out a1 a2 a3 a4 a5) HS8.out b1 b2 b3 b4 b5)
  obtain ⟨c0, c1, c2, c3, c4, c5, c6⟩ := e7_cells X10.out
  obtain ⟨d0, d1, d2, d3, d4, d5, d6⟩ := e7_cells Y12
  simp only [Nat.zero_add] at c0 c1 c2 c3 c4 c5 c6 d0 d1 d2 d3 d4 d5 d6
  have f2 := e7_frozen X10.out 2
  have f3 := e7_frozen X10.out 3
  have f4 := e7_frozen X10.out 4
  have f5 := e7_frozen X10.out 5
  have f6 := e7_frozen X10.out 6
  have g2 := e7_frozen Y12 2
  have g3 := e7_frozen Y12 3
  have g4 := e7_frozen Y12 4
  have g5 := e7_frozen Y12 5
  have g6 := e7_frozen Y12 6
  unfold setI at d0 d1 d2 d3 d4 d5 d6 g2 g3 g4 g5 g6
  clear Y10 Y12
  unfold actE
  obtain ⟨e0, e1, e2, e3, e4, e5, e6⟩ := e7_cells Z10.out
  obtain ⟨p0, p1, p2, p3, p4, p5, p6⟩ := e7_cells Z12.out
  simp only [Nat.zero_add] at e0 e1 e2 e3 e4 e5 e6 p0 p1 p2 p3 p4 p5 p6
  unfold setI at e0 e1 e2 e3 e4 e5 e6 p0 p1 p2 p3 p4 p5 p6
  go_wp2_with fail
  go_ret2
  exact ⟨_, rfl, HV.out.later ZB.out, ZB.out⟩

end Go.Proofs.YthfkfonfiejbmaaGreat

end

section

/-
  LAYER 8, THE CODE: Do, where it does.
-/
namespace Go.Proofs.YthfkfonfiejbmaaGreat
open Go.RowKit

set_option maxHeartbeats 3200000 in
set_option maxRecDepth 100000 in
theorem rdoF1 {w : World} {v : Value} {l : List Ent} (hv : Ents w v l) (hs : ShortE l) (hl : l.length ≤ 900) (u o : List UInt8) (hu : u.length ≤ 4294967296) (ho : o.length ≤ 4294967296) (k : Int) (hm : roMayC l = true) (h1 : idIs u = true) (h2 : idIs o = true) (h3 : (u == o) = false) {i1 i2 i3 i4 i5 j1 j2 j3 j4 j5 q q' a1 a2 a3 a4 a5 b1 b2 b3 b4 b5 : Bool} (hi : roIt l u o = ⟨i1, i2, i3, i4, i5⟩) (hj : roIt l o u = ⟨j1, j2, j3, j4, j5⟩) (hq : (l.any fun x => entIs x ⟨u, o, It.zero⟩) = q) (hq' : (l.any fun x => entIs x ⟨o, u, It.zero⟩) = q') (hk : (Lit.int .i64 k).wf = true) (hact : suAct ⟨i1, i2, i3, i4, i5⟩ ⟨j1, j2, j3, j4, j5⟩ k = (⟨a1, a2, a3, a4, a5⟩, ⟨b1, b2, b3, b4, b5⟩, 0)) (hf : q = false) (gu : decide (16 ≤ (roOf l u).length) = true) :
    Calls Tryz.prog 28 #[v, .int .i64 k, .string ⟨u.toArray⟩, .string ⟨o.toArray⟩] w fun e w' => ∃ v', e = .returned (.tuple #[v', .int .i64 5]) ∧ Ents w' v' l ∧ Below w.heap.size w w' := by
  subst hf
  have GU := Lib.hid gu
  clear gu
  have HV := Lib.hid hv
  have HM := Lib.hid (romay_any hv hs (Lib.hid hm))
  have HR := Lib.hid (roMay_rise hm)
  have I1 := Lib.hid (is_eq u hu (Lib.hid h1))
  have I2 := Lib.hid (is_eq o ho (Lib.hid h2))
  have E1 := Lib.hid (entry_any u o)
  have E2 := Lib.hid (entry_any o u)
  have FI := Lib.hid hi
  have FJ := Lib.hid hj
  have FQ := Lib.hid hq
  have FQ' := Lib.hid hq'
  have HA := Lib.hid (sact_any i1 i2 i3 i4 i5 j1 j2 j3 j4 j5 k hk)
  rw [hact] at HA
  obtain ⟨a, cap, rfl, hmx⟩ := hv.open'
  clear hv hs hm h1 h2 hi hj hq hq' hk hact
  go_enter Tryz.func28, Tryz.ntmps28
  go_wp2_with fail
  refine HM.out.mono ?_
  rintro e w1 ⟨rfl, b1⟩
  have HB := Lib.hid b1
  clear b1
  go_wp2_with fail
  refine (I1.out _).mono ?_
  rintro e w2 ⟨rfl, b⟩
  replace HB := Lib.hid (below2S HB.out b)
  clear b
  go_wp2_with fail
  refine (I2.out _).mono ?_
  rintro e w3 ⟨rfl, b⟩
  replace HB := Lib.hid (below2S HB.out b)
  clear b
  go_wp2_with fail
  refine (E1.out _).mono ?_
  rintro e w4 ⟨rfl, b⟩
  replace HB := Lib.hid (below2S HB.out b)
  clear b
  go_wp2_with fail
  refine (rfind_eq (HV.out.later HB.out) HR.out u o FI FQ).mono ?_
  rintro e w5 ⟨rfl, b⟩
  have bb := bl_newZ w5 (.cells #[.string ⟨u.toArray⟩, .string ⟨o.toArray⟩, .bool i1, .bool i2, .bool i3, .bool i4, .bool i5] 68)
  have X10 := Lib.hid (heap_newR w5 (.cells #[.string ⟨u.toArray⟩, .string ⟨o.toArray⟩, .bool i1, .bool i2, .bool i3, .bool i4, .bool i5] 68) rfl)
  have HS5 := Lib.hid (below2S HB.out b).size
  replace HB := Lib.hid (below2S (below2S HB.out b) bb)
  clear b bb
  go_wp2_with fail
  generalize hW : w5.alloc (.cells #[.string ⟨u.toArray⟩, .string ⟨o.toArray⟩, .bool i1, .bool i2, .bool i3, .bool i4, .bool i5] 68) = w6 at HB X10 ⊢
  generalize hN : w5.heap.size = n5 at X10 HS5 ⊢
  clear hW hN
  refine (E2.out _).mono ?_
  rintro e w7 ⟨rfl, b⟩
  replace X10 := Lib.hid (heap_laterR X10.out b)
  replace HB := Lib.hid (below2S HB.out b)
  clear b
  go_wp2_with fail
  refine (rfind_eq (HV.out.later HB.out) HR.out o u FJ FQ').mono ?_
  rintro e w8 ⟨rfl, b⟩
  have bb := bl_newZ w8 (.cells #[.string ⟨o.toArray⟩, .string ⟨u.toArray⟩, .bool j1, .bool j2, .bool j3, .bool j4, .bool j5] 68)
  have X12 := Lib.hid (heap_newR w8 (.cells #[.string ⟨o.toArray⟩, .string ⟨u.toArray⟩, .bool j1, .bool j2, .bool j3, .bool j4, .bool j5] 68) rfl)
  have HS8 := Lib.hid (below2S HB.out b).size
  replace X10 := Lib.hid (heap_laterR X10.out b)
  have hne := Lib.hid (heap_ltR X10.out)
  replace X10 := Lib.hid (heap_laterR X10.out bb)
  replace HB := Lib.hid (below2S (below2S HB.out b) bb)
  clear b bb
  obtain ⟨c0, c1, c2, c3, c4, c5, c6⟩ := e7_cells X10.out
  obtain ⟨d0, d1, d2, d3, d4, d5, d6⟩ := e7_cells X12.out
  simp only [Nat.zero_add] at c0 c1 c2 c3 c4 c5 c6 d0 d1 d2 d3 d4 d5 d6
  go_wp2_with fail
  generalize hW : w8.alloc (.cells #[.string ⟨o.toArray⟩, .string ⟨u.toArray⟩, .bool j1, .bool j2, .bool j3, .bool j4, .bool j5] 68) = w9 at HB X10 X12 c0 c1 c2 c3 c4 c5 c6 d0 d1 d2 d3 d4 d5 d6 ⊢
  generalize hN : w8.heap.size = n8 at X12 HS8 hne d0 d1 d2 d3 d4 d5 d6 ⊢
  clear hW hN c0 c1 c2 c3 c4 c5 c6 d0 d1 d2 d3 d4 d5 d6
  refine (HA.out _).mono ?_
  rintro e w10 ⟨rfl, b⟩
  replace X10 := Lib.hid (heap_laterR X10.out b)
  replace X12 := Lib.hid (heap_laterR X12.out b)
  replace HB := Lib.hid (below2S HB.out b)
  clear b
  have hne1 : n5 ≠ n8 := by have := hne.out; omega
  have Y12 := e7_other X12.out hne1 a1 a2 a3 a4 a5
  have Y10 := e7_set X10.out a1 a2 a3 a4 a5
  have Z12 := Lib.hid (e7_set Y12 b1 b2 b3 b4 b5)
  have Z10 := Lib.hid (e7_other Y10 hne1.symm b1 b2 b3 b4 b5)
  have ZB := Lib.hid (setI_below (setI_below HB.out HS5.out a1 a2 a3 a4 a5) HS8.out b1 b2 b3 b4 b5)
  obtain ⟨c0, c1, c2, c3, c4, c5, c6⟩ := e7_cells X10.out
  obtain ⟨d0, d1, d2, d3, d4, d5, d6⟩ := e7_cells Y12
  simp only [Nat.zero_add] at c0 c1 c2 c3 c4 c5 c6 d0 d1 d2 d3 d4 d5 d6
  have f2 := e7_frozen X10.out 2
  have f3 := e7_frozen X10.out 3
  have f4 := e7_frozen X10.out 4
  have f5 := e7_frozen X10.out 5
  have f6 := e7_frozen X10.out 6
  have g2 := e7_frozen Y12 2
  have g3 := e7_frozen Y12 3
  have g4 := e7_frozen Y12 4
  have g5 := e7_frozen Y12 5
  have g6 := e7_frozen Y12 6
  unfold setI at d0 d1 d2 d3 d4 d5 d6 g2 g3 g4 g5 g6
  clear Y10 Y12
  unfold actE
  obtain ⟨e0, e1, e2, e3, e4, e5, e6⟩ := e7_cells Z10.out
  obtain ⟨p0, p1, p2, p3, p4, p5, p6⟩ := e7_cells Z12.out
  simp only [Nat.zero_add] at e0 e1 e2 e3 e4 e5 e6 p0 p1 p2 p3 p4 p5 p6
  unfold setI at e0 e1 e2 e3 e4 e5 e6 p0 p1 p2 p3 p4 p5 p6
  replace X10 := Z10
  replace X12 := Z12
  replace HB := ZB
  clear Z10 Z12 ZB
  go_wp2_with fail
  clear c0 c1 c2 c3 c4 c5 c6 d0 d1 d2 d3 d4 d5 d6 f2 f3 f4 f5 f6 g2 g3 g4 g5 g6 e0 e1 e2 e3 e4 e5 e6 p0 p1 p2 p3 p4 p5 p6 HA FI FJ FQ FQ' HM I1 I2 E1 E2
  refine (risFull_any (HV.out.later HB.out) (by omega) u GU).mono ?_
  rintro e w12 ⟨rfl, b⟩
  replace X10 := Lib.hid (heap_laterR X10.out b)
  replace X12 := Lib.hid (heap_laterR X12.out b)
  replace HB := Lib.hid (below2S HB.out b)
  clear b
  go_wp2_with fail
  go_ret2
  exact ⟨_, rfl, HV.out.later HB.out, HB.out⟩

set_option maxHeartbeats 3200000 in
set_option maxRecDepth 100000 in
theorem rdoF2 {w : World} {v : Value} {l : List Ent} (hv : Ents w v l) (hs : ShortE l) (hl : l.length ≤ 900) (u o : List UInt8) (hu : u.length ≤ 4294967296) (ho : o.length ≤ 4294967296) (k : Int) (hm : roMayC l = true) (h1 : idIs u = true) (h2 : idIs o = true) (h3 : (u == o) = false) {i1 i2 i3 i4 i5 j1 j2 j3 j4 j5 q q' a1 a2 a3 a4 a5 b1 b2 b3 b4 b5 : Bool} (hi : roIt l u o = ⟨i1, i2, i3, i4, i5⟩) (hj : roIt l o u = ⟨j1, j2, j3, j4, j5⟩) (hq : (l.any fun x => entIs x ⟨u, o, It.zero⟩) = q) (hq' : (l.any fun x => entIs x ⟨o, u, It.zero⟩) = q') (hk : (Lit.int .i64 k).wf = true) (hact : suAct ⟨i1, i2, i3, i4, i5⟩ ⟨j1, j2, j3, j4, j5⟩ k = (⟨a1, a2, a3, a4, a5⟩, ⟨b1, b2, b3, b4, b5⟩, 0)) (hf : q = false) (gu : decide (16 ≤ (roOf l u).length) = false) (go : decide (16 ≤ (roOf l o).length) = true) :
    Calls Tryz.prog 28 #[v, .int .i64 k, .string ⟨u.toArray⟩, .string ⟨o.toArray⟩] w fun e w' => ∃ v', e = .returned (.tuple #[v', .int .i64 5]) ∧ Ents w' v' l ∧ Below w.heap.size w w' := by
  subst hf
  have GU := Lib.hid gu
  have GO := Lib.hid go
  clear gu go
  have HV := Lib.hid hv
  have HM := Lib.hid (romay_any hv hs (Lib.hid hm))
  have HR := Lib.hid (roMay_rise hm)
  have I1 := Lib.hid (is_eq u hu (Lib.hid h1))
  have I2 := Lib.hid (is_eq o ho (Lib.hid h2))
  have E1 := Lib.hid (entry_any u o)
  have E2 := Lib.hid (entry_any o u)
  have FI := Lib.hid hi
  have FJ := Lib.hid hj
  have FQ := Lib.hid hq
  have FQ' := Lib.hid hq'
  have HA := Lib.hid (sact_any i1 i2 i3 i4 i5 j1 j2 j3 j4 j5 k hk)
  rw [hact] at HA
  obtain ⟨a, cap, rfl, hmx⟩ := hv.open'
  clear hv hs hm h1 h2 hi hj hq hq' hk hact
  go_enter Tryz.func28, Tryz.ntmps28
  go_wp2_with fail
  refine HM.out.mono ?_
  rintro e w1 ⟨rfl, b1⟩
  have HB := Lib.hid b1
  clear b1
  go_wp2_with fail
  refine (I1.out _).mono ?_
  rintro e w2 ⟨rfl, b⟩
  replace HB := Lib.hid (below2S HB.out b)
  clear b
  go_wp2_with fail
  refine (I2.out _).mono ?_
  rintro e w3 ⟨rfl, b⟩
  replace HB := Lib.hid (below2S HB.out b)
  clear b
  go_wp2_with fail
  refine (E1.out _).mono ?_
  rintro e w4 ⟨rfl, b⟩
  replace HB := Lib.hid (below2S HB.out b)
  clear b
  go_wp2_with fail
  refine (rfind_eq (HV.out.later HB.out) HR.out u o FI FQ).mono ?_
  rintro e w5 ⟨rfl, b⟩
  have bb := bl_newZ w5 (.cells #[.string ⟨u.toArray⟩, .string ⟨o.toArray⟩, .bool i1, .bool i2, .bool i3, .bool i4, .bool i5] 68)
  have X10 := Lib.hid (heap_newR w5 (.cells #[.string ⟨u.toArray⟩, .string ⟨o.toArray⟩, .bool i1, .bool i2, .bool i3, .bool i4, .bool i5] 68) rfl)
  have HS5 := Lib.hid (below2S HB.out b).size
  replace HB := Lib.hid (below2S (below2S HB.out b) bb)
  clear b bb
  go_wp2_with fail
  generalize hW : w5.alloc (.cells #[.string ⟨u.toArray⟩, .string ⟨o.toArray⟩, .bool i1, .bool i2, .bool i3, .bool i4, .bool i5] 68) = w6 at HB X10 ⊢
  generalize hN : w5.heap.size = n5 at X10 HS5 ⊢
  clear hW hN
  refine (E2.out _).mono ?_
  rintro e w7 ⟨rfl, b⟩
  replace X10 := Lib.hid (heap_laterR X10.out b)
  replace HB := Lib.hid (below2S HB.out b)
  clear b
  go_wp2_with fail
  refine (rfind_eq (HV.out.later HB.out) HR.out o u FJ FQ').mono ?_
  rintro e w8 ⟨rfl, b⟩
  have bb := bl_newZ w8 (.cells #[.string ⟨o.toArray⟩, .string ⟨u.toArray⟩, .bool j1, .bool j2, .bool j3, .bool j4, .bool j5] 68)
  have X12 := Lib.hid (heap_newR w8 (.cells #[.string ⟨o.toArray⟩, .string ⟨u.toArray⟩, .bool j1, .bool j2, .bool j3, .bool j4, .bool j5] 68) rfl)
  have HS8 := Lib.hid (below2S HB.out b).size
  replace X10 := Lib.hid (heap_laterR X10.out b)
  have hne := Lib.hid (heap_ltR X10.out)
  replace X10 := Lib.hid (heap_laterR X10.out bb)
  replace HB := Lib.hid (below2S (below2S HB.out b) bb)
  clear b bb
  obtain ⟨c0, c1, c2, c3, c4, c5, c6⟩ := e7_cells X10.out
  obtain ⟨d0, d1, d2, d3, d4, d5, d6⟩ := e7_cells X12.out
  simp only [Nat.zero_add] at c0 c1 c2 c3 c4 c5 c6 d0 d1 d2 d3 d4 d5 d6
  go_wp2_with fail
  generalize hW : w8.alloc (.cells #[.string ⟨o.toArray⟩, .string ⟨u.toArray⟩, .bool j1, .bool j2, .bool j3, .bool j4, .bool j5] 68) = w9 at HB X10 X12 c0 c1 c2 c3 c4 c5 c6 d0 d1 d2 d3 d4 d5 d6 ⊢
  generalize hN : w8.heap.size = n8 at X12 HS8 hne d0 d1 d2 d3 d4 d5 d6 ⊢
  clear hW hN c0 c1 c2 c3 c4 c5 c6 d0 d1 d2 d3 d4 d5 d6
  refine (HA.out _).mono ?_
  rintro e w10 ⟨rfl, b⟩
  replace X10 := Lib.hid (heap_laterR X10.out b)
  replace X12 := Lib.hid (heap_laterR X12.out b)
  replace HB := Lib.hid (below2S HB.out b)
  clear b
  have hne1 : n5 ≠ n8 := by have := hne.out; omega
  have Y12 := e7_other X12.out hne1 a1 a2 a3 a4 a5
  have Y10 := e7_set X10.out a1 a2 a3 a4 a5
  have Z12 := Lib.hid (e7_set Y12 b1 b2 b3 b4 b5)
  have Z10 := Lib.hid (e7_other Y10 hne1.symm b1 b2 b3 b4 b5)
  have ZB := Lib.hid (setI_below (setI_below HB.out HS5.out a1 a2 a3 a4 a5) HS8.out b1 b2 b3 b4 b5)
  obtain ⟨c0, c1, c2, c3, c4, c5, c6⟩ := e7_cells X10.out
  obtain ⟨d0, d1, d2, d3, d4, d5, d6⟩ := e7_cells Y12
  simp only [Nat.zero_add] at c0 c1 c2 c3 c4 c5 c6 d0 d1 d2 d3 d4 d5 d6
  have f2 := e7_frozen X10.out 2
  have f3 := e7_frozen X10.out 3
  have f4 := e7_frozen X10.out 4
  have f5 := e7_frozen X10.out 5
  have f6 := e7_frozen X10.out 6
  have g2 := e7_frozen Y12 2
  have g3 := e7_frozen Y12 3
  have g4 := e7_frozen Y12 4
  have g5 := e7_frozen Y12 5
  have g6 := e7_frozen Y12 6
  unfold setI at d0 d1 d2 d3 d4 d5 d6 g2 g3 g4 g5 g6
  clear Y10 Y12
  unfold actE
  obtain ⟨e0, e1, e2, e3, e4, e5, e6⟩ := e7_cells Z10.out
  obtain ⟨p0, p1, p2, p3, p4, p5, p6⟩ := e7_cells Z12.out
  simp only [Nat.zero_add] at e0 e1 e2 e3 e4 e5 e6 p0 p1 p2 p3 p4 p5 p6
  unfold setI at e0 e1 e2 e3 e4 e5 e6 p0 p1 p2 p3 p4 p5 p6
  replace X10 := Z10
  replace X12 := Z12
  replace HB := ZB
  clear Z10 Z12 ZB
  go_wp2_with fail
  clear c0 c1 c2 c3 c4 c5 c6 d0 d1 d2 d3 d4 d5 d6 f2 f3 f4 f5 f6 g2 g3 g4 g5 g6 e0 e1 e2 e3 e4 e5 e6 p0 p1 p2 p3 p4 p5 p6 HA FI FJ FQ FQ' HM I1 I2 E1 E2
  refine (risFull_any (HV.out.later HB.out) (by omega) u GU).mono ?_
  rintro e w12 ⟨rfl, b⟩
  replace X10 := Lib.hid (heap_laterR X10.out b)
  replace X12 := Lib.hid (heap_laterR X12.out b)
  replace HB := Lib.hid (below2S HB.out b)
  clear b
  go_wp2_with fail
  refine (risFull_any (HV.out.later HB.out) (by omega) o GO).mono ?_
  rintro e w13 ⟨rfl, b⟩
  replace X10 := Lib.hid (heap_laterR X10.out b)
  replace X12 := Lib.hid (heap_laterR X12.out b)
  replace HB := Lib.hid (below2S HB.out b)
  clear b
  go_wp2_with fail
  go_ret2
  exact ⟨_, rfl, HV.out.later HB.out, HB.out⟩

/-- The two entries, in their blocks. -/
theorem two7 {w : World} {n5 n8 : Nat} {u o : List UInt8} {a1 a2 a3 a4 a5 b1 b2 b3 b4 b5 : Bool} (h : w.heap[n5]? = some (.cells #[.string ⟨u.toArray⟩, .string ⟨o.toArray⟩, .bool a1, .bool a2, .bool a3, .bool a4, .bool a5] 68 (0, 0))) (g : w.heap[n8]? = some (.cells #[.string ⟨o.toArray⟩, .string ⟨u.toArray⟩, .bool b1, .bool b2, .bool b3, .bool b4, .bool b5] 68 (0, 0))) :
    ((w).cell? ⟨n5, 0, none⟩ = some (.string ⟨u.toArray⟩) ∧ (w).cell? ⟨n5, 1, none⟩ = some (.string ⟨o.toArray⟩) ∧ (w).cell? ⟨n5, 2, none⟩ = some (.bool a1) ∧ (w).cell? ⟨n5, 3, none⟩ = some (.bool a2) ∧ (w).cell? ⟨n5, 4, none⟩ = some (.bool a3) ∧ (w).cell? ⟨n5, 5, none⟩ = some (.bool a4) ∧ (w).cell? ⟨n5, 6, none⟩ = some (.bool a5) ∧ (w).cell? ⟨n8, 0, none⟩ = some (.string ⟨o.toArray⟩) ∧ (w).cell? ⟨n8, 1, none⟩ = some (.string ⟨u.toArray⟩) ∧ (w).cell? ⟨n8, 2, none⟩ = some (.bool b1) ∧ (w).cell? ⟨n8, 3, none⟩ = some (.bool b2) ∧ (w).cell? ⟨n8, 4, none⟩ = some (.bool b3) ∧ (w).cell? ⟨n8, 5, none⟩ = some (.bool b4) ∧ (w).cell? ⟨n8, 6, none⟩ = some (.bool b5)) := by
  obtain ⟨e0, e1, e2, e3, e4, e5, e6⟩ := e7_cells h
  obtain ⟨p0, p1, p2, p3, p4, p5, p6⟩ := e7_cells g
  exact ⟨e0, e1, e2, e3, e4, e5, e6, p0, p1, p2, p3, p4, p5, p6⟩

theorem dropO_le (l : List Ent) (x : Ent) : (dropO entIs l x).length ≤ l.length := List.length_filter_le _ _

theorem putO_le (l : List Ent) (x : Ent) : (putO entLt entIs l x).length ≤ l.length + 1 := by
  rw [putO_len]
  split <;> omega

set_option maxHeartbeats 3200000 in
set_option maxRecDepth 100000 in
theorem rdoG1 {w : World} {v : Value} {l : List Ent} (hv : Ents w v l) (hs : ShortE l) (hl : l.length ≤ 900) (u o : List UInt8) (hu : u.length ≤ 4294967296) (ho : o.length ≤ 4294967296) (k : Int) (hm : roMayC l = true) (h1 : idIs u = true) (h2 : idIs o = true) (h3 : (u == o) = false) {i1 i2 i3 i4 i5 j1 j2 j3 j4 j5 q q' a1 a2 a3 a4 a5 b1 b2 b3 b4 b5 : Bool} (hi : roIt l u o = ⟨i1, i2, i3, i4, i5⟩) (hj : roIt l o u = ⟨j1, j2, j3, j4, j5⟩) (hq : (l.any fun x => entIs x ⟨u, o, It.zero⟩) = q) (hq' : (l.any fun x => entIs x ⟨o, u, It.zero⟩) = q') (hk : (Lit.int .i64 k).wf = true) (hact : suAct ⟨i1, i2, i3, i4, i5⟩ ⟨j1, j2, j3, j4, j5⟩ k = (⟨a1, a2, a3, a4, a5⟩, ⟨b1, b2, b3, b4, b5⟩, 0)) (hf : q = true) (ga : suEmpty ⟨a1, a2, a3, a4, a5⟩ = true) (gb : suEmpty ⟨b1, b2, b3, b4, b5⟩ = true) :
    Calls Tryz.prog 28 #[v, .int .i64 k, .string ⟨u.toArray⟩, .string ⟨o.toArray⟩] w fun e w' => ∃ v', e = .returned (.tuple #[v', .int .i64 0]) ∧ Ents w' v' (dropO entIs (dropO entIs l ⟨u, o, ⟨a1, a2, a3, a4, a5⟩⟩) ⟨o, u, ⟨b1, b2, b3, b4, b5⟩⟩) ∧ Below w.heap.size w w' := by
  subst hf
  have GA := Lib.hid (sempty_eq a1 a2 a3 a4 a5 ga)
  have GB := Lib.hid (sempty_eq b1 b2 b3 b4 b5 gb)
  clear ga gb
  have HV := Lib.hid hv
  have HM := Lib.hid (romay_any hv hs (Lib.hid hm))
  have HR := Lib.hid (roMay_rise hm)
  have I1 := Lib.hid (is_eq u hu (Lib.hid h1))
  have I2 := Lib.hid (is_eq o ho (Lib.hid h2))
  have E1 := Lib.hid (entry_any u o)
  have E2 := Lib.hid (entry_any o u)
  have FI := Lib.hid hi
  have FJ := Lib.hid hj
  have FQ := Lib.hid hq
  have FQ' := Lib.hid hq'
  have HA := Lib.hid (sact_any i1 i2 i3 i4 i5 j1 j2 j3 j4 j5 k hk)
  rw [hact] at HA
  obtain ⟨a, cap, rfl, hmx⟩ := hv.open'
  clear hv hs hm h1 h2 hi hj hq hq' hk hact
  go_enter Tryz.func28, Tryz.ntmps28
  go_wp2_with fail
  refine HM.out.mono ?_
  rintro e w1 ⟨rfl, b1⟩
  have HB := Lib.hid b1
  clear b1
  go_wp2_with fail
  refine (I1.out _).mono ?_
  rintro e w2 ⟨rfl, b⟩
  replace HB := Lib.hid (below2S HB.out b)
  clear b
  go_wp2_with fail
  refine (I2.out _).mono ?_
  rintro e w3 ⟨rfl, b⟩
  replace HB := Lib.hid (below2S HB.out b)
  clear b
  go_wp2_with fail
  refine (E1.out _).mono ?_
  rintro e w4 ⟨rfl, b⟩
  replace HB := Lib.hid (below2S HB.out b)
  clear b
  go_wp2_with fail
  refine (rfind_eq (HV.out.later HB.out) HR.out u o FI FQ).mono ?_
  rintro e w5 ⟨rfl, b⟩
  have bb := bl_newZ w5 (.cells #[.string ⟨u.toArray⟩, .string ⟨o.toArray⟩, .bool i1, .bool i2, .bool i3, .bool i4, .bool i5] 68)
  have X10 := Lib.hid (heap_newR w5 (.cells #[.string ⟨u.toArray⟩, .string ⟨o.toArray⟩, .bool i1, .bool i2, .bool i3, .bool i4, .bool i5] 68) rfl)
  have HS5 := Lib.hid (below2S HB.out b).size
  replace HB := Lib.hid (below2S (below2S HB.out b) bb)
  clear b bb
  go_wp2_with fail
  generalize hW : w5.alloc (.cells #[.string ⟨u.toArray⟩, .string ⟨o.toArray⟩, .bool i1, .bool i2, .bool i3, .bool i4, .bool i5] 68) = w6 at HB X10 ⊢
  generalize hN : w5.heap.size = n5 at X10 HS5 ⊢
  clear hW hN
  refine (E2.out _).mono ?_
  rintro e w7 ⟨rfl, b⟩
  replace X10 := Lib.hid (heap_laterR X10.out b)
  replace HB := Lib.hid (below2S HB.out b)
  clear b
  go_wp2_with fail
  refine (rfind_eq (HV.out.later HB.out) HR.out o u FJ FQ').mono ?_
  rintro e w8 ⟨rfl, b⟩
  have bb := bl_newZ w8 (.cells #[.string ⟨o.toArray⟩, .string ⟨u.toArray⟩, .bool j1, .bool j2, .bool j3, .bool j4, .bool j5] 68)
  have X12 := Lib.hid (heap_newR w8 (.cells #[.string ⟨o.toArray⟩, .string ⟨u.toArray⟩, .bool j1, .bool j2, .bool j3, .bool j4, .bool j5] 68) rfl)
  have HS8 := Lib.hid (below2S HB.out b).size
  replace X10 := Lib.hid (heap_laterR X10.out b)
  have hne := Lib.hid (heap_ltR X10.out)
  replace X10 := Lib.hid (heap_laterR X10.out bb)
  replace HB := Lib.hid (below2S (below2S HB.out b) bb)
  clear b bb
  obtain ⟨c0, c1, c2, c3, c4, c5, c6⟩ := e7_cells X10.out
  obtain ⟨d0, d1, d2, d3, d4, d5, d6⟩ := e7_cells X12.out
  simp only [Nat.zero_add] at c0 c1 c2 c3 c4 c5 c6 d0 d1 d2 d3 d4 d5 d6
  go_wp2_with fail
  generalize hW : w8.alloc (.cells #[.string ⟨o.toArray⟩, .string ⟨u.toArray⟩, .bool j1, .bool j2, .bool j3, .bool j4, .bool j5] 68) = w9 at HB X10 X12 c0 c1 c2 c3 c4 c5 c6 d0 d1 d2 d3 d4 d5 d6 ⊢
  generalize hN : w8.heap.size = n8 at X12 HS8 hne d0 d1 d2 d3 d4 d5 d6 ⊢
  clear hW hN c0 c1 c2 c3 c4 c5 c6 d0 d1 d2 d3 d4 d5 d6
  refine (HA.out _).mono ?_
  rintro e w10 ⟨rfl, b⟩
  replace X10 := Lib.hid (heap_laterR X10.out b)
  replace X12 := Lib.hid (heap_laterR X12.out b)
  replace HB := Lib.hid (below2S HB.out b)
  clear b
  have hne1 : n5 ≠ n8 := by have := hne.out; omega
  have Y12 := e7_other X12.out hne1 a1 a2 a3 a4 a5
  have Y10 := e7_set X10.out a1 a2 a3 a4 a5
  have Z12 := Lib.hid (e7_set Y12 b1 b2 b3 b4 b5)
  have Z10 := Lib.hid (e7_other Y10 hne1.symm b1 b2 b3 b4 b5)
  have ZB := Lib.hid (setI_below (setI_below HB.out HS5.out a1 a2 a3 a4 a5) HS8.out b1 b2 b3 b4 b5)
  obtain ⟨c0, c1, c2, c3, c4, c5, c6⟩ := e7_cells X10.out
  obtain ⟨d0, d1, d2, d3, d4, d5, d6⟩ := e7_cells Y12
  simp only [Nat.zero_add] at c0 c1 c2 c3 c4 c5 c6 d0 d1 d2 d3 d4 d5 d6
  have f2 := e7_frozen X10.out 2
  have f3 := e7_frozen X10.out 3
  have f4 := e7_frozen X10.out 4
  have f5 := e7_frozen X10.out 5
  have f6 := e7_frozen X10.out 6
  have g2 := e7_frozen Y12 2
  have g3 := e7_frozen Y12 3
  have g4 := e7_frozen Y12 4
  have g5 := e7_frozen Y12 5
  have g6 := e7_frozen Y12 6
  unfold setI at d0 d1 d2 d3 d4 d5 d6 g2 g3 g4 g5 g6
  clear Y10 Y12
  unfold actE
  obtain ⟨e0, e1, e2, e3, e4, e5, e6⟩ := e7_cells Z10.out
  obtain ⟨p0, p1, p2, p3, p4, p5, p6⟩ := e7_cells Z12.out
  simp only [Nat.zero_add] at e0 e1 e2 e3 e4 e5 e6 p0 p1 p2 p3 p4 p5 p6
  unfold setI at e0 e1 e2 e3 e4 e5 e6 p0 p1 p2 p3 p4 p5 p6
  replace X10 := Z10
  replace X12 := Z12
  replace HB := ZB
  clear Z10 Z12 ZB
  go_wp2_with fail
  clear c0 c1 c2 c3 c4 c5 c6 d0 d1 d2 d3 d4 d5 d6 f2 f3 f4 f5 f6 g2 g3 g4 g5 g6 e0 e1 e2 e3 e4 e5 e6 p0 p1 p2 p3 p4 p5 p6 HA FI FJ FQ FQ' HM I1 I2 E1 E2
  refine (GA.out _).mono ?_
  rintro e w14 ⟨rfl, b⟩
  replace X10 := Lib.hid (heap_laterR X10.out b)
  replace X12 := Lib.hid (heap_laterR X12.out b)
  replace HB := Lib.hid (below2S HB.out b)
  clear b
  obtain ⟨e0, e1, e2, e3, e4, e5, e6⟩ := e7_cells X10.out
  obtain ⟨p0, p1, p2, p3, p4, p5, p6⟩ := e7_cells X12.out
  simp only [Nat.zero_add] at e0 e1 e2 e3 e4 e5 e6 p0 p1 p2 p3 p4 p5 p6
  go_wp2_with fail
  clear e0 e1 e2 e3 e4 e5 e6 p0 p1 p2 p3 p4 p5 p6
  refine (GB.out _).mono ?_
  rintro e w15 ⟨rfl, b⟩
  replace X10 := Lib.hid (heap_laterR X10.out b)
  replace X12 := Lib.hid (heap_laterR X12.out b)
  replace HB := Lib.hid (below2S HB.out b)
  clear b
  go_wp2_with fail
  have hS0 := two7 X10.out X12.out
  refine wp_region_held_drew (S := (fun W => ((W).cell? ⟨n5, 0, none⟩ = some (.string ⟨u.toArray⟩) ∧ (W).cell? ⟨n5, 1, none⟩ = some (.string ⟨o.toArray⟩) ∧ (W).cell? ⟨n5, 2, none⟩ = some (.bool a1) ∧ (W).cell? ⟨n5, 3, none⟩ = some (.bool a2) ∧ (W).cell? ⟨n5, 4, none⟩ = some (.bool a3) ∧ (W).cell? ⟨n5, 5, none⟩ = some (.bool a4) ∧ (W).cell? ⟨n5, 6, none⟩ = some (.bool a5) ∧ (W).cell? ⟨n8, 0, none⟩ = some (.string ⟨o.toArray⟩) ∧ (W).cell? ⟨n8, 1, none⟩ = some (.string ⟨u.toArray⟩) ∧ (W).cell? ⟨n8, 2, none⟩ = some (.bool b1) ∧ (W).cell? ⟨n8, 3, none⟩ = some (.bool b2) ∧ (W).cell? ⟨n8, 4, none⟩ = some (.bool b3) ∧ (W).cell? ⟨n8, 5, none⟩ = some (.bool b4) ∧ (W).cell? ⟨n8, 6, none⟩ = some (.bool b5)))) (by kernel_rfl) ?_ (fun hHeld => ?_)
  · exact two7 (heap_laterR X10.out (Below.refl _ _).drew) (heap_laterR X12.out (Below.refl _ _).drew)
  refine wpAnyH_take (i := 0) (oi := { dst := some 87, op := Op.move (Operand.tmp 0), type := 22, pos := "rost.go:51", after := #[], guard := none }) (v := ?_) rfl (by as_aux_lemma => kernel_rfl) (by as_aux_lemma => kernel_rfl) (by as_aux_lemma => kernel_rfl) (fun _ _ _ h => h) (Or.inl ⟨by rfl, ?_⟩) (by assumption) ?_
  rotate_left
  · intro w' hSw
    try dsimp only at hSw
    go_simp
    try with_reducible rfl
  try simp only [Act.put, List.setIfInBounds_toArray, List.set_cons_zero, List.set_cons_succ]
  refine wpAnyH_take (i := 1) (oi := { dst := some 88, op := Op.load 68 (Operand.tmp 10), type := 68, pos := "rost.go:51", after := #[], guard := none }) (v := ?_) rfl (by as_aux_lemma => kernel_rfl) (by as_aux_lemma => kernel_rfl) (by as_aux_lemma => kernel_rfl) (fun _ _ _ h => h) (Or.inl ⟨by rfl, ?_⟩) (by assumption) ?_
  rotate_left
  · intro w' hSw
    try dsimp only at hSw
    go_simp
    try with_reducible rfl
  try simp only [Act.put, List.setIfInBounds_toArray, List.set_cons_zero, List.set_cons_succ]
  refine wpAnyH_take (i := 3) (oi := { dst := some 90, op := Op.load 68 (Operand.tmp 12), type := 68, pos := "rost.go:51", after := #[], guard := none }) (v := ?_) rfl (by as_aux_lemma => kernel_rfl) (by as_aux_lemma => kernel_rfl) (by as_aux_lemma => kernel_rfl) (fun _ _ _ h => h) (Or.inl ⟨by rfl, ?_⟩) (by assumption) ?_
  rotate_left
  · intro w' hSw
    try dsimp only at hSw
    go_simp
    try with_reducible rfl
  try simp only [Act.put, List.setIfInBounds_toArray, List.set_cons_zero, List.set_cons_succ]
  refine wpAnyH_ready (rs := [2]) (by as_aux_lemma => kernel_rfl) (by simp) ?_
  refine AllReadyH.cons (o := { dst := some 89, op := Op.call { callee := Callee.value (Operand.func 67), args := #[Operand.tmp 87, Operand.tmp 88], argTypes := #[22, 68] }, type := 22, pos := "rost.go:51", after := #[{ on := 0, ground := Ground.data }, { on := 1, ground := Ground.data }], guard := none }) rfl (fun Kx hK => ?_) AllReadyH.nil
  go_simp
  refine (rwithout_any ((HV.out.later HB.out).later (Below.refl _ _).drew) (by omega) u o a1 a2 a3 a4 a5).mono ?_
  rintro e wA ⟨y, rfl, hy, bA⟩
  have bd := below2Z (Below.refl _ _).drew bA
  have HY := Lib.hid hy
  have YA := Lib.hid (hy.rd entOK).ents
  have X10A := Lib.hid (heap_laterR X10.out bd)
  have X12A := Lib.hid (heap_laterR X12.out bd)
  have HBA := Lib.hid (below2S HB.out bd)
  clear bd hy bA
  go_wp2_with fail
  refine hK.out _ _ ?_ (fun hHeld2 => ?_)
  · exact two7 X10A.out X12A.out
  clear hK Kx hHeld
  have hHeld := hHeld2
  clear hHeld2
  try simp only [Act.put, List.setIfInBounds_toArray, List.set_cons_zero, List.set_cons_succ]
  refine wpAnyH_ready (rs := [4]) (by as_aux_lemma => kernel_rfl) (by simp) ?_
  refine AllReadyH.cons (o := { dst := some 91, op := Op.call { callee := Callee.value (Operand.func 67), args := #[Operand.tmp 89, Operand.tmp 90], argTypes := #[22, 68] }, type := 22, pos := "rost.go:51", after := #[{ on := 2, ground := Ground.data }, { on := 3, ground := Ground.data }, { on := 2, ground := Ground.chain }], guard := none }) rfl (fun Kx hK => ?_) AllReadyH.nil
  go_simp
  refine (rwithout_any YA.out (by have := dropO_le l ⟨u, o, ⟨a1, a2, a3, a4, a5⟩⟩; omega) o u b1 b2 b3 b4 b5).mono ?_
  rintro e wB ⟨z, rfl, hz, bB⟩
  have ZE := Lib.hid (hz.rd entOK).ents
  have X10B := Lib.hid (heap_laterR X10A.out bB)
  have X12B := Lib.hid (heap_laterR X12A.out bB)
  have HBB := Lib.hid (below2S HBA.out bB)
  clear hz bB
  go_wp2_with fail
  refine hK.out _ _ ?_ (fun hHeld2 => ?_)
  · exact two7 X10B.out X12B.out
  clear hK Kx hHeld
  have hHeld := hHeld2
  clear hHeld2
  try simp only [Act.put, List.setIfInBounds_toArray, List.set_cons_zero, List.set_cons_succ]
  refine wpAnyH_take (i := 5) (oi := { dst := some 8, op := Op.assign (Operand.tmp 91), type := 22, pos := "rost.go:51", after := #[{ on := 4, ground := Ground.data }, { on := 4, ground := Ground.chain }, { on := 0, ground := Ground.phase }, { on := 1, ground := Ground.phase }, { on := 2, ground := Ground.phase }, { on := 3, ground := Ground.phase }, { on := 4, ground := Ground.phase }], guard := none }) (v := ?_) rfl (by as_aux_lemma => kernel_rfl) (by as_aux_lemma => kernel_rfl) (by as_aux_lemma => kernel_rfl) (fun _ _ _ h => h) (Or.inl ⟨by rfl, ?_⟩) (by assumption) ?_
  rotate_left
  · intro w' hSw
    try dsimp only at hSw
    go_simp
    try with_reducible rfl
  try simp only [Act.put, List.setIfInBounds_toArray, List.set_cons_zero, List.set_cons_succ]
  refine wpAnyH_take (i := 6) (oi := { dst := some 9, op := Op.assign (Operand.const (Value.int IntKind.i64 0)), type := 35, pos := "rost.go:51", after := #[{ on := 5, ground := Ground.chain }, { on := 0, ground := Ground.phase }, { on := 1, ground := Ground.phase }, { on := 2, ground := Ground.phase }, { on := 3, ground := Ground.phase }, { on := 4, ground := Ground.phase }, { on := 5, ground := Ground.phase }], guard := none }) (v := ?_) rfl (by as_aux_lemma => kernel_rfl) (by as_aux_lemma => kernel_rfl) (by as_aux_lemma => kernel_rfl) (fun _ _ _ h => h) (Or.inl ⟨by rfl, ?_⟩) (by assumption) ?_
  rotate_left
  · intro w' hSw
    try dsimp only at hSw
    go_simp
    try with_reducible rfl
  try simp only [Act.put, List.setIfInBounds_toArray, List.set_cons_zero, List.set_cons_succ]
  refine wpAnyH_done (by kernel_rfl) ?_ _
  go_wp2_with fail
  go_ret2
  exact ⟨_, rfl, ZE.out, HBB.out⟩

set_option maxHeartbeats 3200000 in
set_option maxRecDepth 100000 in
theorem rdoG2 {w : World} {v : Value} {l : List Ent} (hv : Ents w v l) (hs : ShortE l) (hl : l.length ≤ 900) (u o : List UInt8) (hu : u.length ≤ 4294967296) (ho : o.length ≤ 4294967296) (k : Int) (hm : roMayC l = true) (h1 : idIs u = true) (h2 : idIs o = true) (h3 : (u == o) = false) {i1 i2 i3 i4 i5 j1 j2 j3 j4 j5 q q' a1 a2 a3 a4 a5 b1 b2 b3 b4 b5 : Bool} (hi : roIt l u o = ⟨i1, i2, i3, i4, i5⟩) (hj : roIt l o u = ⟨j1, j2, j3, j4, j5⟩) (hq : (l.any fun x => entIs x ⟨u, o, It.zero⟩) = q) (hq' : (l.any fun x => entIs x ⟨o, u, It.zero⟩) = q') (hk : (Lit.int .i64 k).wf = true) (hact : suAct ⟨i1, i2, i3, i4, i5⟩ ⟨j1, j2, j3, j4, j5⟩ k = (⟨a1, a2, a3, a4, a5⟩, ⟨b1, b2, b3, b4, b5⟩, 0)) (hf : q = false) (gu : decide (16 ≤ (roOf l u).length) = false) (go : decide (16 ≤ (roOf l o).length) = false) (ga : suEmpty ⟨a1, a2, a3, a4, a5⟩ = true) (gb : suEmpty ⟨b1, b2, b3, b4, b5⟩ = true) :
    Calls Tryz.prog 28 #[v, .int .i64 k, .string ⟨u.toArray⟩, .string ⟨o.toArray⟩] w fun e w' => ∃ v', e = .returned (.tuple #[v', .int .i64 0]) ∧ Ents w' v' (dropO entIs (dropO entIs l ⟨u, o, ⟨a1, a2, a3, a4, a5⟩⟩) ⟨o, u, ⟨b1, b2, b3, b4, b5⟩⟩) ∧ Below w.heap.size w w' := by
  subst hf
  have GU := Lib.hid gu
  have GO := Lib.hid go
  clear gu go
  have GA := Lib.hid (sempty_eq a1 a2 a3 a4 a5 ga)
  have GB := Lib.hid (sempty_eq b1 b2 b3 b4 b5 gb)
  clear ga gb
  have HV := Lib.hid hv
  have HM := Lib.hid (romay_any hv hs (Lib.hid hm))
  have HR := Lib.hid (roMay_rise hm)
  have I1 := Lib.hid (is_eq u hu (Lib.hid h1))
  have I2 := Lib.hid (is_eq o ho (Lib.hid h2))
  have E1 := Lib.hid (entry_any u o)
  have E2 := Lib.hid (entry_any o u)
  have FI := Lib.hid hi
  have FJ := Lib.hid hj
  have FQ := Lib.hid hq
  have FQ' := Lib.hid hq'
  have HA := Lib.hid (sact_any i1 i2 i3 i4 i5 j1 j2 j3 j4 j5 k hk)
  rw [hact] at HA
  obtain ⟨a, cap, rfl, hmx⟩ := hv.open'
  clear hv hs hm h1 h2 hi hj hq hq' hk hact
  go_enter Tryz.func28, Tryz.ntmps28
  go_wp2_with fail
  refine HM.out.mono ?_
  rintro e w1 ⟨rfl, b1⟩
  have HB := Lib.hid b1
  clear b1
  go_wp2_with fail
  refine (I1.out _).mono ?_
  rintro e w2 ⟨rfl, b⟩
  replace HB := Lib.hid (below2S HB.out b)
  clear b
  go_wp2_with fail
  refine (I2.out _).mono ?_
  rintro e w3 ⟨rfl, b⟩
  replace HB := Lib.hid (below2S HB.out b)
  clear b
  go_wp2_with fail
  refine (E1.out _).mono ?_
  rintro e w4 ⟨rfl, b⟩
  replace HB := Lib.hid (below2S HB.out b)
  clear b
  go_wp2_with fail
  refine (rfind_eq (HV.out.later HB.out) HR.out u o FI FQ).mono ?_
  rintro e w5 ⟨rfl, b⟩
  have bb := bl_newZ w5 (.cells #[.string ⟨u.toArray⟩, .string ⟨o.toArray⟩, .bool i1, .bool i2, .bool i3, .bool i4, .bool i5] 68)
  have X10 := Lib.hid (heap_newR w5 (.cells #[.string ⟨u.toArray⟩, .string ⟨o.toArray⟩, .bool i1, .bool i2, .bool i3, .bool i4, .bool i5] 68) rfl)
  have HS5 := Lib.hid (below2S HB.out b).size
  replace HB := Lib.hid (below2S (below2S HB.out b) bb)
  clear b bb
  go_wp2_with fail
  generalize hW : w5.alloc (.cells #[.string ⟨u.toArray⟩, .string ⟨o.toArray⟩, .bool i1, .bool i2, .bool i3, .bool i4, .bool i5] 68) = w6 at HB X10 ⊢
  generalize hN : w5.heap.size = n5 at X10 HS5 ⊢
  clear hW hN
  refine (E2.out _).mono ?_
  rintro e w7 ⟨rfl, b⟩
  replace X10 := Lib.hid (heap_laterR X10.out b)
  replace HB := Lib.hid (below2S HB.out b)
  clear b
  go_wp2_with fail
  refine (rfind_eq (HV.out.later HB.out) HR.out o u FJ FQ').mono ?_
  rintro e w8 ⟨rfl, b⟩
  have bb := bl_newZ w8 (.cells #[.string ⟨o.toArray⟩, .string ⟨u.toArray⟩, .bool j1, .bool j2, .bool j3, .bool j4, .bool j5] 68)
  have X12 := Lib.hid (heap_newR w8 (.cells #[.string ⟨o.toArray⟩, .string ⟨u.toArray⟩, .bool j1, .bool j2, .bool j3, .bool j4, .bool j5] 68) rfl)
  have HS8 := Lib.hid (below2S HB.out b).size
  replace X10 := Lib.hid (heap_laterR X10.out b)
  have hne := Lib.hid (heap_ltR X10.out)
  replace X10 := Lib.hid (heap_laterR X10.out bb)
  replace HB := Lib.hid (below2S (below2S HB.out b) bb)
  clear b bb
  obtain ⟨c0, c1, c2, c3, c4, c5, c6⟩ := e7_cells X10.out
  obtain ⟨d0, d1, d2, d3, d4, d5, d6⟩ := e7_cells X12.out
  simp only [Nat.zero_add] at c0 c1 c2 c3 c4 c5 c6 d0 d1 d2 d3 d4 d5 d6
  go_wp2_with fail
  generalize hW : w8.alloc (.cells #[.string ⟨o.toArray⟩, .string ⟨u.toArray⟩, .bool j1, .bool j2, .bool j3, .bool j4, .bool j5] 68) = w9 at HB X10 X12 c0 c1 c2 c3 c4 c5 c6 d0 d1 d2 d3 d4 d5 d6 ⊢
  generalize hN : w8.heap.size = n8 at X12 HS8 hne d0 d1 d2 d3 d4 d5 d6 ⊢
  clear hW hN c0 c1 c2 c3 c4 c5 c6 d0 d1 d2 d3 d4 d5 d6
  refine (HA.out _).mono ?_
  rintro e w10 ⟨rfl, b⟩
  replace X10 := Lib.hid (heap_laterR X10.out b)
  replace X12 := Lib.hid (heap_laterR X12.out b)
  replace HB := Lib.hid (below2S HB.out b)
  clear b
  have hne1 : n5 ≠ n8 := by have := hne.out; omega
  have Y12 := e7_other X12.out hne1 a1 a2 a3 a4 a5
  have Y10 := e7_set X10.out a1 a2 a3 a4 a5
  have Z12 := Lib.hid (e7_set Y12 b1 b2 b3 b4 b5)
  have Z10 := Lib.hid (e7_other Y10 hne1.symm b1 b2 b3 b4 b5)
  have ZB := Lib.hid (setI_below (setI_below HB.out HS5.out a1 a2 a3 a4 a5) HS8.out b1 b2 b3 b4 b5)
  obtain ⟨c0, c1, c2, c3, c4, c5, c6⟩ := e7_cells X10.out
  obtain ⟨d0, d1, d2, d3, d4, d5, d6⟩ := e7_cells Y12
  simp only [Nat.zero_add] at c0 c1 c2 c3 c4 c5 c6 d0 d1 d2 d3 d4 d5 d6
  have f2 := e7_frozen X10.out 2
  have f3 := e7_frozen X10.out 3
  have f4 := e7_frozen X10.out 4
  have f5 := e7_frozen X10.out 5
  have f6 := e7_frozen X10.out 6
  have g2 := e7_frozen Y12 2
  have g3 := e7_frozen Y12 3
  have g4 := e7_frozen Y12 4
  have g5 := e7_frozen Y12 5
  have g6 := e7_frozen Y12 6
  unfold setI at d0 d1 d2 d3 d4 d5 d6 g2 g3 g4 g5 g6
  clear Y10 Y12
  unfold actE
  obtain ⟨e0, e1, e2, e3, e4, e5, e6⟩ := e7_cells Z10.out
  obtain ⟨p0, p1, p2, p3, p4, p5, p6⟩ := e7_cells Z12.out
  simp only [Nat.zero_add] at e0 e1 e2 e3 e4 e5 e6 p0 p1 p2 p3 p4 p5 p6
  unfold setI at e0 e1 e2 e3 e4 e5 e6 p0 p1 p2 p3 p4 p5 p6
  replace X10 := Z10
  replace X12 := Z12
  replace HB := ZB
  clear Z10 Z12 ZB
  go_wp2_with fail
  clear c0 c1 c2 c3 c4 c5 c6 d0 d1 d2 d3 d4 d5 d6 f2 f3 f4 f5 f6 g2 g3 g4 g5 g6 e0 e1 e2 e3 e4 e5 e6 p0 p1 p2 p3 p4 p5 p6 HA FI FJ FQ FQ' HM I1 I2 E1 E2
  refine (risFull_any (HV.out.later HB.out) (by omega) u GU).mono ?_
  rintro e w12 ⟨rfl, b⟩
  replace X10 := Lib.hid (heap_laterR X10.out b)
  replace X12 := Lib.hid (heap_laterR X12.out b)
  replace HB := Lib.hid (below2S HB.out b)
  clear b
  go_wp2_with fail
  refine (risFull_any (HV.out.later HB.out) (by omega) o GO).mono ?_
  rintro e w13 ⟨rfl, b⟩
  replace X10 := Lib.hid (heap_laterR X10.out b)
  replace X12 := Lib.hid (heap_laterR X12.out b)
  replace HB := Lib.hid (below2S HB.out b)
  clear b
  obtain ⟨e0, e1, e2, e3, e4, e5, e6⟩ := e7_cells X10.out
  obtain ⟨p0, p1, p2, p3, p4, p5, p6⟩ := e7_cells X12.out
  simp only [Nat.zero_add] at e0 e1 e2 e3 e4 e5 e6 p0 p1 p2 p3 p4 p5 p6
  go_wp2_with fail
  clear e0 e1 e2 e3 e4 e5 e6 p0 p1 p2 p3 p4 p5 p6
  refine (GA.out _).mono ?_
  rintro e w14 ⟨rfl, b⟩
  replace X10 := Lib.hid (heap_laterR X10.out b)
  replace X12 := Lib.hid (heap_laterR X12.out b)
  replace HB := Lib.hid (below2S HB.out b)
  clear b
  obtain ⟨e0, e1, e2, e3, e4, e5, e6⟩ := e7_cells X10.out
  obtain ⟨p0, p1, p2, p3, p4, p5, p6⟩ := e7_cells X12.out
  simp only [Nat.zero_add] at e0 e1 e2 e3 e4 e5 e6 p0 p1 p2 p3 p4 p5 p6
  go_wp2_with fail
  clear e0 e1 e2 e3 e4 e5 e6 p0 p1 p2 p3 p4 p5 p6
  refine (GB.out _).mono ?_
  rintro e w15 ⟨rfl, b⟩
  replace X10 := Lib.hid (heap_laterR X10.out b)
  replace X12 := Lib.hid (heap_laterR X12.out b)
  replace HB := Lib.hid (below2S HB.out b)
  clear b
  go_wp2_with fail
  have hS0 := two7 X10.out X12.out
  refine wp_region_held_drew (S := (fun W => ((W).cell? ⟨n5, 0, none⟩ = some (.string ⟨u.toArray⟩) ∧ (W).cell? ⟨n5, 1, none⟩ = some (.string ⟨o.toArray⟩) ∧ (W).cell? ⟨n5, 2, none⟩ = some (.bool a1) ∧ (W).cell? ⟨n5, 3, none⟩ = some (.bool a2) ∧ (W).cell? ⟨n5, 4, none⟩ = some (.bool a3) ∧ (W).cell? ⟨n5, 5, none⟩ = some (.bool a4) ∧ (W).cell? ⟨n5, 6, none⟩ = some (.bool a5) ∧ (W).cell? ⟨n8, 0, none⟩ = some (.string ⟨o.toArray⟩) ∧ (W).cell? ⟨n8, 1, none⟩ = some (.string ⟨u.toArray⟩) ∧ (W).cell? ⟨n8, 2, none⟩ = some (.bool b1) ∧ (W).cell? ⟨n8, 3, none⟩ = some (.bool b2) ∧ (W).cell? ⟨n8, 4, none⟩ = some (.bool b3) ∧ (W).cell? ⟨n8, 5, none⟩ = some (.bool b4) ∧ (W).cell? ⟨n8, 6, none⟩ = some (.bool b5)))) (by kernel_rfl) ?_ (fun hHeld => ?_)
  · exact two7 (heap_laterR X10.out (Below.refl _ _).drew) (heap_laterR X12.out (Below.refl _ _).drew)
  refine wpAnyH_take (i := 0) (oi := { dst := some 87, op := Op.move (Operand.tmp 0), type := 22, pos := "rost.go:51", after := #[], guard := none }) (v := ?_) rfl (by as_aux_lemma => kernel_rfl) (by as_aux_lemma => kernel_rfl) (by as_aux_lemma => kernel_rfl) (fun _ _ _ h => h) (Or.inl ⟨by rfl, ?_⟩) (by assumption) ?_
  rotate_left
  · intro w' hSw
    try dsimp only at hSw
    go_simp
    try with_reducible rfl
  try simp only [Act.put, List.setIfInBounds_toArray, List.set_cons_zero, List.set_cons_succ]
  refine wpAnyH_take (i := 1) (oi := { dst := some 88, op := Op.load 68 (Operand.tmp 10), type := 68, pos := "rost.go:51", after := #[], guard := none }) (v := ?_) rfl (by as_aux_lemma => kernel_rfl) (by as_aux_lemma => kernel_rfl) (by as_aux_lemma => kernel_rfl) (fun _ _ _ h => h) (Or.inl ⟨by rfl, ?_⟩) (by assumption) ?_
  rotate_left
  · intro w' hSw
    try dsimp only at hSw
    go_simp
    try with_reducible rfl
  try simp only [Act.put, List.setIfInBounds_toArray, List.set_cons_zero, List.set_cons_succ]
  refine wpAnyH_take (i := 3) (oi := { dst := some 90, op := Op.load 68 (Operand.tmp 12), type := 68, pos := "rost.go:51", after := #[], guard := none }) (v := ?_) rfl (by as_aux_lemma => kernel_rfl) (by as_aux_lemma => kernel_rfl) (by as_aux_lemma => kernel_rfl) (fun _ _ _ h => h) (Or.inl ⟨by rfl, ?_⟩) (by assumption) ?_
  rotate_left
  · intro w' hSw
    try dsimp only at hSw
    go_simp
    try with_reducible rfl
  try simp only [Act.put, List.setIfInBounds_toArray, List.set_cons_zero, List.set_cons_succ]
  refine wpAnyH_ready (rs := [2]) (by as_aux_lemma => kernel_rfl) (by simp) ?_
  refine AllReadyH.cons (o := { dst := some 89, op := Op.call { callee := Callee.value (Operand.func 67), args := #[Operand.tmp 87, Operand.tmp 88], argTypes := #[22, 68] }, type := 22, pos := "rost.go:51", after := #[{ on := 0, ground := Ground.data }, { on := 1, ground := Ground.data }], guard := none }) rfl (fun Kx hK => ?_) AllReadyH.nil
  go_simp
  refine (rwithout_any ((HV.out.later HB.out).later (Below.refl _ _).drew) (by omega) u o a1 a2 a3 a4 a5).mono ?_
  rintro e wA ⟨y, rfl, hy, bA⟩
  have bd := below2Z (Below.refl _ _).drew bA
  have HY := Lib.hid hy
  have YA := Lib.hid (hy.rd entOK).ents
  have X10A := Lib.hid (heap_laterR X10.out bd)
  have X12A := Lib.hid (heap_laterR X12.out bd)
  have HBA := Lib.hid (below2S HB.out bd)
  clear bd hy bA
  go_wp2_with fail
  refine hK.out _ _ ?_ (fun hHeld2 => ?_)
  · exact two7 X10A.out X12A.out
  clear hK Kx hHeld
  have hHeld := hHeld2
  clear hHeld2
  try simp only [Act.put, List.setIfInBounds_toArray, List.set_cons_zero, List.set_cons_succ]
  refine wpAnyH_ready (rs := [4]) (by as_aux_lemma => kernel_rfl) (by simp) ?_
  refine AllReadyH.cons (o := { dst := some 91, op := Op.call { callee := Callee.value (Operand.func 67), args := #[Operand.tmp 89, Operand.tmp 90], argTypes := #[22, 68] }, type := 22, pos := "rost.go:51", after := #[{ on := 2, ground := Ground.data }, { on := 3, ground := Ground.data }, { on := 2, ground := Ground.chain }], guard := none }) rfl (fun Kx hK => ?_) AllReadyH.nil
  go_simp
  refine (rwithout_any YA.out (by have := dropO_le l ⟨u, o, ⟨a1, a2, a3, a4, a5⟩⟩; omega) o u b1 b2 b3 b4 b5).mono ?_
  rintro e wB ⟨z, rfl, hz, bB⟩
  have ZE := Lib.hid (hz.rd entOK).ents
  have X10B := Lib.hid (heap_laterR X10A.out bB)
  have X12B := Lib.hid (heap_laterR X12A.out bB)
  have HBB := Lib.hid (below2S HBA.out bB)
  clear hz bB
  go_wp2_with fail
  refine hK.out _ _ ?_ (fun hHeld2 => ?_)
  · exact two7 X10B.out X12B.out
  clear hK Kx hHeld
  have hHeld := hHeld2
  clear hHeld2
  try simp only [Act.put, List.setIfInBounds_toArray, List.set_cons_zero, List.set_cons_succ]
  refine wpAnyH_take (i := 5) (oi := { dst := some 8, op := Op.assign (Operand.tmp 91), type := 22, pos := "rost.go:51", after := #[{ on := 4, ground := Ground.data }, { on := 4, ground := Ground.chain }, { on := 0, ground := Ground.phase }, { on := 1, ground := Ground.phase }, { on := 2, ground := Ground.phase }, { on := 3, ground := Ground.phase }, { on := 4, ground := Ground.phase }], guard := none }) (v := ?_) rfl (by as_aux_lemma => kernel_rfl) (by as_aux_lemma => kernel_rfl) (by as_aux_lemma => kernel_rfl) (fun _ _ _ h => h) (Or.inl ⟨by rfl, ?_⟩) (by assumption) ?_
  rotate_left
  · intro w' hSw
    try dsimp only at hSw
    go_simp
    try with_reducible rfl
  try simp only [Act.put, List.setIfInBounds_toArray, List.set_cons_zero, List.set_cons_succ]
  refine wpAnyH_take (i := 6) (oi := { dst := some 9, op := Op.assign (Operand.const (Value.int IntKind.i64 0)), type := 35, pos := "rost.go:51", after := #[{ on := 5, ground := Ground.chain }, { on := 0, ground := Ground.phase }, { on := 1, ground := Ground.phase }, { on := 2, ground := Ground.phase }, { on := 3, ground := Ground.phase }, { on := 4, ground := Ground.phase }, { on := 5, ground := Ground.phase }], guard := none }) (v := ?_) rfl (by as_aux_lemma => kernel_rfl) (by as_aux_lemma => kernel_rfl) (by as_aux_lemma => kernel_rfl) (fun _ _ _ h => h) (Or.inl ⟨by rfl, ?_⟩) (by assumption) ?_
  rotate_left
  · intro w' hSw
    try dsimp only at hSw
    go_simp
    try with_reducible rfl
  try simp only [Act.put, List.setIfInBounds_toArray, List.set_cons_zero, List.set_cons_succ]
  refine wpAnyH_done (by kernel_rfl) ?_ _
  go_wp2_with fail
  go_ret2
  exact ⟨_, rfl, ZE.out, HBB.out⟩

set_option maxHeartbeats 3200000 in
set_option maxRecDepth 100000 in
theorem rdoH1 {w : World} {v : Value} {l : List Ent} (hv : Ents w v l) (hs : ShortE l) (hl : l.length ≤ 900) (u o : List UInt8) (hu : u.length ≤ 4294967296) (ho : o.length ≤ 4294967296) (k : Int) (hm : roMayC l = true) (h1 : idIs u = true) (h2 : idIs o = true) (h3 : (u == o) = false) {i1 i2 i3 i4 i5 j1 j2 j3 j4 j5 q q' a1 a2 a3 a4 a5 b1 b2 b3 b4 b5 : Bool} (hi : roIt l u o = ⟨i1, i2, i3, i4, i5⟩) (hj : roIt l o u = ⟨j1, j2, j3, j4, j5⟩) (hq : (l.any fun x => entIs x ⟨u, o, It.zero⟩) = q) (hq' : (l.any fun x => entIs x ⟨o, u, It.zero⟩) = q') (hk : (Lit.int .i64 k).wf = true) (hact : suAct ⟨i1, i2, i3, i4, i5⟩ ⟨j1, j2, j3, j4, j5⟩ k = (⟨a1, a2, a3, a4, a5⟩, ⟨b1, b2, b3, b4, b5⟩, 0)) (hf : q = true) (ga : suEmpty ⟨a1, a2, a3, a4, a5⟩ = false) :
    Calls Tryz.prog 28 #[v, .int .i64 k, .string ⟨u.toArray⟩, .string ⟨o.toArray⟩] w fun e w' => ∃ v', e = .returned (.tuple #[v', .int .i64 0]) ∧ Ents w' v' (putO entLt entIs (putO entLt entIs l ⟨u, o, ⟨a1, a2, a3, a4, a5⟩⟩) ⟨o, u, ⟨b1, b2, b3, b4, b5⟩⟩) ∧ Below w.heap.size w w' := by
  subst hf
  have GA := Lib.hid (sempty_eq a1 a2 a3 a4 a5 ga)
  clear ga
  have HV := Lib.hid hv
  have HM := Lib.hid (romay_any hv hs (Lib.hid hm))
  have HR := Lib.hid (roMay_rise hm)
  have I1 := Lib.hid (is_eq u hu (Lib.hid h1))
  have I2 := Lib.hid (is_eq o ho (Lib.hid h2))
  have E1 := Lib.hid (entry_any u o)
  have E2 := Lib.hid (entry_any o u)
  have FI := Lib.hid hi
  have FJ := Lib.hid hj
  have FQ := Lib.hid hq
  have FQ' := Lib.hid hq'
  have HA := Lib.hid (sact_any i1 i2 i3 i4 i5 j1 j2 j3 j4 j5 k hk)
  rw [hact] at HA
  obtain ⟨a, cap, rfl, hmx⟩ := hv.open'
  clear hv hs hm h1 h2 hi hj hq hq' hk hact
  go_enter Tryz.func28, Tryz.ntmps28
  go_wp2_with fail
  refine HM.out.mono ?_
  rintro e w1 ⟨rfl, b1⟩
  have HB := Lib.hid b1
  clear b1
  go_wp2_with fail
  refine (I1.out _).mono ?_
  rintro e w2 ⟨rfl, b⟩
  replace HB := Lib.hid (below2S HB.out b)
  clear b
  go_wp2_with fail
  refine (I2.out _).mono ?_
  rintro e w3 ⟨rfl, b⟩
  replace HB := Lib.hid (below2S HB.out b)
  clear b
  go_wp2_with fail
  refine (E1.out _).mono ?_
  rintro e w4 ⟨rfl, b⟩
  replace HB := Lib.hid (below2S HB.out b)
  clear b
  go_wp2_with fail
  refine (rfind_eq (HV.out.later HB.out) HR.out u o FI FQ).mono ?_
  rintro e w5 ⟨rfl, b⟩
  have bb := bl_newZ w5 (.cells #[.string ⟨u.toArray⟩, .string ⟨o.toArray⟩, .bool i1, .bool i2, .bool i3, .bool i4, .bool i5] 68)
  have X10 := Lib.hid (heap_newR w5 (.cells #[.string ⟨u.toArray⟩, .string ⟨o.toArray⟩, .bool i1, .bool i2, .bool i3, .bool i4, .bool i5] 68) rfl)
  have HS5 := Lib.hid (below2S HB.out b).size
  replace HB := Lib.hid (below2S (below2S HB.out b) bb)
  clear b bb
  go_wp2_with fail
  generalize hW : w5.alloc (.cells #[.string ⟨u.toArray⟩, .string ⟨o.toArray⟩, .bool i1, .bool i2, .bool i3, .bool i4, .bool i5] 68) = w6 at HB X10 ⊢
  generalize hN : w5.heap.size = n5 at X10 HS5 ⊢
  clear hW hN
  refine (E2.out _).mono ?_
  rintro e w7 ⟨rfl, b⟩
  replace X10 := Lib.hid (heap_laterR X10.out b)
  replace HB := Lib.hid (below2S HB.out b)
  clear b
  go_wp2_with fail
  refine (rfind_eq (HV.out.later HB.out) HR.out o u FJ FQ').mono ?_
  rintro e w8 ⟨rfl, b⟩
  have bb := bl_newZ w8 (.cells #[.string ⟨o.toArray⟩, .string ⟨u.toArray⟩, .bool j1, .bool j2, .bool j3, .bool j4, .bool j5] 68)
  have X12 := Lib.hid (heap_newR w8 (.cells #[.string ⟨o.toArray⟩, .string ⟨u.toArray⟩, .bool j1, .bool j2, .bool j3, .bool j4, .bool j5] 68) rfl)
  have HS8 := Lib.hid (below2S HB.out b).size
  replace X10 := Lib.hid (heap_laterR X10.out b)
  have hne := Lib.hid (heap_ltR X10.out)
  replace X10 := Lib.hid (heap_laterR X10.out bb)
  replace HB := Lib.hid (below2S (below2S HB.out b) bb)
  clear b bb
  obtain ⟨c0, c1, c2, c3, c4, c5, c6⟩ := e7_cells X10.out
  obtain ⟨d0, d1, d2, d3, d4, d5, d6⟩ := e7_cells X12.out
  simp only [Nat.zero_add] at c0 c1 c2 c3 c4 c5 c6 d0 d1 d2 d3 d4 d5 d6
  go_wp2_with fail
  generalize hW : w8.alloc (.cells #[.string ⟨o.toArray⟩, .string ⟨u.toArray⟩, .bool j1, .bool j2, .bool j3, .bool j4, .bool j5] 68) = w9 at HB X10 X12 c0 c1 c2 c3 c4 c5 c6 d0 d1 d2 d3 d4 d5 d6 ⊢
  generalize hN : w8.heap.size = n8 at X12 HS8 hne d0 d1 d2 d3 d4 d5 d6 ⊢
  clear hW hN c0 c1 c2 c3 c4 c5 c6 d0 d1 d2 d3 d4 d5 d6
  refine (HA.out _).mono ?_
  rintro e w10 ⟨rfl, b⟩
  replace X10 := Lib.hid (heap_laterR X10.out b)
  replace X12 := Lib.hid (heap_laterR X12.out b)
  replace HB := Lib.hid (below2S HB.out b)
  clear b
  have hne1 : n5 ≠ n8 := by have := hne.out; omega
  have Y12 := e7_other X12.out hne1 a1 a2 a3 a4 a5
  have Y10 := e7_set X10.out a1 a2 a3 a4 a5
  have Z12 := Lib.hid (e7_set Y12 b1 b2 b3 b4 b5)
  have Z10 := Lib.hid (e7_other Y10 hne1.symm b1 b2 b3 b4 b5)
  have ZB := Lib.hid (setI_below (setI_below HB.out HS5.out a1 a2 a3 a4 a5) HS8.out b1 b2 b3 b4 b5)
  obtain ⟨c0, c1, c2, c3, c4, c5, c6⟩ := e7_cells X10.out
  obtain ⟨d0, d1, d2, d3, d4, d5, d6⟩ := e7_cells Y12
  simp only [Nat.zero_add] at c0 c1 c2 c3 c4 c5 c6 d0 d1 d2 d3 d4 d5 d6
  have f2 := e7_frozen X10.out 2
  have f3 := e7_frozen X10.out 3
  have f4 := e7_frozen X10.out 4
  have f5 := e7_frozen X10.out 5
  have f6 := e7_frozen X10.out 6
  have g2 := e7_frozen Y12 2
  have g3 := e7_frozen Y12 3
  have g4 := e7_frozen Y12 4
  have g5 := e7_frozen Y12 5
  have g6 := e7_frozen Y12 6
  unfold setI at d0 d1 d2 d3 d4 d5 d6 g2 g3 g4 g5 g6
  clear Y10 Y12
  unfold actE
  obtain ⟨e0, e1, e2, e3, e4, e5, e6⟩ := e7_cells Z10.out
  obtain ⟨p0, p1, p2, p3, p4, p5, p6⟩ := e7_cells Z12.out
  simp only [Nat.zero_add] at e0 e1 e2 e3 e4 e5 e6 p0 p1 p2 p3 p4 p5 p6
  unfold setI at e0 e1 e2 e3 e4 e5 e6 p0 p1 p2 p3 p4 p5 p6
  replace X10 := Z10
  replace X12 := Z12
  replace HB := ZB
  clear Z10 Z12 ZB
  go_wp2_with fail
  clear c0 c1 c2 c3 c4 c5 c6 d0 d1 d2 d3 d4 d5 d6 f2 f3 f4 f5 f6 g2 g3 g4 g5 g6 e0 e1 e2 e3 e4 e5 e6 p0 p1 p2 p3 p4 p5 p6 HA FI FJ FQ FQ' HM I1 I2 E1 E2
  refine (GA.out _).mono ?_
  rintro e w14 ⟨rfl, b⟩
  replace X10 := Lib.hid (heap_laterR X10.out b)
  replace X12 := Lib.hid (heap_laterR X12.out b)
  replace HB := Lib.hid (below2S HB.out b)
  clear b
  obtain ⟨e0, e1, e2, e3, e4, e5, e6⟩ := e7_cells X10.out
  obtain ⟨p0, p1, p2, p3, p4, p5, p6⟩ := e7_cells X12.out
  simp only [Nat.zero_add] at e0 e1 e2 e3 e4 e5 e6 p0 p1 p2 p3 p4 p5 p6
  go_wp2_with fail
  clear e0 e1 e2 e3 e4 e5 e6 p0 p1 p2 p3 p4 p5 p6
  have hS0 := two7 X10.out X12.out
  refine wp_region_held_drew (S := (fun W => ((W).cell? ⟨n5, 0, none⟩ = some (.string ⟨u.toArray⟩) ∧ (W).cell? ⟨n5, 1, none⟩ = some (.string ⟨o.toArray⟩) ∧ (W).cell? ⟨n5, 2, none⟩ = some (.bool a1) ∧ (W).cell? ⟨n5, 3, none⟩ = some (.bool a2) ∧ (W).cell? ⟨n5, 4, none⟩ = some (.bool a3) ∧ (W).cell? ⟨n5, 5, none⟩ = some (.bool a4) ∧ (W).cell? ⟨n5, 6, none⟩ = some (.bool a5) ∧ (W).cell? ⟨n8, 0, none⟩ = some (.string ⟨o.toArray⟩) ∧ (W).cell? ⟨n8, 1, none⟩ = some (.string ⟨u.toArray⟩) ∧ (W).cell? ⟨n8, 2, none⟩ = some (.bool b1) ∧ (W).cell? ⟨n8, 3, none⟩ = some (.bool b2) ∧ (W).cell? ⟨n8, 4, none⟩ = some (.bool b3) ∧ (W).cell? ⟨n8, 5, none⟩ = some (.bool b4) ∧ (W).cell? ⟨n8, 6, none⟩ = some (.bool b5)))) (by kernel_rfl) ?_ (fun hHeld => ?_)
  · exact two7 (heap_laterR X10.out (Below.refl _ _).drew) (heap_laterR X12.out (Below.refl _ _).drew)
  refine wpAnyH_take (i := 0) (oi := { dst := some 92, op := Op.move (Operand.tmp 0), type := 22, pos := "rost.go:53", after := #[], guard := none }) (v := ?_) rfl (by as_aux_lemma => kernel_rfl) (by as_aux_lemma => kernel_rfl) (by as_aux_lemma => kernel_rfl) (fun _ _ _ h => h) (Or.inl ⟨by rfl, ?_⟩) (by assumption) ?_
  rotate_left
  · intro w' hSw
    try dsimp only at hSw
    go_simp
    try with_reducible rfl
  try simp only [Act.put, List.setIfInBounds_toArray, List.set_cons_zero, List.set_cons_succ]
  refine wpAnyH_take (i := 1) (oi := { dst := some 93, op := Op.load 68 (Operand.tmp 10), type := 68, pos := "rost.go:53", after := #[], guard := none }) (v := ?_) rfl (by as_aux_lemma => kernel_rfl) (by as_aux_lemma => kernel_rfl) (by as_aux_lemma => kernel_rfl) (fun _ _ _ h => h) (Or.inl ⟨by rfl, ?_⟩) (by assumption) ?_
  rotate_left
  · intro w' hSw
    try dsimp only at hSw
    go_simp
    try with_reducible rfl
  try simp only [Act.put, List.setIfInBounds_toArray, List.set_cons_zero, List.set_cons_succ]
  refine wpAnyH_take (i := 3) (oi := { dst := some 95, op := Op.load 68 (Operand.tmp 12), type := 68, pos := "rost.go:53", after := #[], guard := none }) (v := ?_) rfl (by as_aux_lemma => kernel_rfl) (by as_aux_lemma => kernel_rfl) (by as_aux_lemma => kernel_rfl) (fun _ _ _ h => h) (Or.inl ⟨by rfl, ?_⟩) (by assumption) ?_
  rotate_left
  · intro w' hSw
    try dsimp only at hSw
    go_simp
    try with_reducible rfl
  try simp only [Act.put, List.setIfInBounds_toArray, List.set_cons_zero, List.set_cons_succ]
  refine wpAnyH_ready (rs := [2]) (by as_aux_lemma => kernel_rfl) (by simp) ?_
  refine AllReadyH.cons (o := { dst := some 94, op := Op.call { callee := Callee.value (Operand.func 68), args := #[Operand.tmp 92, Operand.tmp 93], argTypes := #[22, 68] }, type := 22, pos := "rost.go:53", after := #[{ on := 0, ground := Ground.data }, { on := 1, ground := Ground.data }], guard := none }) rfl (fun Kx hK => ?_) AllReadyH.nil
  go_simp
  refine (rwith_any ((HV.out.later HB.out).later (Below.refl _ _).drew) HR.out (by omega) u o a1 a2 a3 a4 a5).mono ?_
  rintro e wA ⟨y, rfl, hy, bA⟩
  have bd := below2Z (Below.refl _ _).drew bA
  have HY := Lib.hid hy
  have YA := Lib.hid (hy.rd entOK).ents
  have X10A := Lib.hid (heap_laterR X10.out bd)
  have X12A := Lib.hid (heap_laterR X12.out bd)
  have HBA := Lib.hid (below2S HB.out bd)
  clear bd hy bA
  go_wp2_with fail
  refine hK.out _ _ ?_ (fun hHeld2 => ?_)
  · exact two7 X10A.out X12A.out
  clear hK Kx hHeld
  have hHeld := hHeld2
  clear hHeld2
  try simp only [Act.put, List.setIfInBounds_toArray, List.set_cons_zero, List.set_cons_succ]
  refine wpAnyH_ready (rs := [4]) (by as_aux_lemma => kernel_rfl) (by simp) ?_
  refine AllReadyH.cons (o := { dst := some 96, op := Op.call { callee := Callee.value (Operand.func 68), args := #[Operand.tmp 94, Operand.tmp 95], argTypes := #[22, 68] }, type := 22, pos := "rost.go:53", after := #[{ on := 2, ground := Ground.data }, { on := 3, ground := Ground.data }, { on := 2, ground := Ground.chain }], guard := none }) rfl (fun Kx hK => ?_) AllReadyH.nil
  go_simp
  refine (rwith_any YA.out (rise_putO entOrd HR.out ⟨u, o, ⟨a1, a2, a3, a4, a5⟩⟩) (by have := putO_le l ⟨u, o, ⟨a1, a2, a3, a4, a5⟩⟩; omega) o u b1 b2 b3 b4 b5).mono ?_
  rintro e wB ⟨z, rfl, hz, bB⟩
  have ZE := Lib.hid (hz.rd entOK).ents
  have X10B := Lib.hid (heap_laterR X10A.out bB)
  have X12B := Lib.hid (heap_laterR X12A.out bB)
  have HBB := Lib.hid (below2S HBA.out bB)
  clear hz bB
  go_wp2_with fail
  refine hK.out _ _ ?_ (fun hHeld2 => ?_)
  · exact two7 X10B.out X12B.out
  clear hK Kx hHeld
  have hHeld := hHeld2
  clear hHeld2
  try simp only [Act.put, List.setIfInBounds_toArray, List.set_cons_zero, List.set_cons_succ]
  refine wpAnyH_take (i := 5) (oi := { dst := some 8, op := Op.assign (Operand.tmp 96), type := 22, pos := "rost.go:53", after := #[{ on := 4, ground := Ground.data }, { on := 4, ground := Ground.chain }, { on := 0, ground := Ground.phase }, { on := 1, ground := Ground.phase }, { on := 2, ground := Ground.phase }, { on := 3, ground := Ground.phase }, { on := 4, ground := Ground.phase }], guard := none }) (v := ?_) rfl (by as_aux_lemma => kernel_rfl) (by as_aux_lemma => kernel_rfl) (by as_aux_lemma => kernel_rfl) (fun _ _ _ h => h) (Or.inl ⟨by rfl, ?_⟩) (by assumption) ?_
  rotate_left
  · intro w' hSw
    try dsimp only at hSw
    go_simp
    try with_reducible rfl
  try simp only [Act.put, List.setIfInBounds_toArray, List.set_cons_zero, List.set_cons_succ]
  refine wpAnyH_take (i := 6) (oi := { dst := some 9, op := Op.assign (Operand.const (Value.int IntKind.i64 0)), type := 35, pos := "rost.go:53", after := #[{ on := 5, ground := Ground.chain }, { on := 0, ground := Ground.phase }, { on := 1, ground := Ground.phase }, { on := 2, ground := Ground.phase }, { on := 3, ground := Ground.phase }, { on := 4, ground := Ground.phase }, { on := 5, ground := Ground.phase }], guard := none }) (v := ?_) rfl (by as_aux_lemma => kernel_rfl) (by as_aux_lemma => kernel_rfl) (by as_aux_lemma => kernel_rfl) (fun _ _ _ h => h) (Or.inl ⟨by rfl, ?_⟩) (by assumption) ?_
  rotate_left
  · intro w' hSw
    try dsimp only at hSw
    go_simp
    try with_reducible rfl
  try simp only [Act.put, List.setIfInBounds_toArray, List.set_cons_zero, List.set_cons_succ]
  refine wpAnyH_done (by kernel_rfl) ?_ _
  go_wp2_with fail
  go_ret2
  exact ⟨_, rfl, ZE.out, HBB.out⟩

set_option maxHeartbeats 3200000 in
set_option maxRecDepth 100000 in
theorem rdoH2 {w : World} {v : Value} {l : List Ent} (hv : Ents w v l) (hs : ShortE l) (hl : l.length ≤ 900) (u o : List UInt8) (hu : u.length ≤ 4294967296) (ho : o.length ≤ 4294967296) (k : Int) (hm : roMayC l = true) (h1 : idIs u = true) (h2 : idIs o = true) (h3 : (u == o) = false) {i1 i2 i3 i4 i5 j1 j2 j3 j4 j5 q q' a1 a2 a3 a4 a5 b1 b2 b3 b4 b5 : Bool} (hi : roIt l u o = ⟨i1, i2, i3, i4, i5⟩) (hj : roIt l o u = ⟨j1, j2, j3, j4, j5⟩) (hq : (l.any fun x => entIs x ⟨u, o, It.zero⟩) = q) (hq' : (l.any fun x => entIs x ⟨o, u, It.zero⟩) = q') (hk : (Lit.int .i64 k).wf = true) (hact : suAct ⟨i1, i2, i3, i4, i5⟩ ⟨j1, j2, j3, j4, j5⟩ k = (⟨a1, a2, a3, a4, a5⟩, ⟨b1, b2, b3, b4, b5⟩, 0)) (hf : q = true) (ga : suEmpty ⟨a1, a2, a3, a4, a5⟩ = true) (gb : suEmpty ⟨b1, b2, b3, b4, b5⟩ = false) :
    Calls Tryz.prog 28 #[v, .int .i64 k, .string ⟨u.toArray⟩, .string ⟨o.toArray⟩] w fun e w' => ∃ v', e = .returned (.tuple #[v', .int .i64 0]) ∧ Ents w' v' (putO entLt entIs (putO entLt entIs l ⟨u, o, ⟨a1, a2, a3, a4, a5⟩⟩) ⟨o, u, ⟨b1, b2, b3, b4, b5⟩⟩) ∧ Below w.heap.size w w' := by
  subst hf
  have GA := Lib.hid (sempty_eq a1 a2 a3 a4 a5 ga)
  have GB := Lib.hid (sempty_eq b1 b2 b3 b4 b5 gb)
  clear ga gb
  have HV := Lib.hid hv
  have HM := Lib.hid (romay_any hv hs (Lib.hid hm))
  have HR := Lib.hid (roMay_rise hm)
  have I1 := Lib.hid (is_eq u hu (Lib.hid h1))
  have I2 := Lib.hid (is_eq o ho (Lib.hid h2))
  have E1 := Lib.hid (entry_any u o)
  have E2 := Lib.hid (entry_any o u)
  have FI := Lib.hid hi
  have FJ := Lib.hid hj
  have FQ := Lib.hid hq
  have FQ' := Lib.hid hq'
  have HA := Lib.hid (sact_any i1 i2 i3 i4 i5 j1 j2 j3 j4 j5 k hk)
  rw [hact] at HA
  obtain ⟨a, cap, rfl, hmx⟩ := hv.open'
  clear hv hs hm h1 h2 hi hj hq hq' hk hact
  go_enter Tryz.func28, Tryz.ntmps28
  go_wp2_with fail
  refine HM.out.mono ?_
  rintro e w1 ⟨rfl, b1⟩
  have HB := Lib.hid b1
  clear b1
  go_wp2_with fail
  refine (I1.out _).mono ?_
  rintro e w2 ⟨rfl, b⟩
  replace HB := Lib.hid (below2S HB.out b)
  clear b
  go_wp2_with fail
  refine (I2.out _).mono ?_
  rintro e w3 ⟨rfl, b⟩
  replace HB := Lib.hid (below2S HB.out b)
  clear b
  go_wp2_with fail
  refine (E1.out _).mono ?_
  rintro e w4 ⟨rfl, b⟩
  replace HB := Lib.hid (below2S HB.out b)
  clear b
  go_wp2_with fail
  refine (rfind_eq (HV.out.later HB.out) HR.out u o FI FQ).mono ?_
  rintro e w5 ⟨rfl, b⟩
  have bb := bl_newZ w5 (.cells #[.string ⟨u.toArray⟩, .string ⟨o.toArray⟩, .bool i1, .bool i2, .bool i3, .bool i4, .bool i5] 68)
  have X10 := Lib.hid (heap_newR w5 (.cells #[.string ⟨u.toArray⟩, .string ⟨o.toArray⟩, .bool i1, .bool i2, .bool i3, .bool i4, .bool i5] 68) rfl)
  have HS5 := Lib.hid (below2S HB.out b).size
  replace HB := Lib.hid (below2S (below2S HB.out b) bb)
  clear b bb
  go_wp2_with fail
  generalize hW : w5.alloc (.cells #[.string ⟨u.toArray⟩, .string ⟨o.toArray⟩, .bool i1, .bool i2, .bool i3, .bool i4, .bool i5] 68) = w6 at HB X10 ⊢
  generalize hN : w5.heap.size = n5 at X10 HS5 ⊢
  clear hW hN
  refine (E2.out _).mono ?_
  rintro e w7 ⟨rfl, b⟩
  replace X10 := Lib.hid (heap_laterR X10.out b)
  replace HB := Lib.hid (below2S HB.out b)
  clear b
  go_wp2_with fail
  refine (rfind_eq (HV.out.later HB.out) HR.out o u FJ FQ').mono ?_
  rintro e w8 ⟨rfl, b⟩
  have bb := bl_newZ w8 (.cells #[.string ⟨o.toArray⟩, .string ⟨u.toArray⟩, .bool j1, .bool j2, .bool j3, .bool j4, .bool j5] 68)
  have X12 := Lib.hid (heap_newR w8 (.cells #[.string ⟨o.toArray⟩, .string ⟨u.toArray⟩, .bool j1, .bool j2, .bool j3, .bool j4, .bool j5] 68) rfl)
  have HS8 := Lib.hid (below2S HB.out b).size
  replace X10 := Lib.hid (heap_laterR X10.out b)
  have hne := Lib.hid (heap_ltR X10.out)
  replace X10 := Lib.hid (heap_laterR X10.out bb)
  replace HB := Lib.hid (below2S (below2S HB.out b) bb)
  clear b bb
  obtain ⟨c0, c1, c2, c3, c4, c5, c6⟩ := e7_cells X10.out
  obtain ⟨d0, d1, d2, d3, d4, d5, d6⟩ := e7_cells X12.out
  simp only [Nat.zero_add] at c0 c1 c2 c3 c4 c5 c6 d0 d1 d2 d3 d4 d5 d6
  go_wp2_with fail
  generalize hW : w8.alloc (.cells #[.string ⟨o.toArray⟩, .string ⟨u.toArray⟩, .bool j1, .bool j2, .bool j3, .bool j4, .bool j5] 68) = w9 at HB X10 X12 c0 c1 c2 c3 c4 c5 c6 d0 d1 d2 d3 d4 d5 d6 ⊢
  generalize hN : w8.heap.size = n8 at X12 HS8 hne d0 d1 d2 d3 d4 d5 d6 ⊢
  clear hW hN c0 c1 c2 c3 c4 c5 c6 d0 d1 d2 d3 d4 d5 d6
  refine (HA.out _).mono ?_
  rintro e w10 ⟨rfl, b⟩
  replace X10 := Lib.hid (heap_laterR X10.out b)
  replace X12 := Lib.hid (heap_laterR X12.out b)
  replace HB := Lib.hid (below2S HB.out b)
  clear b
  have hne1 : n5 ≠ n8 := by have := hne.out; omega
  have Y12 := e7_other X12.out hne1 a1 a2 a3 a4 a5
  have Y10 := e7_set X10.out a1 a2 a3 a4 a5
  have Z12 := Lib.hid (e7_set Y12 b1 b2 b3 b4 b5)
  have Z10 := Lib.hid (e7_other Y10 hne1.symm b1 b2 b3 b4 b5)
  have ZB := Lib.hid (setI_below (setI_below HB.out HS5.out a1 a2 a3 a4 a5) HS8.out b1 b2 b3 b4 b5)
  obtain ⟨c0, c1, c2, c3, c4, c5, c6⟩ := e7_cells X10.out
  obtain ⟨d0, d1, d2, d3, d4, d5, d6⟩ := e7_cells Y12
  simp only [Nat.zero_add] at c0 c1 c2 c3 c4 c5 c6 d0 d1 d2 d3 d4 d5 d6
  have f2 := e7_frozen X10.out 2
  have f3 := e7_frozen X10.out 3
  have f4 := e7_frozen X10.out 4
  have f5 := e7_frozen X10.out 5
  have f6 := e7_frozen X10.out 6
  have g2 := e7_frozen Y12 2
  have g3 := e7_frozen Y12 3
  have g4 := e7_frozen Y12 4
  have g5 := e7_frozen Y12 5
  have g6 := e7_frozen Y12 6
  unfold setI at d0 d1 d2 d3 d4 d5 d6 g2 g3 g4 g5 g6
  clear Y10 Y12
  unfold actE
  obtain ⟨e0, e1, e2, e3, e4, e5, e6⟩ := e7_cells Z10.out
  obtain ⟨p0, p1, p2, p3, p4, p5, p6⟩ := e7_cells Z12.out
  simp only [Nat.zero_add] at e0 e1 e2 e3 e4 e5 e6 p0 p1 p2 p3 p4 p5 p6
  unfold setI at e0 e1 e2 e3 e4 e5 e6 p0 p1 p2 p3 p4 p5 p6
  replace X10 := Z10
  replace X12 := Z12
  replace HB := ZB
  clear Z10 Z12 ZB
  go_wp2_with fail
  clear c0 c1 c2 c3 c4 c5 c6 d0 d1 d2 d3 d4 d5 d6 f2 f3 f4 f5 f6 g2 g3 g4 g5 g6 e0 e1 e2 e3 e4 e5 e6 p0 p1 p2 p3 p4 p5 p6 HA FI FJ FQ FQ' HM I1 I2 E1 E2
  refine (GA.out _).mono ?_
  rintro e w14 ⟨rfl, b⟩
  replace X10 := Lib.hid (heap_laterR X10.out b)
  replace X12 := Lib.hid (heap_laterR X12.out b)
  replace HB := Lib.hid (below2S HB.out b)
  clear b
  obtain ⟨e0, e1, e2, e3, e4, e5, e6⟩ := e7_cells X10.out
  obtain ⟨p0, p1, p2, p3, p4, p5, p6⟩ := e7_cells X12.out
  simp only [Nat.zero_add] at e0 e1 e2 e3 e4 e5 e6 p0 p1 p2 p3 p4 p5 p6
  go_wp2_with fail
  clear e0 e1 e2 e3 e4 e5 e6 p0 p1 p2 p3 p4 p5 p6
  refine (GB.out _).mono ?_
  rintro e w15 ⟨rfl, b⟩
  replace X10 := Lib.hid (heap_laterR X10.out b)
  replace X12 := Lib.hid (heap_laterR X12.out b)
  replace HB := Lib.hid (below2S HB.out b)
  clear b
  go_wp2_with fail
  have hS0 := two7 X10.out X12.out
  refine wp_region_held_drew (S := (fun W => ((W).cell? ⟨n5, 0, none⟩ = some (.string ⟨u.toArray⟩) ∧ (W).cell? ⟨n5, 1, none⟩ = some (.string ⟨o.toArray⟩) ∧ (W).cell? ⟨n5, 2, none⟩ = some (.bool a1) ∧ (W).cell? ⟨n5, 3, none⟩ = some (.bool a2) ∧ (W).cell? ⟨n5, 4, none⟩ = some (.bool a3) ∧ (W).cell? ⟨n5, 5, none⟩ = some (.bool a4) ∧ (W).cell? ⟨n5, 6, none⟩ = some (.bool a5) ∧ (W).cell? ⟨n8, 0, none⟩ = some (.string ⟨o.toArray⟩) ∧ (W).cell? ⟨n8, 1, none⟩ = some (.string ⟨u.toArray⟩) ∧ (W).cell? ⟨n8, 2, none⟩ = some (.bool b1) ∧ (W).cell? ⟨n8, 3, none⟩ = some (.bool b2) ∧ (W).cell? ⟨n8, 4, none⟩ = some (.bool b3) ∧ (W).cell? ⟨n8, 5, none⟩ = some (.bool b4) ∧ (W).cell? ⟨n8, 6, none⟩ = some (.bool b5)))) (by kernel_rfl) ?_ (fun hHeld => ?_)
  · exact two7 (heap_laterR X10.out (Below.refl _ _).drew) (heap_laterR X12.out (Below.refl _ _).drew)
  refine wpAnyH_take (i := 0) (oi := { dst := some 92, op := Op.move (Operand.tmp 0), type := 22, pos := "rost.go:53", after := #[], guard := none }) (v := ?_) rfl (by as_aux_lemma => kernel_rfl) (by as_aux_lemma => kernel_rfl) (by as_aux_lemma => kernel_rfl) (fun _ _ _ h => h) (Or.inl ⟨by rfl, ?_⟩) (by assumption) ?_
  rotate_left
  · intro w' hSw
    try dsimp only at hSw
    go_simp
    try with_reducible rfl
  try simp only [Act.put, List.setIfInBounds_toArray, List.set_cons_zero, List.set_cons_succ]
  refine wpAnyH_take (i := 1) (oi := { dst := some 93, op := Op.load 68 (Operand.tmp 10), type := 68, pos := "rost.go:53", after := #[], guard := none }) (v := ?_) rfl (by as_aux_lemma => kernel_rfl) (by as_aux_lemma => kernel_rfl) (by as_aux_lemma => kernel_rfl) (fun _ _ _ h => h) (Or.inl ⟨by rfl, ?_⟩) (by assumption) ?_
  rotate_left
  · intro w' hSw
    try dsimp only at hSw
    go_simp
    try with_reducible rfl
  try simp only [Act.put, List.setIfInBounds_toArray, List.set_cons_zero, List.set_cons_succ]
  refine wpAnyH_take (i := 3) (oi := { dst := some 95, op := Op.load 68 (Operand.tmp 12), type := 68, pos := "rost.go:53", after := #[], guard := none }) (v := ?_) rfl (by as_aux_lemma => kernel_rfl) (by as_aux_lemma => kernel_rfl) (by as_aux_lemma => kernel_rfl) (fun _ _ _ h => h) (Or.inl ⟨by rfl, ?_⟩) (by assumption) ?_
  rotate_left
  · intro w' hSw
    try dsimp only at hSw
    go_simp
    try with_reducible rfl
  try simp only [Act.put, List.setIfInBounds_toArray, List.set_cons_zero, List.set_cons_succ]
  refine wpAnyH_ready (rs := [2]) (by as_aux_lemma => kernel_rfl) (by simp) ?_
  refine AllReadyH.cons (o := { dst := some 94, op := Op.call { callee := Callee.value (Operand.func 68), args := #[Operand.tmp 92, Operand.tmp 93], argTypes := #[22, 68] }, type := 22, pos := "rost.go:53", after := #[{ on := 0, ground := Ground.data }, { on := 1, ground := Ground.data }], guard := none }) rfl (fun Kx hK => ?_) AllReadyH.nil
  go_simp
  refine (rwith_any ((HV.out.later HB.out).later (Below.refl _ _).drew) HR.out (by omega) u o a1 a2 a3 a4 a5).mono ?_
  rintro e wA ⟨y, rfl, hy, bA⟩
  have bd := below2Z (Below.refl _ _).drew bA
  have HY := Lib.hid hy
  have YA := Lib.hid (hy.rd entOK).ents
  have X10A := Lib.hid (heap_laterR X10.out bd)
  have X12A := Lib.hid (heap_laterR X12.out bd)
  have HBA := Lib.hid (below2S HB.out bd)
  clear bd hy bA
  go_wp2_with fail
  refine hK.out _ _ ?_ (fun hHeld2 => ?_)
  · exact two7 X10A.out X12A.out
  clear hK Kx hHeld
  have hHeld := hHeld2
  clear hHeld2
  try simp only [Act.put, List.setIfInBounds_toArray, List.set_cons_zero, List.set_cons_succ]
  refine wpAnyH_ready (rs := [4]) (by as_aux_lemma => kernel_rfl) (by simp) ?_
  refine AllReadyH.cons (o := { dst := some 96, op := Op.call { callee := Callee.value (Operand.func 68), args := #[Operand.tmp 94, Operand.tmp 95], argTypes := #[22, 68] }, type := 22, pos := "rost.go:53", after := #[{ on := 2, ground := Ground.data }, { on := 3, ground := Ground.data }, { on := 2, ground := Ground.chain }], guard := none }) rfl (fun Kx hK => ?_) AllReadyH.nil
  go_simp
  refine (rwith_any YA.out (rise_putO entOrd HR.out ⟨u, o, ⟨a1, a2, a3, a4, a5⟩⟩) (by have := putO_le l ⟨u, o, ⟨a1, a2, a3, a4, a5⟩⟩; omega) o u b1 b2 b3 b4 b5).mono ?_
  rintro e wB ⟨z, rfl, hz, bB⟩
  have ZE := Lib.hid (hz.rd entOK).ents
  have X10B := Lib.hid (heap_laterR X10A.out bB)
  have X12B := Lib.hid (heap_laterR X12A.out bB)
  have HBB := Lib.hid (below2S HBA.out bB)
  clear hz bB
  go_wp2_with fail
  refine hK.out _ _ ?_ (fun hHeld2 => ?_)
  · exact two7 X10B.out X12B.out
  clear hK Kx hHeld
  have hHeld := hHeld2
  clear hHeld2
  try simp only [Act.put, List.setIfInBounds_toArray, List.set_cons_zero, List.set_cons_succ]
  refine wpAnyH_take (i := 5) (oi := { dst := some 8, op := Op.assign (Operand.tmp 96), type := 22, pos := "rost.go:53", after := #[{ on := 4, ground := Ground.data }, { on := 4, ground := Ground.chain }, { on := 0, ground := Ground.phase }, { on := 1, ground := Ground.phase }, { on := 2, ground := Ground.phase }, { on := 3, ground := Ground.phase }, { on := 4, ground := Ground.phase }], guard := none }) (v := ?_) rfl (by as_aux_lemma => kernel_rfl) (by as_aux_lemma => kernel_rfl) (by as_aux_lemma => kernel_rfl) (fun _ _ _ h => h) (Or.inl ⟨by rfl, ?_⟩) (by assumption) ?_
  rotate_left
  · intro w' hSw
    try dsimp only at hSw
    go_simp
    try with_reducible rfl
  try simp only [Act.put, List.setIfInBounds_toArray, List.set_cons_zero, List.set_cons_succ]
  refine wpAnyH_take (i := 6) (oi := { dst := some 9, op := Op.assign (Operand.const (Value.int IntKind.i64 0)), type := 35, pos := "rost.go:53", after := #[{ on := 5, ground := Ground.chain }, { on := 0, ground := Ground.phase }, { on := 1, ground := Ground.phase }, { on := 2, ground := Ground.phase }, { on := 3, ground := Ground.phase }, { on := 4, ground := Ground.phase }, { on := 5, ground := Ground.phase }], guard := none }) (v := ?_) rfl (by as_aux_lemma => kernel_rfl) (by as_aux_lemma => kernel_rfl) (by as_aux_lemma => kernel_rfl) (fun _ _ _ h => h) (Or.inl ⟨by rfl, ?_⟩) (by assumption) ?_
  rotate_left
  · intro w' hSw
    try dsimp only at hSw
    go_simp
    try with_reducible rfl
  try simp only [Act.put, List.setIfInBounds_toArray, List.set_cons_zero, List.set_cons_succ]
  refine wpAnyH_done (by kernel_rfl) ?_ _
  go_wp2_with fail
  go_ret2
  exact ⟨_, rfl, ZE.out, HBB.out⟩

set_option maxHeartbeats 3200000 in
set_option maxRecDepth 100000 in
theorem rdoH3 {w : World} {v : Value} {l : List Ent} (hv : Ents w v l) (hs : ShortE l) (hl : l.length ≤ 900) (u o : List UInt8) (hu : u.length ≤ 4294967296) (ho : o.length ≤ 4294967296) (k : Int) (hm : roMayC l = true) (h1 : idIs u = true) (h2 : idIs o = true) (h3 : (u == o) = false) {i1 i2 i3 i4 i5 j1 j2 j3 j4 j5 q q' a1 a2 a3 a4 a5 b1 b2 b3 b4 b5 : Bool} (hi : roIt l u o = ⟨i1, i2, i3, i4, i5⟩) (hj : roIt l o u = ⟨j1, j2, j3, j4, j5⟩) (hq : (l.any fun x => entIs x ⟨u, o, It.zero⟩) = q) (hq' : (l.any fun x => entIs x ⟨o, u, It.zero⟩) = q') (hk : (Lit.int .i64 k).wf = true) (hact : suAct ⟨i1, i2, i3, i4, i5⟩ ⟨j1, j2, j3, j4, j5⟩ k = (⟨a1, a2, a3, a4, a5⟩, ⟨b1, b2, b3, b4, b5⟩, 0)) (hf : q = false) (gu : decide (16 ≤ (roOf l u).length) = false) (go : decide (16 ≤ (roOf l o).length) = false) (ga : suEmpty ⟨a1, a2, a3, a4, a5⟩ = false) :
    Calls Tryz.prog 28 #[v, .int .i64 k, .string ⟨u.toArray⟩, .string ⟨o.toArray⟩] w fun e w' => ∃ v', e = .returned (.tuple #[v', .int .i64 0]) ∧ Ents w' v' (putO entLt entIs (putO entLt entIs l ⟨u, o, ⟨a1, a2, a3, a4, a5⟩⟩) ⟨o, u, ⟨b1, b2, b3, b4, b5⟩⟩) ∧ Below w.heap.size w w' := by
  subst hf
  have GU := Lib.hid gu
  have GO := Lib.hid go
  clear gu go
  have GA := Lib.hid (sempty_eq a1 a2 a3 a4 a5 ga)
  clear ga
  have HV := Lib.hid hv
  have HM := Lib.hid (romay_any hv hs (Lib.hid hm))
  have HR := Lib.hid (roMay_rise hm)
  have I1 := Lib.hid (is_eq u hu (Lib.hid h1))
  have I2 := Lib.hid (is_eq o ho (Lib.hid h2))
  have E1 := Lib.hid (entry_any u o)
  have E2 := Lib.hid (entry_any o u)
  have FI := Lib.hid hi
  have FJ := Lib.hid hj
  have FQ := Lib.hid hq
  have FQ' := Lib.hid hq'
  have HA := Lib.hid (sact_any i1 i2 i3 i4 i5 j1 j2 j3 j4 j5 k hk)
  rw [hact] at HA
  obtain ⟨a, cap, rfl, hmx⟩ := hv.open'
  clear hv hs hm h1 h2 hi hj hq hq' hk hact
  go_enter Tryz.func28, Tryz.ntmps28
  go_wp2_with fail
  refine HM.out.mono ?_
  rintro e w1 ⟨rfl, b1⟩
  have HB := Lib.hid b1
  clear b1
  go_wp2_with fail
  refine (I1.out _).mono ?_
  rintro e w2 ⟨rfl, b⟩
  replace HB := Lib.hid (below2S HB.out b)
  clear b
  go_wp2_with fail
  refine (I2.out _).mono ?_
  rintro e w3 ⟨rfl, b⟩
  replace HB := Lib.hid (below2S HB.out b)
  clear b
  go_wp2_with fail
  refine (E1.out _).mono ?_
  rintro e w4 ⟨rfl, b⟩
  replace HB := Lib.hid (below2S HB.out b)
  clear b
  go_wp2_with fail
  refine (rfind_eq (HV.out.later HB.out) HR.out u o FI FQ).mono ?_
  rintro e w5 ⟨rfl, b⟩
  have bb := bl_newZ w5 (.cells #[.string ⟨u.toArray⟩, .string ⟨o.toArray⟩, .bool i1, .bool i2, .bool i3, .bool i4, .bool i5] 68)
  have X10 := Lib.hid (heap_newR w5 (.cells #[.string ⟨u.toArray⟩, .string ⟨o.toArray⟩, .bool i1, .bool i2, .bool i3, .bool i4, .bool i5] 68) rfl)
  have HS5 := Lib.hid (below2S HB.out b).size
  replace HB := Lib.hid (below2S (below2S HB.out b) bb)
  clear b bb
  go_wp2_with fail
  generalize hW : w5.alloc (.cells #[.string ⟨u.toArray⟩, .string ⟨o.toArray⟩, .bool i1, .bool i2, .bool i3, .bool i4, .bool i5] 68) = w6 at HB X10 ⊢
  generalize hN : w5.heap.size = n5 at X10 HS5 ⊢
  clear hW hN
  refine (E2.out _).mono ?_
  rintro e w7 ⟨rfl, b⟩
  replace X10 := Lib.hid (heap_laterR X10.out b)
  replace HB := Lib.hid (below2S HB.out b)
  clear b
  go_wp2_with fail
  refine (rfind_eq (HV.out.later HB.out) HR.out o u FJ FQ').mono ?_
  rintro e w8 ⟨rfl, b⟩
  have bb := bl_newZ w8 (.cells #[.string ⟨o.toArray⟩, .string ⟨u.toArray⟩, .bool j1, .bool j2, .bool j3, .bool j4, .bool j5] 68)
  have X12 := Lib.hid (heap_newR w8 (.cells #[.string ⟨o.toArray⟩, .string ⟨u.toArray⟩, .bool j1, .bool j2, .bool j3, .bool j4, .bool j5] 68) rfl)
  have HS8 := Lib.hid (below2S HB.out b).size
  replace X10 := Lib.hid (heap_laterR X10.out b)
  have hne := Lib.hid (heap_ltR X10.out)
  replace X10 := Lib.hid (heap_laterR X10.out bb)
  replace HB := Lib.hid (below2S (below2S HB.out b) bb)
  clear b bb
  obtain ⟨c0, c1, c2, c3, c4, c5, c6⟩ := e7_cells X10.out
  obtain ⟨d0, d1, d2, d3, d4, d5, d6⟩ := e7_cells X12.out
  simp only [Nat.zero_add] at c0 c1 c2 c3 c4 c5 c6 d0 d1 d2 d3 d4 d5 d6
  go_wp2_with fail
  generalize hW : w8.alloc (.cells #[.string ⟨o.toArray⟩, .string ⟨u.toArray⟩, .bool j1, .bool j2, .bool j3, .bool j4, .bool j5] 68) = w9 at HB X10 X12 c0 c1 c2 c3 c4 c5 c6 d0 d1 d2 d3 d4 d5 d6 ⊢
  generalize hN : w8.heap.size = n8 at X12 HS8 hne d0 d1 d2 d3 d4 d5 d6 ⊢
  clear hW hN c0 c1 c2 c3 c4 c5 c6 d0 d1 d2 d3 d4 d5 d6
  refine (HA.out _).mono ?_
  rintro e w10 ⟨rfl, b⟩
  replace X10 := Lib.hid (heap_laterR X10.out b)
  replace X12 := Lib.hid (heap_laterR X12.out b)
  replace HB := Lib.hid (below2S HB.out b)
  clear b
  have hne1 : n5 ≠ n8 := by have := hne.out; omega
  have Y12 := e7_other X12.out hne1 a1 a2 a3 a4 a5
  have Y10 := e7_set X10.out a1 a2 a3 a4 a5
  have Z12 := Lib.hid (e7_set Y12 b1 b2 b3 b4 b5)
  have Z10 := Lib.hid (e7_other Y10 hne1.symm b1 b2 b3 b4 b5)
  have ZB := Lib.hid (setI_below (setI_below HB.out HS5.out a1 a2 a3 a4 a5) HS8.out b1 b2 b3 b4 b5)
  obtain ⟨c0, c1, c2, c3, c4, c5, c6⟩ := e7_cells X10.out
  obtain ⟨d0, d1, d2, d3, d4, d5, d6⟩ := e7_cells Y12
  simp only [Nat.zero_add] at c0 c1 c2 c3 c4 c5 c6 d0 d1 d2 d3 d4 d5 d6
  have f2 := e7_frozen X10.out 2
  have f3 := e7_frozen X10.out 3
  have f4 := e7_frozen X10.out 4
  have f5 := e7_frozen X10.out 5
  have f6 := e7_frozen X10.out 6
  have g2 := e7_frozen Y12 2
  have g3 := e7_frozen Y12 3
  have g4 := e7_frozen Y12 4
  have g5 := e7_frozen Y12 5
  have g6 := e7_frozen Y12 6
  unfold setI at d0 d1 d2 d3 d4 d5 d6 g2 g3 g4 g5 g6
  clear Y10 Y12
  unfold actE
  obtain ⟨e0, e1, e2, e3, e4, e5, e6⟩ := e7_cells Z10.out
  obtain ⟨p0, p1, p2, p3, p4, p5, p6⟩ := e7_cells Z12.out
  simp only [Nat.zero_add] at e0 e1 e2 e3 e4 e5 e6 p0 p1 p2 p3 p4 p5 p6
  unfold setI at e0 e1 e2 e3 e4 e5 e6 p0 p1 p2 p3 p4 p5 p6
  replace X10 := Z10
  replace X12 := Z12
  replace HB := ZB
  clear Z10 Z12 ZB
  go_wp2_with fail
  clear c0 c1 c2 c3 c4 c5 c6 d0 d1 d2 d3 d4 d5 d6 f2 f3 f4 f5 f6 g2 g3 g4 g5 g6 e0 e1 e2 e3 e4 e5 e6 p0 p1 p2 p3 p4 p5 p6 HA FI FJ FQ FQ' HM I1 I2 E1 E2
  refine (risFull_any (HV.out.later HB.out) (by omega) u GU).mono ?_
  rintro e w12 ⟨rfl, b⟩
  replace X10 := Lib.hid (heap_laterR X10.out b)
  replace X12 := Lib.hid (heap_laterR X12.out b)
  replace HB := Lib.hid (below2S HB.out b)
  clear b
  go_wp2_with fail
  refine (risFull_any (HV.out.later HB.out) (by omega) o GO).mono ?_
  rintro e w13 ⟨rfl, b⟩
  replace X10 := Lib.hid (heap_laterR X10.out b)
  replace X12 := Lib.hid (heap_laterR X12.out b)
  replace HB := Lib.hid (below2S HB.out b)
  clear b
  obtain ⟨e0, e1, e2, e3, e4, e5, e6⟩ := e7_cells X10.out
  obtain ⟨p0, p1, p2, p3, p4, p5, p6⟩ := e7_cells X12.out
  simp only [Nat.zero_add] at e0 e1 e2 e3 e4 e5 e6 p0 p1 p2 p3 p4 p5 p6
  go_wp2_with fail
  clear e0 e1 e2 e3 e4 e5 e6 p0 p1 p2 p3 p4 p5 p6
  refine (GA.out _).mono ?_
  rintro e w14 ⟨rfl, b⟩
  replace X10 := Lib.hid (heap_laterR X10.out b)
  replace X12 := Lib.hid (heap_laterR X12.out b)
  replace HB := Lib.hid (below2S HB.out b)
  clear b
  obtain ⟨e0, e1, e2, e3, e4, e5, e6⟩ := e7_cells X10.out
  obtain ⟨p0, p1, p2, p3, p4, p5, p6⟩ := e7_cells X12.out
  simp only [Nat.zero_add] at e0 e1 e2 e3 e4 e5 e6 p0 p1 p2 p3 p4 p5 p6
  go_wp2_with fail
  clear e0 e1 e2 e3 e4 e5 e6 p0 p1 p2 p3 p4 p5 p6
  have hS0 := two7 X10.out X12.out
  refine wp_region_held_drew (S := (fun W => ((W).cell? ⟨n5, 0, none⟩ = some (.string ⟨u.toArray⟩) ∧ (W).cell? ⟨n5, 1, none⟩ = some (.string ⟨o.toArray⟩) ∧ (W).cell? ⟨n5, 2, none⟩ = some (.bool a1) ∧ (W).cell? ⟨n5, 3, none⟩ = some (.bool a2) ∧ (W).cell? ⟨n5, 4, none⟩ = some (.bool a3) ∧ (W).cell? ⟨n5, 5, none⟩ = some (.bool a4) ∧ (W).cell? ⟨n5, 6, none⟩ = some (.bool a5) ∧ (W).cell? ⟨n8, 0, none⟩ = some (.string ⟨o.toArray⟩) ∧ (W).cell? ⟨n8, 1, none⟩ = some (.string ⟨u.toArray⟩) ∧ (W).cell? ⟨n8, 2, none⟩ = some (.bool b1) ∧ (W).cell? ⟨n8, 3, none⟩ = some (.bool b2) ∧ (W).cell? ⟨n8, 4, none⟩ = some (.bool b3) ∧ (W).cell? ⟨n8, 5, none⟩ = some (.bool b4) ∧ (W).cell? ⟨n8, 6, none⟩ = some (.bool b5)))) (by kernel_rfl) ?_ (fun hHeld => ?_)
  · exact two7 (heap_laterR X10.out (Below.refl _ _).drew) (heap_laterR X12.out (Below.refl _ _).drew)
  refine wpAnyH_take (i := 0) (oi := { dst := some 92, op := Op.move (Operand.tmp 0), type := 22, pos := "rost.go:53", after := #[], guard := none }) (v := ?_) rfl (by as_aux_lemma => kernel_rfl) (by as_aux_lemma => kernel_rfl) (by as_aux_lemma => kernel_rfl) (fun _ _ _ h => h) (Or.inl ⟨by rfl, ?_⟩) (by assumption) ?_
  rotate_left
  · intro w' hSw
    try dsimp only at hSw
    go_simp
    try with_reducible rfl
  try simp only [Act.put, List.setIfInBounds_toArray, List.set_cons_zero, List.set_cons_succ]
  refine wpAnyH_take (i := 1) (oi := { dst := some 93, op := Op.load 68 (Operand.tmp 10), type := 68, pos := "rost.go:53", after := #[], guard := none }) (v := ?_) rfl (by as_aux_lemma => kernel_rfl) (by as_aux_lemma => kernel_rfl) (by as_aux_lemma => kernel_rfl) (fun _ _ _ h => h) (Or.inl ⟨by rfl, ?_⟩) (by assumption) ?_
  rotate_left
  · intro w' hSw
    try dsimp only at hSw
    go_simp
    try with_reducible rfl
  try simp only [Act.put, List.setIfInBounds_toArray, List.set_cons_zero, List.set_cons_succ]
  refine wpAnyH_take (i := 3) (oi := { dst := some 95, op := Op.load 68 (Operand.tmp 12), type := 68, pos := "rost.go:53", after := #[], guard := none }) (v := ?_) rfl (by as_aux_lemma => kernel_rfl) (by as_aux_lemma => kernel_rfl) (by as_aux_lemma => kernel_rfl) (fun _ _ _ h => h) (Or.inl ⟨by rfl, ?_⟩) (by assumption) ?_
  rotate_left
  · intro w' hSw
    try dsimp only at hSw
    go_simp
    try with_reducible rfl
  try simp only [Act.put, List.setIfInBounds_toArray, List.set_cons_zero, List.set_cons_succ]
  refine wpAnyH_ready (rs := [2]) (by as_aux_lemma => kernel_rfl) (by simp) ?_
  refine AllReadyH.cons (o := { dst := some 94, op := Op.call { callee := Callee.value (Operand.func 68), args := #[Operand.tmp 92, Operand.tmp 93], argTypes := #[22, 68] }, type := 22, pos := "rost.go:53", after := #[{ on := 0, ground := Ground.data }, { on := 1, ground := Ground.data }], guard := none }) rfl (fun Kx hK => ?_) AllReadyH.nil
  go_simp
  refine (rwith_any ((HV.out.later HB.out).later (Below.refl _ _).drew) HR.out (by omega) u o a1 a2 a3 a4 a5).mono ?_
  rintro e wA ⟨y, rfl, hy, bA⟩
  have bd := below2Z (Below.refl _ _).drew bA
  have HY := Lib.hid hy
  have YA := Lib.hid (hy.rd entOK).ents
  have X10A := Lib.hid (heap_laterR X10.out bd)
  have X12A := Lib.hid (heap_laterR X12.out bd)
  have HBA := Lib.hid (below2S HB.out bd)
  clear bd hy bA
  go_wp2_with fail
  refine hK.out _ _ ?_ (fun hHeld2 => ?_)
  · exact two7 X10A.out X12A.out
  clear hK Kx hHeld
  have hHeld := hHeld2
  clear hHeld2
  try simp only [Act.put, List.setIfInBounds_toArray, List.set_cons_zero, List.set_cons_succ]
  refine wpAnyH_ready (rs := [4]) (by as_aux_lemma => kernel_rfl) (by simp) ?_
  refine AllReadyH.cons (o := { dst := some 96, op := Op.call { callee := Callee.value (Operand.func 68), args := #[Operand.tmp 94, Operand.tmp 95], argTypes := #[22, 68] }, type := 22, pos := "rost.go:53", after := #[{ on := 2, ground := Ground.data }, { on := 3, ground := Ground.data }, { on := 2, ground := Ground.chain }], guard := none }) rfl (fun Kx hK => ?_) AllReadyH.nil
  go_simp
  refine (rwith_any YA.out (rise_putO entOrd HR.out ⟨u, o, ⟨a1, a2, a3, a4, a5⟩⟩) (by have := putO_le l ⟨u, o, ⟨a1, a2, a3, a4, a5⟩⟩; omega) o u b1 b2 b3 b4 b5).mono ?_
  rintro e wB ⟨z, rfl, hz, bB⟩
  have ZE := Lib.hid (hz.rd entOK).ents
  have X10B := Lib.hid (heap_laterR X10A.out bB)
  have X12B := Lib.hid (heap_laterR X12A.out bB)
  have HBB := Lib.hid (below2S HBA.out bB)
  clear hz bB
  go_wp2_with fail
  refine hK.out _ _ ?_ (fun hHeld2 => ?_)
  · exact two7 X10B.out X12B.out
  clear hK Kx hHeld
  have hHeld := hHeld2
  clear hHeld2
  try simp only [Act.put, List.setIfInBounds_toArray, List.set_cons_zero, List.set_cons_succ]
  refine wpAnyH_take (i := 5) (oi := { dst := some 8, op := Op.assign (Operand.tmp 96), type := 22, pos := "rost.go:53", after := #[{ on := 4, ground := Ground.data }, { on := 4, ground := Ground.chain }, { on := 0, ground := Ground.phase }, { on := 1, ground := Ground.phase }, { on := 2, ground := Ground.phase }, { on := 3, ground := Ground.phase }, { on := 4, ground := Ground.phase }], guard := none }) (v := ?_) rfl (by as_aux_lemma => kernel_rfl) (by as_aux_lemma => kernel_rfl) (by as_aux_lemma => kernel_rfl) (fun _ _ _ h => h) (Or.inl ⟨by rfl, ?_⟩) (by assumption) ?_
  rotate_left
  · intro w' hSw
    try dsimp only at hSw
    go_simp
    try with_reducible rfl
  try simp only [Act.put, List.setIfInBounds_toArray, List.set_cons_zero, List.set_cons_succ]
  refine wpAnyH_take (i := 6) (oi := { dst := some 9, op := Op.assign (Operand.const (Value.int IntKind.i64 0)), type := 35, pos := "rost.go:53", after := #[{ on := 5, ground := Ground.chain }, { on := 0, ground := Ground.phase }, { on := 1, ground := Ground.phase }, { on := 2, ground := Ground.phase }, { on := 3, ground := Ground.phase }, { on := 4, ground := Ground.phase }, { on := 5, ground := Ground.phase }], guard := none }) (v := ?_) rfl (by as_aux_lemma => kernel_rfl) (by as_aux_lemma => kernel_rfl) (by as_aux_lemma => kernel_rfl) (fun _ _ _ h => h) (Or.inl ⟨by rfl, ?_⟩) (by assumption) ?_
  rotate_left
  · intro w' hSw
    try dsimp only at hSw
    go_simp
    try with_reducible rfl
  try simp only [Act.put, List.setIfInBounds_toArray, List.set_cons_zero, List.set_cons_succ]
  refine wpAnyH_done (by kernel_rfl) ?_ _
  go_wp2_with fail
  go_ret2
  exact ⟨_, rfl, ZE.out, HBB.out⟩

set_option maxHeartbeats 3200000 in
set_option maxRecDepth 100000 in
theorem rdoH4 {w : World} {v : Value} {l : List Ent} (hv : Ents w v l) (hs : ShortE l) (hl : l.length ≤ 900) (u o : List UInt8) (hu : u.length ≤ 4294967296) (ho : o.length ≤ 4294967296) (k : Int) (hm : roMayC l = true) (h1 : idIs u = true) (h2 : idIs o = true) (h3 : (u == o) = false) {i1 i2 i3 i4 i5 j1 j2 j3 j4 j5 q q' a1 a2 a3 a4 a5 b1 b2 b3 b4 b5 : Bool} (hi : roIt l u o = ⟨i1, i2, i3, i4, i5⟩) (hj : roIt l o u = ⟨j1, j2, j3, j4, j5⟩) (hq : (l.any fun x => entIs x ⟨u, o, It.zero⟩) = q) (hq' : (l.any fun x => entIs x ⟨o, u, It.zero⟩) = q') (hk : (Lit.int .i64 k).wf = true) (hact : suAct ⟨i1, i2, i3, i4, i5⟩ ⟨j1, j2, j3, j4, j5⟩ k = (⟨a1, a2, a3, a4, a5⟩, ⟨b1, b2, b3, b4, b5⟩, 0)) (hf : q = false) (gu : decide (16 ≤ (roOf l u).length) = false) (go : decide (16 ≤ (roOf l o).length) = false) (ga : suEmpty ⟨a1, a2, a3, a4, a5⟩ = true) (gb : suEmpty ⟨b1, b2, b3, b4, b5⟩ = false) :
    Calls Tryz.prog 28 #[v, .int .i64 k, .string ⟨u.toArray⟩, .string ⟨o.toArray⟩] w fun e w' => ∃ v', e = .returned (.tuple #[v', .int .i64 0]) ∧ Ents w' v' (putO entLt entIs (putO entLt entIs l ⟨u, o, ⟨a1, a2, a3, a4, a5⟩⟩) ⟨o, u, ⟨b1, b2, b3, b4, b5⟩⟩) ∧ Below w.heap.size w w' := by
  subst hf
  have GU := Lib.hid gu
  have GO := Lib.hid go
  clear gu go
  have GA := Lib.hid (sempty_eq a1 a2 a3 a4 a5 ga)
  have GB := Lib.hid (sempty_eq b1 b2 b3 b4 b5 gb)
  clear ga gb
  have HV := Lib.hid hv
  have HM := Lib.hid (romay_any hv hs (Lib.hid hm))
  have HR := Lib.hid (roMay_rise hm)
  have I1 := Lib.hid (is_eq u hu (Lib.hid h1))
  have I2 := Lib.hid (is_eq o ho (Lib.hid h2))
  have E1 := Lib.hid (entry_any u o)
  have E2 := Lib.hid (entry_any o u)
  have FI := Lib.hid hi
  have FJ := Lib.hid hj
  have FQ := Lib.hid hq
  have FQ' := Lib.hid hq'
  have HA := Lib.hid (sact_any i1 i2 i3 i4 i5 j1 j2 j3 j4 j5 k hk)
  rw [hact] at HA
  obtain ⟨a, cap, rfl, hmx⟩ := hv.open'
  clear hv hs hm h1 h2 hi hj hq hq' hk hact
  go_enter Tryz.func28, Tryz.ntmps28
  go_wp2_with fail
  refine HM.out.mono ?_
  rintro e w1 ⟨rfl, b1⟩
  have HB := Lib.hid b1
  clear b1
  go_wp2_with fail
  refine (I1.out _).mono ?_
  rintro e w2 ⟨rfl, b⟩
  replace HB := Lib.hid (below2S HB.out b)
  clear b
  go_wp2_with fail
  refine (I2.out _).mono ?_
  rintro e w3 ⟨rfl, b⟩
  replace HB := Lib.hid (below2S HB.out b)
  clear b
  go_wp2_with fail
  refine (E1.out _).mono ?_
  rintro e w4 ⟨rfl, b⟩
  replace HB := Lib.hid (below2S HB.out b)
  clear b
  go_wp2_with fail
  refine (rfind_eq (HV.out.later HB.out) HR.out u o FI FQ).mono ?_
  rintro e w5 ⟨rfl, b⟩
  have bb := bl_newZ w5 (.cells #[.string ⟨u.toArray⟩, .string ⟨o.toArray⟩, .bool i1, .bool i2, .bool i3, .bool i4, .bool i5] 68)
  have X10 := Lib.hid (heap_newR w5 (.cells #[.string ⟨u.toArray⟩, .string ⟨o.toArray⟩, .bool i1, .bool i2, .bool i3, .bool i4, .bool i5] 68) rfl)
  have HS5 := Lib.hid (below2S HB.out b).size
  replace HB := Lib.hid (below2S (below2S HB.out b) bb)
  clear b bb
  go_wp2_with fail
  generalize hW : w5.alloc (.cells #[.string ⟨u.toArray⟩, .string ⟨o.toArray⟩, .bool i1, .bool i2, .bool i3, .bool i4, .bool i5] 68) = w6 at HB X10 ⊢
  generalize hN : w5.heap.size = n5 at X10 HS5 ⊢
  clear hW hN
  refine (E2.out _).mono ?_
  rintro e w7 ⟨rfl, b⟩
  replace X10 := Lib.hid (heap_laterR X10.out b)
  replace HB := Lib.hid (below2S HB.out b)
  clear b
  go_wp2_with fail
  refine (rfind_eq (HV.out.later HB.out) HR.out o u FJ FQ').mono ?_
  rintro e w8 ⟨rfl, b⟩
  have bb := bl_newZ w8 (.cells #[.string ⟨o.toArray⟩, .string ⟨u.toArray⟩, .bool j1, .bool j2, .bool j3, .bool j4, .bool j5] 68)
  have X12 := Lib.hid (heap_newR w8 (.cells #[.string ⟨o.toArray⟩, .string ⟨u.toArray⟩, .bool j1, .bool j2, .bool j3, .bool j4, .bool j5] 68) rfl)
  have HS8 := Lib.hid (below2S HB.out b).size
  replace X10 := Lib.hid (heap_laterR X10.out b)
  have hne := Lib.hid (heap_ltR X10.out)
  replace X10 := Lib.hid (heap_laterR X10.out bb)
  replace HB := Lib.hid (below2S (below2S HB.out b) bb)
  clear b bb
  obtain ⟨c0, c1, c2, c3, c4, c5, c6⟩ := e7_cells X10.out
  obtain ⟨d0, d1, d2, d3, d4, d5, d6⟩ := e7_cells X12.out
  simp only [Nat.zero_add] at c0 c1 c2 c3 c4 c5 c6 d0 d1 d2 d3 d4 d5 d6
  go_wp2_with fail
  generalize hW : w8.alloc (.cells #[.string ⟨o.toArray⟩, .string ⟨u.toArray⟩, .bool j1, .bool j2, .bool j3, .bool j4, .bool j5] 68) = w9 at HB X10 X12 c0 c1 c2 c3 c4 c5 c6 d0 d1 d2 d3 d4 d5 d6 ⊢
  generalize hN : w8.heap.size = n8 at X12 HS8 hne d0 d1 d2 d3 d4 d5 d6 ⊢
  clear hW hN c0 c1 c2 c3 c4 c5 c6 d0 d1 d2 d3 d4 d5 d6
  refine (HA.out _).mono ?_
  rintro e w10 ⟨rfl, b⟩
  replace X10 := Lib.hid (heap_laterR X10.out b)
  replace X12 := Lib.hid (heap_laterR X12.out b)
  replace HB := Lib.hid (below2S HB.out b)
  clear b
  have hne1 : n5 ≠ n8 := by have := hne.out; omega
  have Y12 := e7_other X12.out hne1 a1 a2 a3 a4 a5
  have Y10 := e7_set X10.out a1 a2 a3 a4 a5
  have Z12 := Lib.hid (e7_set Y12 b1 b2 b3 b4 b5)
  have Z10 := Lib.hid (e7_other Y10 hne1.symm b1 b2 b3 b4 b5)
  have ZB := Lib.hid (setI_below (setI_below HB.out HS5.out a1 a2 a3 a4 a5) HS8.out b1 b2 b3 b4 b5)
  obtain ⟨c0, c1, c2, c3, c4, c5, c6⟩ := e7_cells X10.out
  obtain ⟨d0, d1, d2, d3, d4, d5, d6⟩ := e7_cells Y12
  simp only [Nat.zero_add] at c0 c1 c2 c3 c4 c5 c6 d0 d1 d2 d3 d4 d5 d6
  have f2 := e7_frozen X10.out 2
  have f3 := e7_frozen X10.out 3
  have f4 := e7_frozen X10.out 4
  have f5 := e7_frozen X10.out 5
  have f6 := e7_frozen X10.out 6
  have g2 := e7_frozen Y12 2
  have g3 := e7_frozen Y12 3
  have g4 := e7_frozen Y12 4
  have g5 := e7_frozen Y12 5
  have g6 := e7_frozen Y12 6
  unfold setI at d0 d1 d2 d3 d4 d5 d6 g2 g3 g4 g5 g6
  clear Y10 Y12
  unfold actE
  obtain ⟨e0, e1, e2, e3, e4, e5, e6⟩ := e7_cells Z10.out
  obtain ⟨p0, p1, p2, p3, p4, p5, p6⟩ := e7_cells Z12.out
  simp only [Nat.zero_add] at e0 e1 e2 e3 e4 e5 e6 p0 p1 p2 p3 p4 p5 p6
  unfold setI at e0 e1 e2 e3 e4 e5 e6 p0 p1 p2 p3 p4 p5 p6
  replace X10 := Z10
  replace X12 := Z12
  replace HB := ZB
  clear Z10 Z12 ZB
  go_wp2_with fail
  clear c0 c1 c2 c3 c4 c5 c6 d0 d1 d2 d3 d4 d5 d6 f2 f3 f4 f5 f6 g2 g3 g4 g5 g6 e0 e1 e2 e3 e4 e5 e6 p0 p1 p2 p3 p4 p5 p6 HA FI FJ FQ FQ' HM I1 I2 E1 E2
  refine (risFull_any (HV.out.later HB.out) (by omega) u GU).mono ?_
  rintro e w12 ⟨rfl, b⟩
  replace X10 := Lib.hid (heap_laterR X10.out b)
  replace X12 := Lib.hid (heap_laterR X12.out b)
  replace HB := Lib.hid (below2S HB.out b)
  clear b
  go_wp2_with fail
  refine (risFull_any (HV.out.later HB.out) (by omega) o GO).mono ?_
  rintro e w13 ⟨rfl, b⟩
  replace X10 := Lib.hid (heap_laterR X10.out b)
  replace X12 := Lib.hid (heap_laterR X12.out b)
  replace HB := Lib.hid (below2S HB.out b)
  clear b
  obtain ⟨e0, e1, e2, e3, e4, e5, e6⟩ := e7_cells X10.out
  obtain ⟨p0, p1, p2, p3, p4, p5, p6⟩ := e7_cells X12.out
  simp only [Nat.zero_add] at e0 e1 e2 e3 e4 e5 e6 p0 p1 p2 p3 p4 p5 p6
  go_wp2_with fail
  clear e0 e1 e2 e3 e4 e5 e6 p0 p1 p2 p3 p4 p5 p6
  refine (GA.out _).mono ?_
  rintro e w14 ⟨rfl, b⟩
  replace X10 := Lib.hid (heap_laterR X10.out b)
  replace X12 := Lib.hid (heap_laterR X12.out b)
  replace HB := Lib.hid (below2S HB.out b)
  clear b
  obtain ⟨e0, e1, e2, e3, e4, e5, e6⟩ := e7_cells X10.out
  obtain ⟨p0, p1, p2, p3, p4, p5, p6⟩ := e7_cells X12.out
  simp only [Nat.zero_add] at e0 e1 e2 e3 e4 e5 e6 p0 p1 p2 p3 p4 p5 p6
  go_wp2_with fail
  clear e0 e1 e2 e3 e4 e5 e6 p0 p1 p2 p3 p4 p5 p6
  refine (GB.out _).mono ?_
  rintro e w15 ⟨rfl, b⟩
  replace X10 := Lib.hid (heap_laterR X10.out b)
  replace X12 := Lib.hid (heap_laterR X12.out b)
  replace HB := Lib.hid (below2S HB.out b)
  clear b
  go_wp2_with fail
  have hS0 := two7 X10.out X12.out
  refine wp_region_held_drew (S := (fun W => ((W).cell? ⟨n5, 0, none⟩ = some (.string ⟨u.toArray⟩) ∧ (W).cell? ⟨n5, 1, none⟩ = some (.string ⟨o.toArray⟩) ∧ (W).cell? ⟨n5, 2, none⟩ = some (.bool a1) ∧ (W).cell? ⟨n5, 3, none⟩ = some (.bool a2) ∧ (W).cell? ⟨n5, 4, none⟩ = some (.bool a3) ∧ (W).cell? ⟨n5, 5, none⟩ = some (.bool a4) ∧ (W).cell? ⟨n5, 6, none⟩ = some (.bool a5) ∧ (W).cell? ⟨n8, 0, none⟩ = some (.string ⟨o.toArray⟩) ∧ (W).cell? ⟨n8, 1, none⟩ = some (.string ⟨u.toArray⟩) ∧ (W).cell? ⟨n8, 2, none⟩ = some (.bool b1) ∧ (W).cell? ⟨n8, 3, none⟩ = some (.bool b2) ∧ (W).cell? ⟨n8, 4, none⟩ = some (.bool b3) ∧ (W).cell? ⟨n8, 5, none⟩ = some (.bool b4) ∧ (W).cell? ⟨n8, 6, none⟩ = some (.bool b5)))) (by kernel_rfl) ?_ (fun hHeld => ?_)
  · exact two7 (heap_laterR X10.out (Below.refl _ _).drew) (heap_laterR X12.out (Below.refl _ _).drew)
  refine wpAnyH_take (i := 0) (oi := { dst := some 92, op := Op.move (Operand.tmp 0), type := 22, pos := "rost.go:53", after := #[], guard := none }) (v := ?_) rfl (by as_aux_lemma => kernel_rfl) (by as_aux_lemma => kernel_rfl) (by as_aux_lemma => kernel_rfl) (fun _ _ _ h => h) (Or.inl ⟨by rfl, ?_⟩) (by assumption) ?_
  rotate_left
  · intro w' hSw
    try dsimp only at hSw
    go_simp
    try with_reducible rfl
  try simp only [Act.put, List.setIfInBounds_toArray, List.set_cons_zero, List.set_cons_succ]
  refine wpAnyH_take (i := 1) (oi := { dst := some 93, op := Op.load 68 (Operand.tmp 10), type := 68, pos := "rost.go:53", after := #[], guard := none }) (v := ?_) rfl (by as_aux_lemma => kernel_rfl) (by as_aux_lemma => kernel_rfl) (by as_aux_lemma => kernel_rfl) (fun _ _ _ h => h) (Or.inl ⟨by rfl, ?_⟩) (by assumption) ?_
  rotate_left
  · intro w' hSw
    try dsimp only at hSw
    go_simp
    try with_reducible rfl
  try simp only [Act.put, List.setIfInBounds_toArray, List.set_cons_zero, List.set_cons_succ]
  refine wpAnyH_take (i := 3) (oi := { dst := some 95, op := Op.load 68 (Operand.tmp 12), type := 68, pos := "rost.go:53", after := #[], guard := none }) (v := ?_) rfl (by as_aux_lemma => kernel_rfl) (by as_aux_lemma => kernel_rfl) (by as_aux_lemma => kernel_rfl) (fun _ _ _ h => h) (Or.inl ⟨by rfl, ?_⟩) (by assumption) ?_
  rotate_left
  · intro w' hSw
    try dsimp only at hSw
    go_simp
    try with_reducible rfl
  try simp only [Act.put, List.setIfInBounds_toArray, List.set_cons_zero, List.set_cons_succ]
  refine wpAnyH_ready (rs := [2]) (by as_aux_lemma => kernel_rfl) (by simp) ?_
  refine AllReadyH.cons (o := { dst := some 94, op := Op.call { callee := Callee.value (Operand.func 68), args := #[Operand.tmp 92, Operand.tmp 93], argTypes := #[22, 68] }, type := 22, pos := "rost.go:53", after := #[{ on := 0, ground := Ground.data }, { on := 1, ground := Ground.data }], guard := none }) rfl (fun Kx hK => ?_) AllReadyH.nil
  go_simp
  refine (rwith_any ((HV.out.later HB.out).later (Below.refl _ _).drew) HR.out (by omega) u o a1 a2 a3 a4 a5).mono ?_
  rintro e wA ⟨y, rfl, hy, bA⟩
  have bd := below2Z (Below.refl _ _).drew bA
  have HY := Lib.hid hy
  have YA := Lib.hid (hy.rd entOK).ents
  have X10A := Lib.hid (heap_laterR X10.out bd)
  have X12A := Lib.hid (heap_laterR X12.out bd)
  have HBA := Lib.hid (below2S HB.out bd)
  clear bd hy bA
  go_wp2_with fail
  refine hK.out _ _ ?_ (fun hHeld2 => ?_)
  · exact two7 X10A.out X12A.out
  clear hK Kx hHeld
  have hHeld := hHeld2
  clear hHeld2
  try simp only [Act.put, List.setIfInBounds_toArray, List.set_cons_zero, List.set_cons_succ]
  refine wpAnyH_ready (rs := [4]) (by as_aux_lemma => kernel_rfl) (by simp) ?_
  refine AllReadyH.cons (o := { dst := some 96, op := Op.call { callee := Callee.value (Operand.func 68), args := #[Operand.tmp 94, Operand.tmp 95], argTypes := #[22, 68] }, type := 22, pos := "rost.go:53", after := #[{ on := 2, ground := Ground.data }, { on := 3, ground := Ground.data }, { on := 2, ground := Ground.chain }], guard := none }) rfl (fun Kx hK => ?_) AllReadyH.nil
  go_simp
  refine (rwith_any YA.out (rise_putO entOrd HR.out ⟨u, o, ⟨a1, a2, a3, a4, a5⟩⟩) (by have := putO_le l ⟨u, o, ⟨a1, a2, a3, a4, a5⟩⟩; omega) o u b1 b2 b3 b4 b5).mono ?_
  rintro e wB ⟨z, rfl, hz, bB⟩
  have ZE := Lib.hid (hz.rd entOK).ents
  have X10B := Lib.hid (heap_laterR X10A.out bB)
  have X12B := Lib.hid (heap_laterR X12A.out bB)
  have HBB := Lib.hid (below2S HBA.out bB)
  clear hz bB
  go_wp2_with fail
  refine hK.out _ _ ?_ (fun hHeld2 => ?_)
  · exact two7 X10B.out X12B.out
  clear hK Kx hHeld
  have hHeld := hHeld2
  clear hHeld2
  try simp only [Act.put, List.setIfInBounds_toArray, List.set_cons_zero, List.set_cons_succ]
  refine wpAnyH_take (i := 5) (oi := { dst := some 8, op := Op.assign (Operand.tmp 96), type := 22, pos := "rost.go:53", after := #[{ on := 4, ground := Ground.data }, { on := 4, ground := Ground.chain }, { on := 0, ground := Ground.phase }, { on := 1, ground := Ground.phase }, { on := 2, ground := Ground.phase }, { on := 3, ground := Ground.phase }, { on := 4, ground := Ground.phase }], guard := none }) (v := ?_) rfl (by as_aux_lemma => kernel_rfl) (by as_aux_lemma => kernel_rfl) (by as_aux_lemma => kernel_rfl) (fun _ _ _ h => h) (Or.inl ⟨by rfl, ?_⟩) (by assumption) ?_
  rotate_left
  · intro w' hSw
    try dsimp only at hSw
    go_simp
    try with_reducible rfl
  try simp only [Act.put, List.setIfInBounds_toArray, List.set_cons_zero, List.set_cons_succ]
  refine wpAnyH_take (i := 6) (oi := { dst := some 9, op := Op.assign (Operand.const (Value.int IntKind.i64 0)), type := 35, pos := "rost.go:53", after := #[{ on := 5, ground := Ground.chain }, { on := 0, ground := Ground.phase }, { on := 1, ground := Ground.phase }, { on := 2, ground := Ground.phase }, { on := 3, ground := Ground.phase }, { on := 4, ground := Ground.phase }, { on := 5, ground := Ground.phase }], guard := none }) (v := ?_) rfl (by as_aux_lemma => kernel_rfl) (by as_aux_lemma => kernel_rfl) (by as_aux_lemma => kernel_rfl) (fun _ _ _ h => h) (Or.inl ⟨by rfl, ?_⟩) (by assumption) ?_
  rotate_left
  · intro w' hSw
    try dsimp only at hSw
    go_simp
    try with_reducible rfl
  try simp only [Act.put, List.setIfInBounds_toArray, List.set_cons_zero, List.set_cons_succ]
  refine wpAnyH_done (by kernel_rfl) ?_ _
  go_wp2_with fail
  go_ret2
  exact ⟨_, rfl, ZE.out, HBB.out⟩

set_option maxHeartbeats 3200000 in
set_option maxRecDepth 100000 in
theorem rdo_any {w : World} {v : Value} {l : List Ent} (hv : Ents w v l) (hs : ShortE l) (hl : l.length ≤ 900) (u o : List UInt8) (hu : u.length ≤ 4294967296) (ho : o.length ≤ 4294967296) (k : Int) (hk : (Lit.int .i64 k).wf = true) {R : List Ent} {n : Nat} (h : roDo l k u o = (R, n)) :
    Calls Tryz.prog 28 #[v, .int .i64 k, .string ⟨u.toArray⟩, .string ⟨o.toArray⟩] w fun e w' => ∃ v', e = .returned (.tuple #[v', .int .i64 (n : Int)]) ∧ Ents w' v' R ∧ Below w.heap.size w w' := by
  unfold roDo at h
  cases hm : roMayC l with
  | false =>
    rw [hm] at h
    simp only [Bool.false_and, Bool.false_eq_true, if_false, Prod.mk.injEq] at h
    obtain ⟨rfl, rfl⟩ := h
    exact rdoA hv hs (by omega) u o hu ho k hm
  | true =>
    cases h1 : idIs u with
    | false =>
      rw [hm, h1] at h
      simp only [Bool.false_and, Bool.true_and, Bool.false_eq_true, if_false, Prod.mk.injEq] at h
      obtain ⟨rfl, rfl⟩ := h
      exact rdoB hv hs (by omega) u o hu ho k hm h1
    | true =>
      cases h2 : idIs o with
      | false =>
        rw [hm, h1, h2] at h
        simp only [Bool.false_and, Bool.true_and, Bool.false_eq_true, if_false, Prod.mk.injEq] at h
        obtain ⟨rfl, rfl⟩ := h
        exact rdoC hv hs (by omega) u o hu ho k hm h1 h2
      | true =>
        by_cases h3 : u = o
        · rw [hm, h1, h2] at h
          simp only [h3, decide_true, Bool.not_true, Bool.false_and, Bool.true_and, Bool.false_eq_true, if_false, Prod.mk.injEq] at h
          obtain ⟨rfl, rfl⟩ := h
          exact rdoD hv hs (by omega) u o hu ho k hm h1 h2 (by simpa using h3)
        · have h3' : (u == o) = false := by rw [beq_eq_false_iff_ne]; exact h3
          obtain ⟨⟨i1, i2, i3, i4, i5⟩, hi⟩ : ∃ r, roIt l u o = r := ⟨_, rfl⟩
          obtain ⟨⟨j1, j2, j3, j4, j5⟩, hj⟩ : ∃ r, roIt l o u = r := ⟨_, rfl⟩
          obtain ⟨q, hq⟩ : ∃ q, (l.any fun x => entIs x ⟨u, o, It.zero⟩) = q := ⟨_, rfl⟩
          obtain ⟨⟨⟨a1, a2, a3, a4, a5⟩, ⟨b1, b2, b3, b4, b5⟩, er⟩, hact⟩ : ∃ r, suAct ⟨i1, i2, i3, i4, i5⟩ ⟨j1, j2, j3, j4, j5⟩ k = r := ⟨_, rfl⟩
          by_cases hr : 1 ≤ k ∧ k ≤ 6
          · rw [hm, h1, h2, hi, hj, hact, hq] at h
            simp only [h3, hr.1, hr.2, decide_false, decide_true, Bool.not_false, Bool.and_self, if_true] at h
            by_cases he : er = 0
            · subst he
              rw [if_neg (by simp)] at h
              have hmr := roMay_rise hm
              cases q with
              | false =>
                cases gu : decide (16 ≤ (roOf l u).length) with
                | true =>
                  rw [gu] at h
                  simp only [Bool.not_false, Bool.true_and, Bool.true_or, if_true, Prod.mk.injEq] at h
                  obtain ⟨rfl, rfl⟩ := h
                  exact rdoF1 hv hs hl u o hu ho k hm h1 h2 h3' hi hj hq rfl hk hact rfl gu
                | false =>
                  cases go : decide (16 ≤ (roOf l o).length) with
                  | true =>
                    rw [gu, go] at h
                    simp only [Bool.not_false, Bool.true_and, Bool.or_true, if_true, Prod.mk.injEq] at h
                    obtain ⟨rfl, rfl⟩ := h
                    exact rdoF2 hv hs hl u o hu ho k hm h1 h2 h3' hi hj hq rfl hk hact rfl gu go
                  | false =>
                    rw [gu, go] at h
                    simp only [Bool.or_self, Bool.and_false, Bool.false_eq_true, if_false, Prod.mk.injEq] at h
                    obtain ⟨rfl, rfl⟩ := h
                    cases ga : suEmpty ⟨a1, a2, a3, a4, a5⟩ with
                    | true =>
                      cases gb : suEmpty ⟨b1, b2, b3, b4, b5⟩ with
                      | true =>
                        simp only [Bool.and_self, Bool.not_true, roSet_drop]
                        exact rdoG2 hv hs hl u o hu ho k hm h1 h2 h3' hi hj hq rfl hk hact rfl gu go ga gb
                      | false =>
                        simp only [Bool.and_false, Bool.not_false]
                        rw [roSet_keep (roSet_rise hmr _ _), roSet_keep hmr]
                        exact rdoH4 hv hs hl u o hu ho k hm h1 h2 h3' hi hj hq rfl hk hact rfl gu go ga gb
                    | false =>
                      simp only [Bool.false_and, Bool.not_false]
                      rw [roSet_keep (roSet_rise hmr _ _), roSet_keep hmr]
                      exact rdoH3 hv hs hl u o hu ho k hm h1 h2 h3' hi hj hq rfl hk hact rfl gu go ga
              | true =>
                simp only [Bool.not_true, Bool.false_and, Bool.false_eq_true, if_false, Prod.mk.injEq] at h
                obtain ⟨rfl, rfl⟩ := h
                cases ga : suEmpty ⟨a1, a2, a3, a4, a5⟩ with
                | true =>
                  cases gb : suEmpty ⟨b1, b2, b3, b4, b5⟩ with
                  | true =>
                    simp only [Bool.and_self, Bool.not_true, roSet_drop]
                    exact rdoG1 hv hs hl u o hu ho k hm h1 h2 h3' hi hj hq rfl hk hact rfl ga gb
                  | false =>
                    simp only [Bool.and_false, Bool.not_false]
                    rw [roSet_keep (roSet_rise hmr _ _), roSet_keep hmr]
                    exact rdoH2 hv hs hl u o hu ho k hm h1 h2 h3' hi hj hq rfl hk hact rfl ga gb
                | false =>
                  simp only [Bool.false_and, Bool.not_false]
                  rw [roSet_keep (roSet_rise hmr _ _), roSet_keep hmr]
                  exact rdoH1 hv hs hl u o hu ho k hm h1 h2 h3' hi hj hq rfl hk hact rfl ga
            · rw [if_pos he] at h
              simp only [Prod.mk.injEq] at h
              obtain ⟨rfl, rfl⟩ := h
              exact rdoE hv hs (by omega) u o hu ho k hm h1 h2 h3' hi hj hq rfl hk hact he
          · have hcond : (decide (1 ≤ k) && decide (k ≤ 6)) = false := by
              rw [Bool.eq_false_iff]
              intro h'
              simp only [Bool.and_eq_true, decide_eq_true_eq] at h'
              exact hr h'
            rw [hm, h1, h2, hcond] at h
            simp only [Bool.and_false, Bool.false_eq_true, if_false, Prod.mk.injEq] at h
            obtain ⟨rfl, rfl⟩ := h
            have hlow := suAct_low (a := ⟨i1, i2, i3, i4, i5⟩) (b := ⟨j1, j2, j3, j4, j5⟩) (k := k) (by omega)
            exact rdoE hv hs (by omega) u o hu ho k hm h1 h2 h3' hi hj hq rfl hk hlow (by decide)

end Go.Proofs.YthfkfonfiejbmaaGreat

end

section

/-
  LAYER 8, PLAIN: who watches.
-/
namespace Go.Proofs.YthfkfonfiejbmaaGreat

/-- Of an Owner, or on a Contact. -/
def roNearB (c : List UInt8) (e : Ent) : Bool := decide (e.o = c) || decide (e.c = c)

def roNear (l : List Ent) (c : List UInt8) : List Ent := l.filter (roNearB c)

/-- An entry of one who sees c. -/
def roWB (l : List Ent) (c : List UInt8) (e : Ent) : Bool := decide (e.c = c) && suSees e.it (roIt l c e.o)

def roWat (l : List Ent) (c : List UInt8) : List (List UInt8) := (l.filter (roWB l c)).map (·.o)

/-- The owners so far. -/
def roWats (l : List Ent) (c : List UInt8) (k : Nat) : List (List UInt8) := ((l.take k).filter (roWB l c)).map (·.o)

end Go.Proofs.YthfkfonfiejbmaaGreat

end

section

/-
  slices.SortStableFunc OF ENTRIES THAT RISE ALREADY: nothing turns. Insertion; few entries.
-/
namespace Go.Proofs.YthfkfonfiejbmaaGreat
open Go.RowKit

end Go.Proofs.YthfkfonfiejbmaaGreat

end

section

/-
  slices.SortStableFunc OF FEW ENTRIES THAT RISE ALREADY.
-/
namespace Go.Proofs.YthfkfonfiejbmaaGreat
open Go.RowKit

end Go.Proofs.YthfkfonfiejbmaaGreat

end
