/-
  LAYER 9: Drop; the document's place, Put and Drop.
-/
import Derived.Test.YtkmbnpjnjlcjmaaSesPutC
import Derived.Test.YtkmbnpjnjlcjmaaSeqS
namespace Go.Proofs.Ytkmbnpjnjlcjmaa
open Go.RowKit

set_option maxHeartbeats 3200000 in
set_option maxRecDepth 100000 in
theorem sdrop_a {w : World} {v : Value} {l : List Ses} (hv : Sess w v l) (hs : ShortS l) (u : List UInt8) (id : Int) (h : seMay l = false) :
    Calls Try.prog 27 #[v, .string ⟨u.toArray⟩, .int .i64 id] w fun e w' => e = .returned (.tuple #[v, .int .i64 1]) ∧ Below w.heap.size w w' := by
  have HM := Lib.hid (smay9_any hv hs (Lib.hid h))
  obtain ⟨ao, cap, rfl, _⟩ := hv.open'
  clear hv h hs
  go_enter Try.func27, Try.ntmps27
  go_wp2_with fail
  refine HM.out.mono ?_
  rintro e w1 ⟨rfl, b1⟩
  have B1 := Lib.hid b1
  clear b1
  go_wp2_with fail
  go_ret2
  exact ⟨rfl, B1.out⟩

set_option maxHeartbeats 3200000 in
set_option maxRecDepth 100000 in
theorem sdrop_b {w : World} {v : Value} {l : List Ses} (hv : Sess w v l) (hs : ShortS l) (u : List UInt8) (id : Int) (h : seMay l = true) (hf : findO seIs l (keyS u id) = none) :
    Calls Try.prog 27 #[v, .string ⟨u.toArray⟩, .int .i64 id] w fun e w' => e = .returned (.tuple #[v, .int .i64 6]) ∧ Below w.heap.size w w' := by
  have HM := Lib.hid (smay9_any hv hs (Lib.hid h))
  have V0 := Lib.hid hv
  have HF1 := Lib.hid (seFind_none hf)
  obtain ⟨ao, cap, rfl, _⟩ := hv.open'
  clear hv h hs hf
  go_enter Try.func27, Try.ntmps27
  go_wp2_with fail
  refine HM.out.mono ?_
  rintro e w1 ⟨rfl, b1⟩
  have B1 := Lib.hid b1
  have V1 := Lib.hid (V0.out.later b1)
  clear b1
  have HF := Lib.hid (find_any V1.out u id (Lib.hid HF1.out))
  go_wp2_with fail
  refine HF.out.mono ?_
  rintro e w4 ⟨rfl, b4⟩
  have B4 := Lib.hid (below2Z B1.out b4)
  have V4 := Lib.hid (V1.out.later b4)
  clear b4 B1 V1 HF
  go_wp2_with fail
  go_ret2
  exact ⟨rfl, B4.out⟩

set_option maxHeartbeats 3200000 in
set_option maxRecDepth 100000 in
theorem sdrop_c {w : World} {v : Value} {l : List Ses} (hv : Sess w v l) (hs : ShortS l) (u : List UInt8) (id : Int) (h : seMay l = true) {i : Nat} (hf : findO seIs l (keyS u id) = some i) :
    Calls Try.prog 27 #[v, .string ⟨u.toArray⟩, .int .i64 id] w fun e w' => ∃ x, e = .returned (.tuple #[x, .int .i64 0]) ∧ OwnSes w' w.heap.size x (l.take i ++ l.drop (i + 1)) ∧ Below w.heap.size w w' := by
  have HM := Lib.hid (smay9_any hv hs (Lib.hid h))
  have V0 := Lib.hid hv
  have hi : i < l.length := (findO_some hf).1
  have hl32 := (seMay_rise h).1
  have HF1 := Lib.hid (seFind_some hf)
  obtain ⟨ao, cap, rfl, _⟩ := hv.open'
  clear hv h hs hf
  go_enter Try.func27, Try.ntmps27
  go_wp2_with fail
  refine HM.out.mono ?_
  rintro e w1 ⟨rfl, b1⟩
  have B1 := Lib.hid b1
  have V1 := Lib.hid (V0.out.later b1)
  clear b1
  have HF := Lib.hid (find_any V1.out u id (Lib.hid HF1.out))
  go_wp2_with fail
  refine HF.out.mono ?_
  rintro e w4 ⟨rfl, b4⟩
  have B4 := Lib.hid (below2Z B1.out b4)
  have V4 := Lib.hid (V1.out.later b4)
  clear b4 B1 V1 HF
  have HC := Lib.hid (ses_clone V4.out (by omega))
  have hw1 : IntKind.i64.wrap ((i : Int) + 1) = (i : Int) + 1 := IntWalk.i64_in _ (by omega)
  go_wp2_with fail
  refine HC.out.mono ?_
  rintro e w5 ⟨x, rfl, ho5, b5⟩
  have B5 := Lib.hid (below2Z B4.out b5)
  have hz4 := B4.out.size
  obtain ⟨g, cg, rfl, hcm⟩ : ∃ g cg, x = .slice (some ⟨g, 0, none⟩) l.length cg ∧ cg ≤ maxLen := by
    rcases ho5.2 with ⟨rfl, h0⟩ | ⟨g, cg, cur, rfl, _, _, _, hcm, _⟩
    · omega
    · exact ⟨g, cg, rfl, hcm⟩
  unfold maxLen at hcm
  have HD := Lib.hid (ses_delete (ownS_low ho5 hz4) hcm hi (by omega))
  clear ho5 b5 HC B4 V4
  go_wp2_with fail
  refine HD.out.mono ?_
  rintro e w6 ⟨y, rfl, ho6, b6⟩
  have O6 := Lib.hid ho6
  have B6 := Lib.hid (B5.out.trans b6)
  clear ho6 b6 HD
  go_wp2_with fail
  go_ret2
  exact ⟨_, rfl, O6.out, B6.out⟩

theorem sdrop_any {w : World} {v : Value} {l : List Ses} (hv : Sess w v l) (hs : ShortS l) (u : List UInt8) (id : Int) {m : List Ses} {n : Nat} (h : Hid (seDrop l u id = (m, n))) :
    Calls Try.prog 27 #[v, .string ⟨u.toArray⟩, .int .i64 id] w fun e w' => ∃ x, e = .returned (.tuple #[x, .int .i64 n]) ∧ Sess w' x m ∧ Below w.heap.size w w' := by
  have h := h.out
  cases hm : seMay l with
  | false =>
    rw [seDrop_arg hm] at h
    simp only [Prod.mk.injEq] at h
    obtain ⟨rfl, rfl⟩ := h
    exact (sdrop_a hv hs u id hm).mono (fun e w' ⟨h1, h2⟩ => ⟨v, h1, hv.later h2, h2⟩)
  | true =>
    cases hf : findO seIs l (keyS u id) with
    | some i =>
      rw [seDrop_at hm hf] at h
      simp only [Prod.mk.injEq] at h
      obtain ⟨rfl, rfl⟩ := h
      exact (sdrop_c hv hs u id hm hf).mono (fun e w' ⟨x, h1, h2, h3⟩ => ⟨x, h1, h2.rd sesOK, h3⟩)
    | none =>
      rw [seDrop_none hm hf] at h
      simp only [Prod.mk.injEq] at h
      obtain ⟨rfl, rfl⟩ := h
      exact (sdrop_b hv hs u id hm hf).mono (fun e w' ⟨h1, h2⟩ => ⟨v, h1, hv.later h2, h2⟩)

/-- What the document's place tells. -/
def sePl (l : List Ses) (x : Ses) : Int := match findO seIs l x with | some i => (i : Int) | none => -1

theorem sePl_some {l : List Ses} {x : Ses} {k : Nat} (h : findO seIs l x = some k) : sePl l x = (k : Int) := by unfold sePl; rw [h]
theorem sePl_none {l : List Ses} {x : Ses} (h : findO seIs l x = none) : sePl l x = -1 := by unfold sePl; rw [h]

theorem sePl_yes {l : List Ses} {x : Ses} {k : Nat} (hk : k < l.length) (hn : ∀ j, j < k → seIs (l.getD j Ses.zero) x = false) (hs : seIs (l.getD k Ses.zero) x = true) : sePl l x = (k : Int) :=
  sePl_some (findO_of hk (by rw [← sgetD hk]; exact hs) (fun j hj => by rw [← sgetD (by omega : j < l.length)]; exact hn j hj))

theorem sePl_no {l : List Ses} {x : Ses} (hn : ∀ j, j < l.length → seIs (l.getD j Ses.zero) x = false) : sePl l x = -1 :=
  sePl_none (findO_of_none (fun y hy => by obtain ⟨i, hi, rfl⟩ := List.getElem_of_mem hy; rw [← sgetD hi]; exact hn i hi))

set_option maxHeartbeats 1600000 in
set_option maxRecDepth 100000 in
theorem rplace_any {w : World} {v : Value} {l : List Ses} (hv : Sess w v l) (u : List UInt8) (id : Int) {z : Int} (h : Hid (sePl l (keyS u id) = z)) :
    Calls Try.prog 60 #[v, .string ⟨u.toArray⟩, .int .i64 id] w fun e w' => e = .returned (.int .i64 z) ∧ Below w.heap.size w w' := by
  have HV := Lib.hid hv
  obtain ⟨a, cap, rfl, hm⟩ := hv.open'
  clear hv
  go_enter Try.func60, Try.ntmps60
  go_wp2_with fail
  go_loopw [7] (fun i wr => ∃ k : Nat, k ≤ l.length ∧ i = .int .i64 k ∧ Hid (Below w.heap.size w wr) ∧ Hid (∀ j, j < k → seIs (l.getD j Ses.zero) (keyS u id) = false)) (fun i _ => l.length - (intOf i).toNat)
  case atStart => exact ⟨0, by omega, rfl, Below.refl _ _, by show ∀ _, _; intro j hj; omega⟩
  case round =>
    obtain ⟨k, hk, rfl, HB, HN⟩ := hrel
    by_cases hlt : k < l.length
    · obtain ⟨bk, off, rfl, hc⟩ := HV.out.row HB.out k hlt
      obtain ⟨⟨eu, ei, ⟨ea, eb, ec, es⟩⟩, hr⟩ : ∃ r, l.getD k Ses.zero = r := ⟨_, rfl⟩
      rw [hr] at hc
      obtain ⟨h0, h1, h2, h3, h4, h5⟩ := cells6 hc
      try simp only at h0 h1 h2 h3 h4 h5
      have hnx : ∀ {q : Bool}, seIs ⟨eu, ei, ⟨ea, eb, ec, es⟩⟩ (keyS u id) = q → Hid (seIs (l.getD k Ses.zero) (keyS u id) = q) := fun hq => by show _ = _; rw [hr]; exact hq
      have HNX : ∀ (_ : Hid (seIs (l.getD k Ses.zero) (keyS u id) = false)), Hid (∀ j, j < k + 1 → seIs (l.getD j Ses.zero) (keyS u id) = false) := fun hq => by
        show ∀ _, _
        intro j hj
        by_cases e : j = k
        · rw [e]; exact hq.out
        · exact HN.out j (by omega)
      clear hr hc
      by_cases hu : eu = u
      · by_cases hi : ei = id
        · have HR := sePl_yes hlt HN.out (hnx (q := true) (seIs_iff.2 ⟨hu, hi⟩)).out
          rw [h.out] at HR
          subst HR
          have t1 : (eu == u) = true := by rw [beq_iff_eq]; exact hu
          have t2 : (ei == id) = true := by rw [beq_iff_eq]; exact hi
          clear hnx HNX hu hi
          go_wp2_with fail
          go_ret
          exact ⟨rfl, HB.out⟩
        · have HN2 := HNX (hnx (by unfold seIs keyS; simp [hi]))
          have t1 : (eu == u) = true := by rw [beq_iff_eq]; exact hu
          have t2 : (ei == id) = false := by rw [beq_eq_false_iff_ne]; exact hi
          clear hnx HNX hu hi
          go_wp2_with fail
          go_roundw
          case rel => exact ⟨k + 1, by omega, by go_num, HB, HN2⟩
          case measure => simp [intOf]; omega
      · have HN2 := HNX (hnx (by unfold seIs keyS; simp [hu]))
        have t1 : (eu == u) = false := by rw [beq_eq_false_iff_ne]; exact hu
        clear hnx HNX hu
        go_wp2_with fail
        go_roundw
        case rel => exact ⟨k + 1, by omega, by go_num, HB, HN2⟩
        case measure => simp [intOf]; omega
    · obtain rfl : k = l.length := by omega
      have HR := sePl_no HN.out
      rw [h.out] at HR
      subst HR
      go_wp2_with fail
      go_ret
      exact ⟨rfl, HB.out⟩

theorem srcS_take {α : Type} {vals : α → List Value} {sz : Nat} (hl : ∀ a, (vals a).length = sz) {w : World} {ad : Addr} {l : List α} (h : SrcS vals w ad l) (k : Nat) : SrcS vals w ad (l.take k) := by
  intro j x hx
  rw [← cellsS_take hl, List.getElem?_take] at hx
  split at hx
  · exact h j x hx
  · cases hx

theorem putS_app {α : Type} (l : List α) (i : Nat) (r : α) : (l.take i ++ [r]) ++ l.drop i = putS l i r := by unfold putS; rw [List.append_assoc]

set_option maxHeartbeats 3200000 in
set_option maxRecDepth 100000 in
theorem rsdrop_a {w : World} {v : Value} {l : List Ses} (hv : Sess w v l) (hs : ShortS l) (u : List UInt8) (id : Int) (h : seMay l = false) :
    Calls Try.prog 28 #[v, .string ⟨u.toArray⟩, .int .i64 id] w fun e w' => e = .returned (.tuple #[v, .int .i64 1]) ∧ Below w.heap.size w w' := by
  have HM := Lib.hid (rsmay9_any hv hs (Lib.hid h))
  obtain ⟨ao, cap, rfl, _⟩ := hv.open'
  clear hv h hs
  go_enter Try.func28, Try.ntmps28
  go_wp2_with fail
  refine HM.out.mono ?_
  rintro e w1 ⟨rfl, b1⟩
  have B1 := Lib.hid b1
  clear b1
  go_wp2_with fail
  go_ret2
  exact ⟨rfl, B1.out⟩

set_option maxHeartbeats 3200000 in
set_option maxRecDepth 100000 in
theorem rsdrop_b {w : World} {v : Value} {l : List Ses} (hv : Sess w v l) (hs : ShortS l) (u : List UInt8) (id : Int) (h : seMay l = true) (hf : findO seIs l (keyS u id) = none) :
    Calls Try.prog 28 #[v, .string ⟨u.toArray⟩, .int .i64 id] w fun e w' => e = .returned (.tuple #[v, .int .i64 6]) ∧ Below w.heap.size w w' := by
  have HM := Lib.hid (rsmay9_any hv hs (Lib.hid h))
  have V0 := Lib.hid hv
  have HF1 := Lib.hid (sePl_none hf)
  obtain ⟨ao, cap, rfl, _⟩ := hv.open'
  clear hv h hs hf
  go_enter Try.func28, Try.ntmps28
  go_wp2_with fail
  refine HM.out.mono ?_
  rintro e w1 ⟨rfl, b1⟩
  have B1 := Lib.hid b1
  have V1 := Lib.hid (V0.out.later b1)
  clear b1
  have HF := Lib.hid (rplace_any V1.out u id HF1)
  go_wp2_with fail
  refine HF.out.mono ?_
  rintro e w4 ⟨rfl, b4⟩
  have B4 := Lib.hid (below2Z B1.out b4)
  have V4 := Lib.hid (V1.out.later b4)
  clear b4 B1 V1 HF
  go_wp2_with fail
  go_ret2
  exact ⟨rfl, B4.out⟩

set_option maxHeartbeats 3200000 in
set_option maxRecDepth 100000 in
theorem rsdrop_c {w : World} {v : Value} {l : List Ses} (hv : Sess w v l) (hs : ShortS l) (u : List UInt8) (id : Int) (h : seMay l = true) {i : Nat} (hf : findO seIs l (keyS u id) = some i) :
    Calls Try.prog 28 #[v, .string ⟨u.toArray⟩, .int .i64 id] w fun e w' => ∃ x, e = .returned (.tuple #[x, .int .i64 0]) ∧ OwnSes w' w.heap.size x (l.take i ++ l.drop (i + 1)) ∧ Below w.heap.size w w' := by
  have HM := Lib.hid (rsmay9_any hv hs (Lib.hid h))
  have V0 := Lib.hid hv
  have hi : i < l.length := (findO_some hf).1
  have hl32 := (seMay_rise h).1
  have HF1 := Lib.hid (sePl_some hf)
  obtain ⟨bk, off, ebk, _⟩ : ∃ b off, ∃ cap, v = .slice (some ⟨b, off, none⟩) l.length cap ∧ l.length ≤ cap ∧ cap ≤ maxLen := by
    obtain ⟨a, cap, e, h1, h2, _, h4⟩ := hv
    rcases h4 with h4 | ⟨b, off, e2, _⟩
    · rw [h4] at hi; simp at hi
    · exact ⟨b, off, cap, by rw [e, e2], h1, h2⟩
  rename_i hcaps
  obtain ⟨rfl, hc1, hc2⟩ := hcaps
  unfold maxLen at hc2
  have hw1 : IntKind.i64.wrap ((i : Int) + 1) = (i : Int) + 1 := IntWalk.i64_in _ (by omega)
  have t0 : decide ((i : Int) < 0) = false := by rw [decide_eq_false_iff_not]; omega
  have hic : i ≤ ebk := by omega
  have hnn : (0 : Int) ≤ (i : Int) := by omega
  obtain ⟨ad, had⟩ : ∃ ad, (if ebk = i + 1 then (⟨bk, off, none⟩ : Addr) else (⟨bk, off, none⟩ : Addr).add ((i + 1) * 6)) = ad := ⟨_, rfl⟩
  have hsl := fun w => run_slice_from_S sesOK w ⟨bk, off, none⟩ l.length ebk (i + 1) ((i : Int) + 1) (by omega) (by omega)
  rw [had] at hsl
  clear hv h hs hf
  go_enter Try.func28, Try.ntmps28
  go_wp2_with fail
  refine HM.out.mono ?_
  rintro e w1 ⟨rfl, b1⟩
  have B1 := Lib.hid b1
  have V1 := Lib.hid (V0.out.later b1)
  clear b1
  have HF := Lib.hid (rplace_any V1.out u id HF1)
  go_wp2_with fail
  refine HF.out.mono ?_
  rintro e w4 ⟨rfl, b4⟩
  have B4 := Lib.hid (below2Z B1.out b4)
  have V4 := Lib.hid (V1.out.later b4)
  clear b4 B1 V1 HF
  have HT := Lib.hid (V4.out.tail (by decide) (i + 1) (by omega))
  rw [had] at HT
  have b5 := bl_newZ w4 (.cells #[] 34)
  have HS5 := Lib.hid (srcS_take sesOK.len ((V4.out.later b5).src sesOK) i)
  go_wp2_with (at_builtin; refine wpList_append_S sesOK rfl _ _ rfl w4.heap.size _ [] rfl (by exact ownS_made w4) (some ⟨bk, off, none⟩) i ebk (l.take i) rfl (by rw [List.length_take]; omega) (fun e => nomatch e) (fun ad had => by obtain rfl := Option.some.inj had; exact HS5.out) (by rw [List.length_take]; simp only [List.length_nil]; omega) (by simp) ?_)
  intro x6 w6 ho6 b6
  have O6 := Lib.hid ho6
  have B56 := Lib.hid (b5.trans b6)
  have HT6 := Lib.hid (HT.out.later B56.out)
  have z6 := B56.out.size
  clear ho6 b6 b5 HS5 HT
  have hS6 := HT6.out.src sesOK
  go_wp2_with (at_builtin; refine wpList_append_S sesOK rfl _ _ rfl w4.heap.size _ (l.take i) rfl (by exact O6.out) (some ad) (l.length - (i + 1)) (ebk - (i + 1)) (l.drop (i + 1)) rfl (by rw [List.length_drop]) (fun e => nomatch e) (fun ad' had' => by obtain rfl := Option.some.inj had'; exact hS6) (by rw [List.length_take, List.length_drop]; omega) z6 ?_)
  intro x7 w7 ho7 b7
  have O7 := Lib.hid ho7
  have B7 := Lib.hid (below2Z B4.out (B56.out.trans b7))
  clear ho7 b7 O6 B56 HT6 hS6
  go_wp2_with fail
  go_ret2
  exact ⟨_, rfl, ownS_low O7.out B4.out.size, B7.out⟩

theorem rsdrop_any {w : World} {v : Value} {l : List Ses} (hv : Sess w v l) (hs : ShortS l) (u : List UInt8) (id : Int) {m : List Ses} {n : Nat} (h : Hid (seDrop l u id = (m, n))) :
    Calls Try.prog 28 #[v, .string ⟨u.toArray⟩, .int .i64 id] w fun e w' => ∃ x, e = .returned (.tuple #[x, .int .i64 n]) ∧ Sess w' x m ∧ Below w.heap.size w w' := by
  have h := h.out
  cases hm : seMay l with
  | false =>
    rw [seDrop_arg hm] at h
    simp only [Prod.mk.injEq] at h
    obtain ⟨rfl, rfl⟩ := h
    exact (rsdrop_a hv hs u id hm).mono (fun e w' ⟨h1, h2⟩ => ⟨v, h1, hv.later h2, h2⟩)
  | true =>
    cases hf : findO seIs l (keyS u id) with
    | some i =>
      rw [seDrop_at hm hf] at h
      simp only [Prod.mk.injEq] at h
      obtain ⟨rfl, rfl⟩ := h
      exact (rsdrop_c hv hs u id hm hf).mono (fun e w' ⟨x, h1, h2, h3⟩ => ⟨x, h1, h2.rd sesOK, h3⟩)
    | none =>
      rw [seDrop_none hm hf] at h
      simp only [Prod.mk.injEq] at h
      obtain ⟨rfl, rfl⟩ := h
      exact (rsdrop_b hv hs u id hm hf).mono (fun e w' ⟨h1, h2⟩ => ⟨v, h1, hv.later h2, h2⟩)

end Go.Proofs.Ytkmbnpjnjlcjmaa
