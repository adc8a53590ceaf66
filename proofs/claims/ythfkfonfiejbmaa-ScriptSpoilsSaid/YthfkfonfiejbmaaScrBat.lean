/-
  LAYER 23: Batch of the code and of the document; Same.
-/
import Derived.Test.YthfkfonfiejbmaaScrRdec
import Derived.Test.YthfkfonfiejbmaaShelfW
import Derived.Deep.DeepMust
namespace Go.Proofs.Ythfkfonfiejbmaa
open Go.RowKit Go.Lib

attribute [local go_sem] ByteArray.mk_append_mk

theorem scBatch_long {l : List Ev} (h : 100 < l.length) : scBatch l = ([], 1) := by
  unfold scBatch
  rw [if_neg]
  simp
  omega

theorem scBatch_bad {l : List Ev} {k : Nat} (hk : k < l.length) (h : scMay (l.getD k Ev.zero) = false) : scBatch l = ([], 1) := by
  unfold scBatch
  rw [if_neg]
  intro h2
  simp only [Bool.and_eq_true, List.all_eq_true] at h2
  have := h2.2 _ (by rw [evgetD hk]; exact List.getElem_mem hk : l.getD k Ev.zero ∈ l)
  rw [h] at this
  cases this

theorem scBatch_all {l : List Ev} (h : l.length ≤ 100) (ha : l.all scMay = true) : scBatch l = (scCat l, 0) := by
  unfold scBatch
  rw [if_pos (by rw [ha, decide_eq_true h]; rfl)]

theorem scCat_next {l : List Ev} {k : Nat} (hk : k < l.length) {e : Ev} (he : l.getD k Ev.zero = e) : scCat (l.take (k + 1)) = scCat (l.take k) ++ (vput (cseal (scBytes e)).length ++ cseal (scBytes e)) := by
  rw [List.take_succ_eq_append_getElem hk, scCat_append, scCat_one, ← evgetD hk, he]

theorem all_next {l : List Ev} {k : Nat} (hk : k < l.length) {e : Ev} (he : l.getD k Ev.zero = e) (h : (l.take k).all scMay = true) (hm : scMay e = true) : (l.take (k + 1)).all scMay = true := by
  rw [List.take_succ_eq_append_getElem hk, List.all_append, h, ← evgetD hk, he]
  simp [hm]

theorem scCat_take_len {l : List Ev} (h : l.length ≤ 100) (k : Nat) (ha : (l.take k).all scMay = true) : (scCat (l.take k)).length ≤ 13000 := by
  have h1 := scCat_len (l.take k) ha
  have h2 : (l.take k).length ≤ 100 := by rw [List.length_take]; omega
  omega

set_option maxHeartbeats 1600000 in
set_option maxRecDepth 100000 in
theorem scbat_long {w : World} {v : Value} {l : List Ev} (hv : Evs w v l) (hn : 100 < l.length) :
    Calls Try.prog 16 #[v] w fun e w' => e = .returned (.tuple #[.string ⟨#[]⟩, .int .i64 1]) ∧ Below w.heap.size w w' := by
  obtain ⟨av, cv, rfl, -⟩ := RdS.open' hv
  have hn1 : decide ((100 : Int) < (l.length : Int)) = true := by rw [decide_eq_true_eq]; omega
  have hn2 : decide (100 < l.length) = true := by rw [decide_eq_true_eq]; omega
  go_enter Try.func16, Try.ntmps16
  go_wp2_with fail
  go_ret2
  exact ⟨rfl, Below.refl _ _⟩

set_option maxHeartbeats 1600000 in
set_option maxRecDepth 100000 in
theorem scbat_any {w : World} {v : Value} {l : List Ev} (hv : Evs w v l) (hsh : ∀ e ∈ l, evShort e) {r : List UInt8} {er : Nat} (hr : Hid (scBatch l = (r, er))) :
    Calls Try.prog 16 #[v] w fun e w' => e = .returned (.tuple #[.string ⟨r.toArray⟩, .int .i64 er]) ∧ Below w.heap.size w w' := by
  by_cases hlong : 100 < l.length
  case pos =>
    have e := hr.out
    rw [scBatch_long hlong] at e
    simp only [Prod.mk.injEq] at e
    obtain ⟨rfl, rfl⟩ := e
    exact scbat_long hv hlong
  case neg =>
  have HSH := Lib.hid hsh
  have hn1 : decide ((100 : Int) < (l.length : Int)) = false := by rw [decide_eq_false_iff_not]; omega
  have hn2 : decide (100 < l.length) = false := by rw [decide_eq_false_iff_not]; omega
  have hl100 : l.length ≤ 100 := by omega
  clear hsh hlong
  have HV := Lib.hid hv
  obtain ⟨av, cv, rfl, -⟩ := RdS.open' hv
  clear hv
  have HW := Lib.hid (fun W (acc l : List UInt8) h1 h2 h3 => Try.Builder_WriteString_k w.heap.size w.heap.size (Lib.byteCells acc) ⟨l.toArray⟩ W h1 h2 h3)
  have HStr := Lib.hid (fun W (acc : List UInt8) hI hb => Try.Builder_String_any_k w.heap.size w.heap.size acc W hI hb)
  have HF := Lib.hid (IsBuilderF.of (fresh_isBuilder 59 5 w))
  go_enter Try.func16, Try.ntmps16
  go_wp2_with fail
  go_loopw [14] (fun i wr => ∃ (k : Nat) (acc : List UInt8), k ≤ l.length ∧ i = .int .i64 k ∧ Hid (acc = scCat (l.take k)) ∧ Hid ((l.take k).all scMay = true) ∧ Hid (IsBuilderF 59 5 w.heap.size w.heap.size (Lib.byteCells acc) wr) ∧ Hid (Below w.heap.size w wr)) (fun i _ => l.length - (intOf i).toNat)
  case atStart => exact ⟨0, [], by omega, rfl, Lib.hid (by simp [scCat_nil]), Lib.hid (by simp), HF, Lib.hid ((Below.refl _ _).alloc (Nat.le_refl _) _)⟩
  case round =>
    clear HF
    obtain ⟨k, acc, hk, rfl, HA, HM, F, HB⟩ := hrel
    have hal : acc.length ≤ 13000 := by rw [HA.out]; exact scCat_take_len hl100 k HM.out
    by_cases hlt : k < l.length
    case pos =>
      obtain ⟨b, off, rfl, hc⟩ := RdS.row HV.out HB.out k hlt
      obtain ⟨⟨kk, u, o, id, ⟨x, y, z, st⟩⟩, he⟩ : ∃ r, l.getD k Ev.zero = r := ⟨_, rfl⟩
      have hes := HSH.out _ (by rw [evgetD hlt]; exact List.getElem_mem hlt : l.getD k Ev.zero ∈ l)
      rw [he] at hc hes
      obtain ⟨m0, m1, m2, m3, m4, m5, m6, m7⟩ := eightAt hc
      obtain ⟨q, hq⟩ : ∃ q, scMay ⟨kk, u, o, id, ⟨x, y, z, st⟩⟩ = q := ⟨_, rfl⟩
      clear hc
      cases q with
      | false =>
        have e := hr.out
        rw [scBatch_bad hlt (by rw [he]; exact hq)] at e
        simp only [Prod.mk.injEq] at e
        obtain ⟨rfl, rfl⟩ := e
        have HX := Lib.hid (scEnc_no hq)
        clear hq he
        go_wp2_with fail
        refine (scenc_any kk u o st id x y z hes HX _).mono ?_
        rintro e w4 ⟨rfl, b4⟩
        have HB4 := Lib.hid (below2Z HB.out (below2Z (bl_newZ wr _) b4))
        clear b4 m0 m1 m2 m3 m4 m5 m6 m7
        go_wp2_with fail
        go_ret2
        exact ⟨rfl, HB4.out⟩
      | true =>
        have HX := Lib.hid (scEnc_yes hq)
        have HA2 := Lib.hid (show acc ++ (vput (cseal (scBytes ⟨kk, u, o, id, ⟨x, y, z, st⟩⟩)).length ++ cseal (scBytes ⟨kk, u, o, id, ⟨x, y, z, st⟩⟩)) = scCat (l.take (k + 1)) by rw [scCat_next hlt he, HA.out])
        have HM2 := Lib.hid (all_next hlt he HM.out hq)
        have hcl := scBytes_short hq
        generalize cseal (scBytes ⟨kk, u, o, id, ⟨x, y, z, st⟩⟩) = cs at HX HA2 hcl
        have hvl := vput_len_le cs.length
        have HT := Lib.hid (text_any cs (by omega))
        obtain ⟨p, hp⟩ : ∃ p, vput cs.length ++ cs = p := ⟨_, rfl⟩
        rw [hp] at HT HA2
        have hpl : p.length ≤ 200 := by rw [← hp, List.length_append]; omega
        clear hq he hp hvl
        go_wp2_with fail
        refine (scenc_any kk u o st id x y z hes HX _).mono ?_
        rintro e w4 ⟨rfl, b4⟩
        have HB4 := Lib.hid (below2Z HB.out (below2Z (bl_newZ wr _) b4))
        have F4 := Lib.hid (builder_later F.out (below2Z (bl_newZ wr _) b4))
        clear b4 m0 m1 m2 m3 m4 m5 m6 m7
        go_wp2_with fail
        refine (HT.out _).mono ?_
        rintro e w5 ⟨rfl, b5⟩
        have HB5 := Lib.hid (below2Z HB4.out b5)
        have F5 := Lib.hid (builder_later F4.out b5)
        have hz5 := HB5.out.size
        clear b5 HB4 F4
        go_wp2_with fail
        refine (HW.out _ acc p F5.out (by rw [Lib.byteCells_length, size_bytes]; omega) hz5).mono ?_
        rintro e w6 ⟨rfl, h6, b6, _⟩
        have F6 : Hid (IsBuilderF 59 5 w.heap.size w.heap.size (Lib.byteCells (acc ++ p)) w6) := by
          show IsBuilderF _ _ _ _ _ _
          rw [Lib.byteCells_append]
          exact Or.inr h6
        have HB6 := Lib.hid (HB5.out.trans b6)
        clear h6 b6 HB5 F5 hz5
        go_wp2_with fail
        go_roundw
        case rel => exact ⟨k + 1, acc ++ p, by omega, by go_num, HA2, HM2, F6, HB6⟩
        case measure => simp [intOf]; omega
    case neg =>
      have e := hr.out
      have ht : l.take k = l := List.take_of_length_le (by omega)
      have ha := HM.out
      rw [ht] at ha
      rw [scBatch_all hl100 ha] at e
      simp only [Prod.mk.injEq] at e
      obtain ⟨e1, rfl⟩ := e
      have HR : Hid (acc = r) := Lib.hid (by rw [HA.out, ht, e1])
      have t9 : decide ((k : Int) < (l.length : Int)) = false := by rw [decide_eq_false_iff_not]; omega
      clear e1 ht ha
      have hz := HB.out.size
      go_wp2_with fail
      refine (HStr.out _ acc F.out hz).mono ?_
      rintro e w8 ⟨rfl, _, b8, _⟩
      have HB8 := Lib.hid (HB.out.trans b8)
      clear b8
      go_wp2_with fail
      go_ret2
      exact ⟨by rw [HR.out]; rfl, HB8.out⟩

set_option maxHeartbeats 1600000 in
set_option maxRecDepth 100000 in
theorem rscbat_long {w : World} {v : Value} {l : List Ev} (hv : Evs w v l) (hn : 100 < l.length) :
    Calls Try.prog 17 #[v] w fun e w' => e = .returned (.tuple #[.string ⟨#[]⟩, .int .i64 1]) ∧ Below w.heap.size w w' := by
  obtain ⟨av, cv, rfl, -⟩ := RdS.open' hv
  have hn1 : decide ((100 : Int) < (l.length : Int)) = true := by rw [decide_eq_true_eq]; omega
  have hn2 : decide (100 < l.length) = true := by rw [decide_eq_true_eq]; omega
  go_enter Try.func17, Try.ntmps17
  go_wp2_with fail
  go_ret2
  exact ⟨rfl, Below.refl _ _⟩

set_option maxHeartbeats 1600000 in
set_option maxRecDepth 100000 in
theorem rscbat_any {w : World} {v : Value} {l : List Ev} (hv : Evs w v l) (hsh : ∀ e ∈ l, evShort e) {r : List UInt8} {er : Nat} (hr : Hid (scBatch l = (r, er))) :
    Calls Try.prog 17 #[v] w fun e w' => e = .returned (.tuple #[.string ⟨r.toArray⟩, .int .i64 er]) ∧ Below w.heap.size w w' := by
  by_cases hlong : 100 < l.length
  case pos =>
    have e := hr.out
    rw [scBatch_long hlong] at e
    simp only [Prod.mk.injEq] at e
    obtain ⟨rfl, rfl⟩ := e
    exact rscbat_long hv hlong
  case neg =>
  have HSH := Lib.hid hsh
  have hn1 : decide ((100 : Int) < (l.length : Int)) = false := by rw [decide_eq_false_iff_not]; omega
  have hn2 : decide (100 < l.length) = false := by rw [decide_eq_false_iff_not]; omega
  have hl100 : l.length ≤ 100 := by omega
  clear hsh hlong
  have HV := Lib.hid hv
  obtain ⟨av, cv, rfl, -⟩ := RdS.open' hv
  clear hv
  go_enter Try.func17, Try.ntmps17
  go_wp2_with fail
  go_loopw [4, 5] (fun x i wr => ∃ (k : Nat) (acc : List UInt8), k ≤ l.length ∧ i = .int .i64 k ∧ x = .string ⟨acc.toArray⟩ ∧ Hid (acc = scCat (l.take k)) ∧ Hid ((l.take k).all scMay = true) ∧ Hid (Below w.heap.size w wr)) (fun _ i _ => l.length - (intOf i).toNat)
  case atStart => exact ⟨0, [], by omega, rfl, rfl, Lib.hid (by simp [scCat_nil]), Lib.hid (by simp), Lib.hid (Below.refl _ _)⟩
  case round =>
    obtain ⟨k, acc, hk, rfl, rfl, HA, HM, HB⟩ := hrel
    have hal : acc.length ≤ 13000 := by rw [HA.out]; exact scCat_take_len hl100 k HM.out
    by_cases hlt : k < l.length
    case pos =>
      obtain ⟨b, off, rfl, hc⟩ := RdS.row HV.out HB.out k hlt
      obtain ⟨⟨kk, u, o, id, ⟨x, y, z, st⟩⟩, he⟩ : ∃ r, l.getD k Ev.zero = r := ⟨_, rfl⟩
      have hes := HSH.out _ (by rw [evgetD hlt]; exact List.getElem_mem hlt : l.getD k Ev.zero ∈ l)
      rw [he] at hc hes
      obtain ⟨m0, m1, m2, m3, m4, m5, m6, m7⟩ := eightAt hc
      obtain ⟨q, hq⟩ : ∃ q, scMay ⟨kk, u, o, id, ⟨x, y, z, st⟩⟩ = q := ⟨_, rfl⟩
      clear hc
      cases q with
      | false =>
        have e := hr.out
        rw [scBatch_bad hlt (by rw [he]; exact hq)] at e
        simp only [Prod.mk.injEq] at e
        obtain ⟨rfl, rfl⟩ := e
        have HX := Lib.hid (scEnc_no hq)
        clear hq he
        go_wp2_with fail
        refine (rscenc_any kk u o st id x y z hes HX _).mono ?_
        rintro e w4 ⟨rfl, b4⟩
        have HB4 := Lib.hid (below2Z HB.out b4)
        clear b4 m0 m1 m2 m3 m4 m5 m6 m7
        go_wp2_with fail
        go_ret2
        exact ⟨rfl, HB4.out⟩
      | true =>
        have HX := Lib.hid (scEnc_yes hq)
        have HA2 := Lib.hid (show acc ++ (vput (cseal (scBytes ⟨kk, u, o, id, ⟨x, y, z, st⟩⟩)).length ++ cseal (scBytes ⟨kk, u, o, id, ⟨x, y, z, st⟩⟩)) = scCat (l.take (k + 1)) by rw [scCat_next hlt he, HA.out])
        have HM2 := Lib.hid (all_next hlt he HM.out hq)
        have hcl := scBytes_short hq
        generalize cseal (scBytes ⟨kk, u, o, id, ⟨x, y, z, st⟩⟩) = cs at HX HA2 hcl
        have hvl := vput_len_le cs.length
        have HT := Lib.hid (rtext_any cs (by omega))
        obtain ⟨p, hp⟩ : ∃ p, vput cs.length ++ cs = p := ⟨_, rfl⟩
        rw [hp] at HT HA2
        have hpl : p.length ≤ 200 := by rw [← hp, List.length_append]; omega
        clear hq he hp hvl
        go_wp2_with fail
        refine (rscenc_any kk u o st id x y z hes HX _).mono ?_
        rintro e w4 ⟨rfl, b4⟩
        have HB4 := Lib.hid (below2Z HB.out b4)
        clear b4 m0 m1 m2 m3 m4 m5 m6 m7
        go_wp2_with fail
        refine (HT.out _).mono ?_
        rintro e w5 ⟨rfl, b5⟩
        have HB5 := Lib.hid (below2Z HB4.out b5)
        clear b5 HB4
        go_wp2_with fail
        go_roundw
        case rel => exact ⟨k + 1, acc ++ p, by omega, by go_num, rfl, HA2, HM2, HB5⟩
        case measure => simp [intOf]; omega
    case neg =>
      have e := hr.out
      have ht : l.take k = l := List.take_of_length_le (by omega)
      have ha := HM.out
      rw [ht] at ha
      rw [scBatch_all hl100 ha] at e
      simp only [Prod.mk.injEq] at e
      obtain ⟨e1, rfl⟩ := e
      have HR : Hid (acc = r) := Lib.hid (by rw [HA.out, ht, e1])
      have t9 : decide ((k : Int) < (l.length : Int)) = false := by rw [decide_eq_false_iff_not]; omega
      clear e1 ht ha
      go_wp2_with fail
      go_ret2
      exact ⟨by rw [HR.out]; rfl, HB.out⟩

set_option maxHeartbeats 1600000 in
set_option maxRecDepth 100000 in
/-- Two lists that are the same. -/
theorem scsame_yes {w : World} {v v2 : Value} {l : List Ev} (hv : Evs w v l) (hv2 : Evs w v2 l) :
    Calls Try.prog 14 #[v, v2] w fun e w' => e = .returned (.bool true) ∧ Below w.heap.size w w' := by
  have HV := Lib.hid hv
  have HV2 := Lib.hid hv2
  obtain ⟨av, cv, rfl, hlm⟩ := RdS.open' hv
  obtain ⟨av2, cv2, rfl, -⟩ := RdS.open' hv2
  clear hv hv2
  have tl : ((l.length : Int) != (l.length : Int)) = false := by simp
  have hll : l.length ≤ 9223372036854775807 := hlm
  go_enter Try.func14, Try.ntmps14
  go_wp2_with fail
  go_loopw [5] (fun i wr => ∃ k : Nat, k ≤ l.length ∧ i = .int .i64 k ∧ Hid (Below w.heap.size w wr)) (fun i _ => l.length - (intOf i).toNat)
  case atStart => exact ⟨0, by omega, rfl, Lib.hid (Below.refl _ _)⟩
  case round =>
    obtain ⟨k, hk, rfl, HB⟩ := hrel
    by_cases hlt : k < l.length
    case pos =>
      obtain ⟨b, off, rfl, hc⟩ := RdS.row HV.out HB.out k hlt
      obtain ⟨b2, off2, rfl, hc2⟩ := RdS.row HV2.out HB.out k hlt
      obtain ⟨⟨kk, u, o, id, ⟨x, y, z, st⟩⟩, he⟩ : ∃ r, l.getD k Ev.zero = r := ⟨_, rfl⟩
      rw [he] at hc hc2
      obtain ⟨m0, m1, m2, m3, m4, m5, m6, m7⟩ := eightAt hc
      obtain ⟨n0, n1, n2, n3, n4, n5, n6, n7⟩ := eightAt hc2
      have heq := fun w => (ev_neq kk kk id id u u o o x y z x y z st st w).trans (by rw [evEq_self])
      clear hc hc2 he
      go_wp2_with fail
      go_region
      go_wp2_with fail
      go_roundw
      case rel => exact ⟨k + 1, by omega, by go_num, Lib.hid HB.out.drew⟩
      case measure => simp [intOf]; omega
    case neg =>
      have t9 : decide ((k : Int) < (l.length : Int)) = false := by rw [decide_eq_false_iff_not]; omega
      go_wp2_with fail
      go_ret
      exact ⟨rfl, HB.out⟩

end Go.Proofs.Ythfkfonfiejbmaa
