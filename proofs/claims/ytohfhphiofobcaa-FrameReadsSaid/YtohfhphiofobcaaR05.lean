/-
  TEXTS OF THE PROOF, one behind the other: DigRmay, ShelfW, DigPut, DigRput, DigSum, DigTakeR, DigOwn, DigTake, DigRtake, DigGet, IdRow, IdDoc, IdRput, IdRmerge, IdConcat, IdMerge, DigCts, DigMap, DigChgs.
-/
import Derived.Test.YtohfhphiofobcaaR04
import Derived.Test.YtohfhphiofobcaaR01
import Derived.Laws.AppendOwnNone
import Derived.Laws.OwnMore
import Derived.Test.YtohfhphiofobcaaProg
import Derived.Lib.Hide
import Derived.Lib.AppendZeros
import Derived.OwnWalk
import Derived.BigQuiet
import Derived.Deep.DeepMust
import Derived.Lib.OwnBridge
import Derived.Maps.OwnSet

section

/-
  THE CONTRACT OF THE DOCUMENT'S May (of a table).
-/
namespace Go.Proofs.Ytohfhphiofobcaa
open Go.RowKit

set_option maxHeartbeats 3200000 in
set_option maxRecDepth 100000 in
theorem rdimay_any {w : World} {v : Value} {t : List Row} (hv : Tab w v t) (hs : Short t) :
    Calls Try.prog 40 #[v] w fun e w' => e = .returned (.bool (diMay t)) ∧ Below w.heap.size w w' := by
  have HV := Lib.hid hv
  have HS := Lib.hid hs
  obtain ⟨a, cap, rfl, hm⟩ := hv.open'
  clear hv hs
  by_cases h : 32 < t.length
  · have HR := Lib.hid (diMay_long h)
    go_enter Try.func40, Try.ntmps40
    go_wp2_with fail
    go_ret
    exact ⟨by rw [HR.out]; rfl, Below.refl _ _⟩
  · go_enter Try.func40, Try.ntmps40
    go_wp2_with fail
    go_loopw [3] (fun i wr => ∃ k : Nat, k ≤ t.length ∧ i = .int .i64 k ∧ Hid (Below w.heap.size w wr) ∧ Hid ((List.range k).all (rowAt t) = true)) (fun i _ => t.length - (intOf i).toNat)
    case atStart => exact ⟨0, by omega, rfl, Below.refl _ _, by show _ = _; simp⟩
    case round =>
      obtain ⟨k, hk, rfl, HN, HA⟩ := hrel
      by_cases hlt : k < t.length
      · obtain ⟨b, off, rfl, h0, h1, h2, h3, h4⟩ := HV.out.row HN.out k hlt
        obtain ⟨hl1, hl2⟩ := HS.out.get hlt
        obtain ⟨⟨c, ⟨x, y, z, st⟩⟩, hr⟩ : ∃ r, t.getD k Row.zero = r := ⟨_, rfl⟩
        rw [hr] at h0 h1 h2 h3 h4 hl1 hl2
        have HRr := Lib.hid hr
        simp only at h0 h1 h2 h3 h4 hl1 hl2
        have g0 := cell_regrown h0
        have g1 := cell_regrown h1
        have g2 := cell_regrown h2
        have g3 := cell_regrown h3
        have g4 := cell_regrown h4
        clear hr h0 h1 h2 h3 h4
        cases hi : idIs c with
        | false =>
          have HR : Hid (diMay t = false) := diMay_off hlt (rowAt_is HRr.out hi)
          have HI := Lib.hid (ris_eq c hl1 (r := false) (Lib.hid hi))
          clear hi
          go_wp2_with fail
          refine wp_region_quiet_below (by kernel_rfl) (by kernel_rfl) ?_
          repeat (go_big_quiet_step (with_reducible exact rgS HI.out _ _ _))
          refine wpQuiet_nil ?_
          intro w5 hw5
          have hb5 := regrown_belowD hw5
          have HN5 := Lib.hid (below2' HN.out hb5)
          clear hw5 hb5 g0 g1 g2 g3 g4
          go_wp2_with fail
          go_ret
          exact ⟨by rw [HR.out]; rfl, HN5.out⟩
        | true =>
          have HI := Lib.hid (ris_eq c hl1 (r := true) (Lib.hid hi))
          cases hm2 : vaMay ⟨x, y, z, st⟩ with
          | false =>
            have HR : Hid (diMay t = false) := diMay_off hlt (rowAt_may HRr.out hm2)
            have HM := Lib.hid (rmay_eq x y z st hl2 (r := false) (Lib.hid hm2))
            clear hi hm2
            go_wp2_with fail
            refine wp_region_quiet_below (by kernel_rfl) (by kernel_rfl) ?_
            repeat (go_big_quiet_step (first | with_reducible exact rgS HI.out _ _ _ | with_reducible exact rgB HM.out _ _ _))
            refine wpQuiet_nil ?_
            intro w5 hw5
            have hb5 := regrown_belowD hw5
            have HN5 := Lib.hid (below2' HN.out hb5)
            clear hw5 hb5 g0 g1 g2 g3 g4
            go_wp2_with fail
            go_ret
            exact ⟨by rw [HR.out]; rfl, HN5.out⟩
          | true =>
            have HM := Lib.hid (rmay_eq x y z st hl2 (r := true) (Lib.hid hm2))
            rcases Nat.eq_zero_or_pos k with rfl | hpos
            · have HA2 : Hid ((List.range 1).all (rowAt t) = true) := by show _ = _; exact range_all_succ HA.out (rowAt_first HRr.out hi hm2)
              clear hi hm2
              simp only [Nat.zero_mul, Nat.add_zero] at g0 g1 g2 g3 g4
              go_wp2_with fail
              refine wp_region_quiet_below (by kernel_rfl) (by kernel_rfl) ?_
              repeat (go_big_quiet_step (first | with_reducible exact rgS HI.out _ _ _ | with_reducible exact rgB HM.out _ _ _))
              refine wpQuiet_nil ?_
              intro w5 hw5
              have hb5 := regrown_belowD hw5
              have HN5 := Lib.hid (below2' HN.out hb5)
              clear hw5 hb5 g0 g1 g2 g3 g4
              go_wp2_with fail
              go_roundw
              case rel => exact ⟨1, by omega, by go_num, HN5, HA2⟩
              case measure => simp [intOf]; omega
            · obtain ⟨j, rfl⟩ : ∃ j, k = j + 1 := ⟨k - 1, by omega⟩
              obtain ⟨b2, o2, e2, i0, _, _, _, _⟩ := HV.out.row HN.out j (by omega)
              injection e2 with e2
              injection e2 with e3 e4 _
              subst e3 e4
              have HX := rowAt_next HRr.out hi hm2
              obtain ⟨yy, hy⟩ : ∃ yy, (t.getD j Row.zero).c = yy := ⟨_, rfl⟩
              rw [hy] at i0 HX
              have g5 := cell_regrown i0
              clear hy i0 hi hm2
              cases hle : idLess yy c with
              | false =>
                have HR : Hid (diMay t = false) := diMay_off hlt (HX.trans hle)
                have HLe := Lib.hid (rless_eq yy c (r := false) (Lib.hid hle))
                clear hle HX hpos
                go_wp2_with fail
                refine wp_region_quiet_below (by kernel_rfl) (by kernel_rfl) ?_
                repeat (go_big_quiet_step (first | with_reducible exact rgS HI.out _ _ _ | with_reducible exact rgB HM.out _ _ _ | with_reducible exact rgS HLe.out _ _ _))
                refine wpQuiet_nil ?_
                intro w5 hw5
                have hb5 := regrown_belowD hw5
                have HN5 := Lib.hid (below2' HN.out hb5)
                clear hw5 hb5 g0 g1 g2 g3 g4 g5
                go_wp2_with fail
                go_ret
                exact ⟨by rw [HR.out]; rfl, HN5.out⟩
              | true =>
                have HA2 : Hid ((List.range (j + 1 + 1)).all (rowAt t) = true) := by show _ = _; exact range_all_succ HA.out (HX.trans hle)
                have HLe := Lib.hid (rless_eq yy c (r := true) (Lib.hid hle))
                clear hle HX hpos
                go_wp2_with fail
                refine wp_region_quiet_below (by kernel_rfl) (by kernel_rfl) ?_
                repeat (go_big_quiet_step (first | with_reducible exact rgS HI.out _ _ _ | with_reducible exact rgB HM.out _ _ _ | with_reducible exact rgS HLe.out _ _ _))
                refine wpQuiet_nil ?_
                intro w5 hw5
                have hb5 := regrown_belowD hw5
                have HN5 := Lib.hid (below2' HN.out hb5)
                clear hw5 hb5 g0 g1 g2 g3 g4 g5
                go_wp2_with fail
                go_roundw
                case rel => exact ⟨j + 1 + 1, by omega, by go_num, HN5, HA2⟩
                case measure => simp [intOf]; omega
      · obtain rfl : k = t.length := by omega
        have HR : Hid (diMay t = true) := by show _ = _; exact diMay_on h HA.out
        go_wp2_with fail
        go_ret
        exact ⟨by rw [HR.out]; rfl, HN.out⟩

theorem rdimay_eq {w : World} {v : Value} {t : List Row} (hv : Tab w v t) (hs : Short t) {r : Bool} (h : Hid (diMay t = r)) :
    Calls Try.prog 40 #[v] w fun e w' => e = .returned (.bool r) ∧ Below w.heap.size w w' := by
  have := rdimay_any hv hs
  rwa [h.out] at this

end Go.Proofs.Ytohfhphiofobcaa

end

section

/-
  THE CONTRACT OF (*strings.Builder).WriteString AT THIS PROGRAM, LAID WITHOUT A WALK.
-/
namespace Go.Proofs.Ytohfhphiofobcaa
open Go.Shelf Go.RowKit

def Try.lays166_ren : Go.Shelf.Ren := ⟨fun | 166 => 125 | 240 => 132 | 276 => 138 | n => n, fun | 0 => 0 | 3 => 3 | 4 => 4 | 5 => 5 | 9 => 9 | 20 => 20 | 37 => 40 | 70 => 144 | 72 => 146 | 75 => 148 | 80 => 151 | 164 => 163 | n => n, fun | n => n⟩

theorem Try.lays166 : Go.Proofs.Lays.n166 Try.prog Try.lays166_ren := {
  mixed := by kernel_rfl
  f166 := Try.func125.trans (congrArg some (by kernel_rfl))
  f240 := Try.func132.trans (congrArg some (by kernel_rfl))
  f276 := Try.func138.trans (congrArg some (by kernel_rfl))
  t0 := Try.underlying0
  a0 := Try.isAgg0
  z0 := Try.sizeOf0
  v0 := Try.zeroValue0
  t3 := Try.underlying3
  a3 := Try.isAgg3
  z3 := Try.sizeOf3
  v3 := Try.zeroValue3
  t4 := Try.underlying4
  a4 := Try.isAgg4
  z4 := Try.sizeOf4
  v4 := Try.zeroValue4
  t9 := Try.underlying9
  a9 := Try.isAgg9
  z9 := Try.sizeOf9
  v9 := Try.zeroValue9
  t20 := Try.underlying20
  a20 := Try.isAgg20
  z20 := Try.sizeOf20
  v20 := Try.zeroValue20
  t37 := Try.underlying40
  a37 := Try.isAgg40
  z37 := Try.sizeOf40
  v37 := Try.zeroValue40
  t70 := Try.underlying144
  a70 := Try.isAgg144
  z70 := Try.sizeOf144
  v70 := Try.zeroValue144
  t72 := Try.underlying146
  a72 := Try.isAgg146
  z72 := Try.sizeOf146
  v72 := Try.zeroValue146
  t75 := Try.underlying148
  a75 := Try.isAgg148
  z75 := Try.sizeOf148
  v75 := Try.zeroValue148
  t164 := Try.underlying163
  a164 := Try.isAgg163
  z164 := Try.sizeOf163
  v164 := Try.zeroValue163 }

theorem Try.Builder_Extra_166 : Builder.Extra Try.prog Try.lays166_ren := {
  sizeBuilder := by kernel_rfl
  liesBuilder := by kernel_rfl
  t5 := Try.underlying5
  a5 := Try.isAgg5
  z5 := Try.sizeOf5
  v5 := Try.zeroValue5
  infoByte := by kernel_rfl
  cellsByte := by kernel_rfl
  sizeByte := by kernel_rfl
  neB5 := by decide }

theorem Try.Builder_WriteString_k (B b : Nat) (bs : List Value) (s : ByteArray) (w : World) (h : Lib.IsBuilderF 146 5 B b bs w) (hlen : bs.length + s.size ≤ 140737488355328) (hBw : B ≤ w.heap.size) :
    Calls Try.prog 125 #[.pointer (some ⟨b, 0, none⟩), .string s] w fun e w' => e = .returned (.tuple #[.int .i64 s.size, .nilIface]) ∧ (Lib.BuilderAtF 146 5 B b (.pointer (some ⟨b, 0, none⟩)) (bs ++ Lib.strCells s) w' ∧ Below B w w' ∧ Lib.OthersKept 5 (some b) w w') := Any.Builder_WriteString_k Try.lays166 Try.Builder_Extra_166 B b bs s w h hlen hBw

end Go.Proofs.Ytohfhphiofobcaa

end

section

/-
  THE CONTRACTS OF digest.Put AND OF THE DOCUMENT'S ANSWER TO IT.
-/
namespace Go.Proofs.Ytohfhphiofobcaa
open Go.RowKit Go.Lib
attribute [local go_sem] ByteArray.mk_append_mk

theorem diPut_yes {t : List Row} (h : diMay t = true) : diPut t = (diBytes t, true) := by unfold diPut; rw [if_pos h]
theorem diPut_no {t : List Row} (h : diMay t = false) : diPut t = ([], false) := by unfold diPut; rw [if_neg (by rw [h]; decide)]

theorem rowOk_at {t : List Row} {k : Nat} {c st : List UInt8} {x y z : Int} (h : ∀ r ∈ t, rowOk r = true) (hk : k < t.length) (hr : t.getD k Row.zero = ⟨c, x, y, z, st⟩) : idIs c = true ∧ vaMay ⟨x, y, z, st⟩ = true := by
  have hm : t.getD k Row.zero ∈ t := by rw [← row_get hk]; exact List.getElem_mem hk
  have := rowOk_parts (h _ hm)
  rw [hr] at this
  exact this

theorem idPut_is {c : List UInt8} (h : idIs c = true) : idPut c = (vput c.length ++ c, true) := by unfold idPut; rw [if_pos h]
theorem vaPut_is {v : Val} (h : vaMay v = true) : vaPut v = vaBytes v := by unfold vaPut; rw [if_pos h]

theorem rowsBytes_next {t : List Row} {k : Nat} {c st : List UInt8} {x y z : Int} (hk : k < t.length) (hr : t.getD k Row.zero = ⟨c, x, y, z, st⟩) :
    rowsBytes (t.take (k + 1)) = rowsBytes (t.take k) ++ ((vput c.length ++ c) ++ vaBytes ⟨x, y, z, st⟩) := by
  rw [rowsBytes_succ hk, hr]
  rfl

theorem acc_len {t : List Row} (h : ∀ r ∈ t, rowOk r = true) (hl : t.length ≤ 32) (k : Nat) : (vput t.length ++ rowsBytes (t.take k)).length ≤ 1994 := by
  have h1 := rowsBytes_len (t := t.take k) (fun r hr => h r (List.mem_of_mem_take hr))
  have h2 := vput_len_le t.length
  have h3 : (t.take k).length ≤ t.length := by rw [List.length_take]; omega
  rw [List.length_append]
  omega

set_option maxHeartbeats 1600000 in
set_option maxRecDepth 100000 in
theorem diput_no {w : World} {v : Value} {t : List Row} (hv : Tab w v t) (hs : Short t) (hm : Hid (diMay t = false)) :
    Calls Try.prog 109 #[v] w fun e w' => e = .returned (.tuple #[.string ⟨([] : List UInt8).toArray⟩, .bool false]) ∧ Below w.heap.size w w' := by
  have HM := Lib.hid (dimay_eq hv hs hm)
  obtain ⟨a, cap, rfl, _⟩ := hv.open'
  clear hv hs hm
  go_enter Try.func109, Try.ntmps109
  go_wp2_with fail
  refine HM.out.mono ?_
  rintro e w1 ⟨rfl, hb1⟩
  have B1 := Lib.hid hb1
  clear hb1
  go_wp2_with fail
  go_ret2
  exact ⟨rfl, B1.out⟩

set_option maxHeartbeats 1600000 in
set_option maxRecDepth 100000 in
theorem diput_yes {w : World} {v : Value} {t : List Row} (hv : Tab w v t) (hs : Short t) (hm : Hid (diMay t = true)) :
    Calls Try.prog 109 #[v] w fun e w' => e = .returned (.tuple #[.string ⟨(diBytes t).toArray⟩, .bool true]) ∧ Below w.heap.size w w' := by
  have HM := Lib.hid (dimay_eq hv hs hm)
  have HV := Lib.hid hv
  have hl32 := (diMay_iff.1 hm.out).1
  have HOk := Lib.hid (diMay_iff.1 hm.out).2.1
  have HS := Lib.hid hs
  obtain ⟨a, cap, rfl, _⟩ := hv.open'
  have HPut := Lib.hid (put_any t.length (by omega))
  clear hv hs hm
  go_enter Try.func109, Try.ntmps109
  go_wp2_with fail
  refine HM.out.mono ?_
  rintro e w1 ⟨rfl, hb1⟩
  have B1 := Lib.hid hb1
  have HW := Lib.hid (fun W (acc l : List UInt8) h1 h2 h3 => Try.Builder_WriteString_k w1.heap.size w1.heap.size (byteCells acc) ⟨l.toArray⟩ W h1 h2 h3)
  have HStr := Lib.hid (fun W (acc : List UInt8) hI hb => Try.Builder_String_any_k w1.heap.size w1.heap.size acc W hI hb)
  have HF := Lib.hid (IsBuilderF.of (fresh_isBuilder 146 5 w1))
  clear hb1
  go_wp2_with fail
  refine (HPut.out _).mono ?_
  rintro e w2 ⟨rfl, hb2⟩
  have F2 := Lib.hid (builder_later HF.out hb2)
  have N2 := Lib.hid (below2' ((Below.refl w1.heap.size w1).alloc (Nat.le_refl _) _) hb2)
  have hz2 := N2.out.size
  have hvl := vput_len_le t.length
  clear hb2 HF
  go_wp2_with fail
  refine (HW.out _ [] (vput t.length) F2.out (by rw [byteCells_length, size_bytes]; simp; omega) hz2).mono ?_
  rintro e w3 ⟨rfl, h3, b3, _⟩
  have F3 : Hid (IsBuilderF 146 5 w1.heap.size w1.heap.size (byteCells (vput t.length)) w3) := by
    show IsBuilderF _ _ _ _ _ _
    have : byteCells (vput t.length) = byteCells [] ++ strCells ⟨(vput t.length).toArray⟩ := by rw [strCells_eq]; rfl
    rw [this]
    exact Or.inr h3
  have N3 := Lib.hid (N2.out.trans b3)
  clear h3 b3 F2 N2 hz2
  go_wp2_with fail
  go_loopw [21] (fun i wr => ∃ (k : Nat) (acc : List UInt8), k ≤ t.length ∧ i = .int .i64 k ∧ Hid (acc = vput t.length ++ rowsBytes (t.take k)) ∧ Hid (IsBuilderF 146 5 w1.heap.size w1.heap.size (byteCells acc) wr) ∧ Hid (Below w1.heap.size w1 wr)) (fun i _ => t.length - (intOf i).toNat)
  case atStart => exact ⟨0, vput t.length, by omega, rfl, by show _ = _; simp [rowsBytes], F3, N3⟩
  case round =>
    clear F3 N3
    obtain ⟨k, acc, hk, rfl, HA, F, HN⟩ := hrel
    by_cases hlt : k < t.length
    · obtain ⟨b, off, rfl, h0, h1, h2, h3, h4⟩ := HV.out.row (below2' B1.out HN.out) k hlt
      obtain ⟨hl1, hl2⟩ := HS.out.get hlt
      obtain ⟨⟨c, ⟨x, y, z, st⟩⟩, hr⟩ : ∃ r, t.getD k Row.zero = r := ⟨_, rfl⟩
      rw [hr] at h0 h1 h2 h3 h4 hl1 hl2
      obtain ⟨hi, hm⟩ := rowOk_at HOk.out hlt hr
      have HX := Lib.hid (rowsBytes_next hlt hr)
      have HP := Lib.hid (idput_eq c hl1 (Lib.hid (idPut_is hi)))
      have HQ := Lib.hid (vaput_any x y z st hl2 (Lib.hid (vaPut_is hm)) (Lib.hid hm))
      have hal := acc_len HOk.out hl32 k
      rw [← HA.out] at hal
      have hal2 := acc_len HOk.out hl32 (k + 1)
      obtain ⟨p, hp⟩ : ∃ p, vput c.length ++ c = p := ⟨_, rfl⟩
      obtain ⟨q, hq⟩ : ∃ q, vaBytes ⟨x, y, z, st⟩ = q := ⟨_, rfl⟩
      rw [hp] at HP HX
      rw [hq] at HQ HX
      rw [HX.out, ← List.append_assoc, ← HA.out] at hal2
      have hal3 : acc.length + p.length + q.length ≤ 1994 := by simp only [List.length_append] at hal2; omega
      have HA2 : Hid (acc ++ p ++ q = vput t.length ++ rowsBytes (t.take (k + 1))) := by show _ = _; rw [HX.out, HA.out]; simp
      simp only at h0 h1 h2 h3 h4 hl1 hl2
      clear hr hi hm hp hq hal hal2 HX hl1 hl2
      go_wp2_with fail
      refine (HP.out _).mono ?_
      rintro e w4 ⟨rfl, hb4⟩
      have N4 := Lib.hid (below2' HN.out (box5 hb4).2)
      have F4 := Lib.hid (builder_later F.out (box5 hb4).2)
      obtain ⟨k0, k1, k2, k3, k4⟩ := (box5 hb4).1
      clear hb4 h0 h1 h2 h3 h4
      go_wp2_with fail
      refine (HQ.out _).mono ?_
      rintro e w5 ⟨rfl, hb5⟩
      have N5 := Lib.hid (below2' N4.out hb5)
      have F5 := Lib.hid (builder_later F4.out hb5)
      have hz5 := N5.out.size
      clear hb5 k0 k1 k2 k3 k4 N4 F4
      go_wp2_with fail
      refine (HW.out _ acc p F5.out (by rw [byteCells_length, size_bytes]; omega) hz5).mono ?_
      rintro e w6 ⟨rfl, h6, b6, _⟩
      have F6 : Hid (IsBuilderF 146 5 w1.heap.size w1.heap.size (byteCells (acc ++ p)) w6) := by
        show IsBuilderF _ _ _ _ _ _
        rw [byteCells_append]
        exact Or.inr h6
      have N6 := Lib.hid (N5.out.trans b6)
      have hz6 := N6.out.size
      clear h6 b6 N5 F5 hz5
      go_wp2_with fail
      refine (HW.out _ (acc ++ p) q F6.out (by rw [byteCells_length, size_bytes, List.length_append]; omega) hz6).mono ?_
      rintro e w7 ⟨rfl, h7, b7, _⟩
      have F7 : Hid (IsBuilderF 146 5 w1.heap.size w1.heap.size (byteCells (acc ++ p ++ q)) w7) := by
        show IsBuilderF _ _ _ _ _ _
        rw [byteCells_append]
        exact Or.inr h7
      have N7 := Lib.hid (N6.out.trans b7)
      clear h7 b7 N6 F6 hz6
      go_wp2_with fail
      go_roundw
      case rel => exact ⟨k + 1, acc ++ p ++ q, by omega, by go_num, HA2, F7, N7⟩
      case measure => simp [intOf]; omega
    · obtain rfl : k = t.length := by omega
      have HR : Hid (acc = diBytes t) := by show _ = _; rw [HA.out, List.take_length]; rfl
      have hz := HN.out.size
      go_wp2_with fail
      refine (HStr.out _ acc F.out hz).mono ?_
      rintro e w8 ⟨rfl, _, b8, _⟩
      have N8 := Lib.hid (below2' B1.out (HN.out.trans b8))
      clear b8
      go_wp2_with fail
      go_ret2
      exact ⟨by rw [HR.out]; rfl, N8.out⟩

theorem diput_eq {w : World} {v : Value} {t : List Row} (hv : Tab w v t) (hs : Short t) {l : List UInt8} {r : Bool} (h : Hid (diPut t = (l, r))) :
    Calls Try.prog 109 #[v] w fun e w' => e = .returned (.tuple #[.string ⟨l.toArray⟩, .bool r]) ∧ Below w.heap.size w w' := by
  have e := h.out
  cases hm : diMay t with
  | false =>
    rw [diPut_no hm] at e
    simp only [Prod.mk.injEq] at e
    obtain ⟨rfl, rfl⟩ := e
    exact diput_no hv hs (Lib.hid hm)
  | true =>
    rw [diPut_yes hm] at e
    simp only [Prod.mk.injEq] at e
    obtain ⟨rfl, rfl⟩ := e
    exact diput_yes hv hs (Lib.hid hm)

end Go.Proofs.Ytohfhphiofobcaa

end

section

/-
  THE CONTRACT OF THE DOCUMENT'S Put (of a table).
-/
namespace Go.Proofs.Ytohfhphiofobcaa
open Go.RowKit
attribute [local go_sem] ByteArray.mk_append_mk

set_option maxHeartbeats 1600000 in
set_option maxRecDepth 100000 in
theorem rdiput_no {w : World} {v : Value} {t : List Row} (hv : Tab w v t) (hs : Short t) (hm : Hid (diMay t = false)) :
    Calls Try.prog 22 #[v] w fun e w' => e = .returned (.tuple #[.string ⟨([] : List UInt8).toArray⟩, .bool false]) ∧ Below w.heap.size w w' := by
  have HM := Lib.hid (rdimay_eq hv hs hm)
  obtain ⟨a, cap, rfl, _⟩ := hv.open'
  clear hv hs hm
  go_enter Try.func22, Try.ntmps22
  go_wp2_with fail
  refine HM.out.mono ?_
  rintro e w1 ⟨rfl, hb1⟩
  have B1 := Lib.hid hb1
  clear hb1
  go_wp2_with fail
  go_ret2
  exact ⟨rfl, B1.out⟩

set_option maxHeartbeats 1600000 in
set_option maxRecDepth 100000 in
theorem rdiput_yes {w : World} {v : Value} {t : List Row} (hv : Tab w v t) (hs : Short t) (hm : Hid (diMay t = true)) :
    Calls Try.prog 22 #[v] w fun e w' => e = .returned (.tuple #[.string ⟨(diBytes t).toArray⟩, .bool true]) ∧ Below w.heap.size w w' := by
  have HM := Lib.hid (rdimay_eq hv hs hm)
  have HV := Lib.hid hv
  have hl32 := (diMay_iff.1 hm.out).1
  have HOk := Lib.hid (diMay_iff.1 hm.out).2.1
  have HS := Lib.hid hs
  obtain ⟨a, cap, rfl, _⟩ := hv.open'
  have HPut := Lib.hid (rput_any t.length (by omega))
  clear hv hs hm
  go_enter Try.func22, Try.ntmps22
  go_wp2_with fail
  refine HM.out.mono ?_
  rintro e w1 ⟨rfl, hb1⟩
  have B1 := Lib.hid hb1
  clear hb1
  go_wp2_with fail
  refine (HPut.out _).mono ?_
  rintro e w2 ⟨rfl, hb2⟩
  have N2 := Lib.hid (below2' B1.out hb2)
  clear hb2
  go_wp2_with fail
  go_loopw [4, 5] (fun s i wr => ∃ (k : Nat) (acc : List UInt8), k ≤ t.length ∧ i = .int .i64 k ∧ s = .string ⟨acc.toArray⟩ ∧ Hid (acc = vput t.length ++ rowsBytes (t.take k)) ∧ Hid (Below w.heap.size w wr)) (fun _ i _ => t.length - (intOf i).toNat)
  case atStart => exact ⟨0, vput t.length, by omega, rfl, rfl, by show _ = _; simp [rowsBytes], N2⟩
  case round =>
    clear N2
    obtain ⟨k, acc, hk, rfl, rfl, HA, HN⟩ := hrel
    by_cases hlt : k < t.length
    · obtain ⟨b, off, rfl, h0, h1, h2, h3, h4⟩ := HV.out.row HN.out k hlt
      obtain ⟨hl1, hl2⟩ := HS.out.get hlt
      obtain ⟨⟨c, ⟨x, y, z, st⟩⟩, hr⟩ : ∃ r, t.getD k Row.zero = r := ⟨_, rfl⟩
      rw [hr] at h0 h1 h2 h3 h4 hl1 hl2
      obtain ⟨hi, hm⟩ := rowOk_at HOk.out hlt hr
      have HX := Lib.hid (rowsBytes_next hlt hr)
      have HP := Lib.hid (ridput_eq c hl1 (Lib.hid (idPut_is hi)))
      have HQ := Lib.hid (rvaput_any x y z st hl2 (Lib.hid (vaPut_is hm)) (Lib.hid hm))
      have hal := acc_len HOk.out hl32 k
      rw [← HA.out] at hal
      have hal2 := acc_len HOk.out hl32 (k + 1)
      obtain ⟨p, hp⟩ : ∃ p, vput c.length ++ c = p := ⟨_, rfl⟩
      obtain ⟨q, hq⟩ : ∃ q, vaBytes ⟨x, y, z, st⟩ = q := ⟨_, rfl⟩
      rw [hp] at HP HX
      rw [hq] at HQ HX
      rw [HX.out, ← List.append_assoc, ← HA.out] at hal2
      have hal3 : acc.length + p.length + q.length ≤ 1994 := by simp only [List.length_append] at hal2; omega
      have HA2 : Hid (acc ++ (p ++ q) = vput t.length ++ rowsBytes (t.take (k + 1))) := by show _ = _; rw [HX.out, HA.out]; simp
      simp only at h0 h1 h2 h3 h4 hl1 hl2
      have K0 := Lib.hid (⟨h1, h2, h3, h4⟩ : _ ∧ _ ∧ _ ∧ _)
      clear hr hi hm hp hq hal hal2 HX hl1 hl2 h1 h2 h3 h4
      go_wp2_with fail
      refine (HP.out _).mono ?_
      rintro e w4 ⟨rfl, hb4⟩
      have N4 := Lib.hid (below2' HN.out hb4)
      have h1 := cell_later K0.out.1 hb4
      have h2 := cell_later K0.out.2.1 hb4
      have h3 := cell_later K0.out.2.2.1 hb4
      have h4 := cell_later K0.out.2.2.2 hb4
      clear hb4 h0 K0
      go_wp2_with fail
      refine (HQ.out _).mono ?_
      rintro e w5 ⟨rfl, hb5⟩
      have N5 := Lib.hid (below2' N4.out hb5)
      clear hb5 h1 h2 h3 h4 N4
      go_wp2_with fail
      go_roundw
      case rel => exact ⟨k + 1, acc ++ (p ++ q), by omega, by go_num, by first | rfl | simp, HA2, N5⟩
      case measure => simp [intOf]; omega
    · obtain rfl : k = t.length := by omega
      have HR : Hid (acc = diBytes t) := by show _ = _; rw [HA.out, List.take_length]; rfl
      go_wp2_with fail
      go_ret2
      exact ⟨by rw [HR.out]; rfl, HN.out⟩

theorem rdiput_eq {w : World} {v : Value} {t : List Row} (hv : Tab w v t) (hs : Short t) {l : List UInt8} {r : Bool} (h : Hid (diPut t = (l, r))) :
    Calls Try.prog 22 #[v] w fun e w' => e = .returned (.tuple #[.string ⟨l.toArray⟩, .bool r]) ∧ Below w.heap.size w w' := by
  have e := h.out
  cases hm : diMay t with
  | false =>
    rw [diPut_no hm] at e
    simp only [Prod.mk.injEq] at e
    obtain ⟨rfl, rfl⟩ := e
    exact rdiput_no hv hs (Lib.hid hm)
  | true =>
    rw [diPut_yes hm] at e
    simp only [Prod.mk.injEq] at e
    obtain ⟨rfl, rfl⟩ := e
    exact rdiput_yes hv hs (Lib.hid hm)

end Go.Proofs.Ytohfhphiofobcaa

end

section

/-
  THE CONTRACTS OF digest.Sum AND OF THE DOCUMENT'S ANSWER TO IT.
-/
namespace Go.Proofs.Ytohfhphiofobcaa
open Go.RowKit

end Go.Proofs.Ytohfhphiofobcaa

end

section

/-
  THE CONTRACT OF digest.takeRow.
-/
namespace Go.Proofs.Ytohfhphiofobcaa
open Go.RowKit

def rowAgg (r : Row) : Value := .agg #[.string ⟨r.c.toArray⟩, .int .i64 r.v.sh, .int .i64 r.v.pr, .int .i64 r.v.si, .string ⟨r.v.st.toArray⟩]

/-- Three results: row, place, error. -/
def tripleR (r : Row × Nat × Nat) : Value := .tuple #[rowAgg r.1, .int .i64 r.2.1, .int .i64 r.2.2]

def set5D (w : World) (B : Nat) (a b c d e : Value) : World :=
  ((((w.setCell ⟨B, 0, none⟩ a).setCell ⟨B, 1, none⟩ b).setCell ⟨B, 2, none⟩ c).setCell ⟨B, 3, none⟩ d).setCell ⟨B, 4, none⟩ e

theorem five_set (w : World) (B : Nat) (a b c d e : Value) {a' b' c' d' e' : Value} (h0 : w.cell? ⟨B, 0, none⟩ = some a') (h1 : w.cell? ⟨B, 1, none⟩ = some b') (h2 : w.cell? ⟨B, 2, none⟩ = some c') (h3 : w.cell? ⟨B, 3, none⟩ = some d') (h4 : w.cell? ⟨B, 4, none⟩ = some e') :
    (set5D w B a b c d e).cell? ⟨B, 0, none⟩ = some a ∧ (set5D w B a b c d e).cell? ⟨B, 1, none⟩ = some b ∧ (set5D w B a b c d e).cell? ⟨B, 2, none⟩ = some c ∧ (set5D w B a b c d e).cell? ⟨B, 3, none⟩ = some d ∧ (set5D w B a b c d e).cell? ⟨B, 4, none⟩ = some e := by
  unfold set5D
  have o1 : ((w.setCell ⟨B, 0, none⟩ a)).cell? ⟨B, 1, none⟩ = some b' := by rw [World.cell?_setCell_other _ _ _ _ (by simp)]; exact h1
  have o2 : ((w.setCell ⟨B, 0, none⟩ a).setCell ⟨B, 1, none⟩ b).cell? ⟨B, 2, none⟩ = some c' := by rw [World.cell?_setCell_other _ _ _ _ (by simp), World.cell?_setCell_other _ _ _ _ (by simp)]; exact h2
  have o3 : (((w.setCell ⟨B, 0, none⟩ a).setCell ⟨B, 1, none⟩ b).setCell ⟨B, 2, none⟩ c).cell? ⟨B, 3, none⟩ = some d' := by rw [World.cell?_setCell_other _ _ _ _ (by simp), World.cell?_setCell_other _ _ _ _ (by simp), World.cell?_setCell_other _ _ _ _ (by simp)]; exact h3
  have o4 : ((((w.setCell ⟨B, 0, none⟩ a).setCell ⟨B, 1, none⟩ b).setCell ⟨B, 2, none⟩ c).setCell ⟨B, 3, none⟩ d).cell? ⟨B, 4, none⟩ = some e' := by
    rw [World.cell?_setCell_other _ _ _ _ (by simp), World.cell?_setCell_other _ _ _ _ (by simp), World.cell?_setCell_other _ _ _ _ (by simp), World.cell?_setCell_other _ _ _ _ (by simp)]; exact h4
  refine ⟨?_, ?_, ?_, ?_, ?_⟩
  · rw [World.cell?_setCell_other _ _ _ _ (by simp), World.cell?_setCell_other _ _ _ _ (by simp), World.cell?_setCell_other _ _ _ _ (by simp), World.cell?_setCell_other _ _ _ _ (by simp)]
    exact World.cell?_setCell_same _ _ _ h0
  · rw [World.cell?_setCell_other _ _ _ _ (by simp), World.cell?_setCell_other _ _ _ _ (by simp), World.cell?_setCell_other _ _ _ _ (by simp)]
    exact World.cell?_setCell_same _ _ _ o1
  · rw [World.cell?_setCell_other _ _ _ _ (by simp), World.cell?_setCell_other _ _ _ _ (by simp)]
    exact World.cell?_setCell_same _ _ _ o2
  · rw [World.cell?_setCell_other _ _ _ _ (by simp)]
    exact World.cell?_setCell_same _ _ _ o3
  · exact World.cell?_setCell_same _ _ _ o4

theorem set5D_below {w w1 : World} (h : Below w.heap.size w w1) (B : Nat) (hB : w.heap.size ≤ B) (a b c d e : Value) : Below w.heap.size w (set5D w1 B a b c d e) :=
  ((((h.setCell hB _).setCell hB _).setCell hB _).setCell hB _).setCell hB _

/-- None of a block's five cells is frozen. -/
def Free5 (w : World) (b : Nat) : Prop :=
  w.frozen? ⟨b, 0, none⟩ = false ∧ w.frozen? ⟨b, 1, none⟩ = false ∧ w.frozen? ⟨b, 2, none⟩ = false ∧ w.frozen? ⟨b, 3, none⟩ = false ∧ w.frozen? ⟨b, 4, none⟩ = false

theorem Free5.later {w w' : World} {b : Nat} (h : Free5 w b) (hb : Below w.heap.size w w') (hlt : b < w.heap.size) : Free5 w' b := by
  obtain ⟨h0, h1, h2, h3, h4⟩ := h
  have k : ∀ o, w'.frozen? ⟨b, o, none⟩ = w.frozen? ⟨b, o, none⟩ := fun o => hb.frozen (p := ⟨b, o, none⟩) hlt
  exact ⟨(k _).trans h0, (k _).trans h1, (k _).trans h2, (k _).trans h3, (k _).trans h4⟩

theorem free5 {wr w1 : World} {a b c d e : Value} {ty : TypeId} (hb : Below (wr.alloc (.cells #[a, b, c, d, e] ty)).heap.size (wr.alloc (.cells #[a, b, c, d, e] ty)) w1) : Free5 w1 wr.heap.size := by
  have k : ∀ o, w1.frozen? ⟨wr.heap.size, o, none⟩ = false := fun o => by
    rw [hb.frozen (p := ⟨wr.heap.size, o, none⟩) (by show wr.heap.size < _; simp)]
    simp
  exact ⟨k 0, k 1, k 2, k 3, k 4⟩

theorem five_set_alloc (w : World) (B : Nat) (o : Obj) (a b c d e : Value) {a' b' c' d' e' : Value} (h0 : w.cell? ⟨B, 0, none⟩ = some a') (h1 : w.cell? ⟨B, 1, none⟩ = some b') (h2 : w.cell? ⟨B, 2, none⟩ = some c') (h3 : w.cell? ⟨B, 3, none⟩ = some d') (h4 : w.cell? ⟨B, 4, none⟩ = some e') :
    ((set5D w B a b c d e).alloc o).cell? ⟨B, 0, none⟩ = some a ∧ ((set5D w B a b c d e).alloc o).cell? ⟨B, 1, none⟩ = some b ∧ ((set5D w B a b c d e).alloc o).cell? ⟨B, 2, none⟩ = some c ∧ ((set5D w B a b c d e).alloc o).cell? ⟨B, 3, none⟩ = some d ∧ ((set5D w B a b c d e).alloc o).cell? ⟨B, 4, none⟩ = some e := by
  obtain ⟨r0, r1, r2, r3, r4⟩ := five_set w B a b c d e h0 h1 h2 h3 h4
  have hb : Below (set5D w B a b c d e).heap.size (set5D w B a b c d e) ((set5D w B a b c d e).alloc o) := (Below.refl _ _).alloc (Nat.le_refl _) _
  exact ⟨cell_later r0 hb, cell_later r1 hb, cell_later r2 hb, cell_later r3 hb, cell_later r4 hb⟩

theorem taker_id {l : List UInt8} {p : Nat} {c : List UInt8} {f er : Nat} (h : idTake l p = (c, f, er)) (he : er ≠ 0) : diTakeRow l p = (Row.zero, 0, er) := by
  unfold diTakeRow
  rw [h]
  simp only [if_pos he]

theorem taker_va {l : List UInt8} {p : Nat} {c : List UInt8} {f g er : Nat} {v : Val} (h : idTake l p = (c, f, 0)) (h2 : vaTake l f = (v, g, er)) (he : er ≠ 0) : diTakeRow l p = (Row.zero, 0, er) := by
  unfold diTakeRow
  rw [h]
  simp only [ne_eq, not_true_eq_false, if_false]
  rw [h2]
  simp only [if_pos he]

theorem taker_ok {l : List UInt8} {p : Nat} {c : List UInt8} {f g : Nat} {v : Val} (h : idTake l p = (c, f, 0)) (h2 : vaTake l f = (v, g, 0)) : diTakeRow l p = (⟨c, v⟩, g, 0) := by
  unfold diTakeRow
  rw [h]
  simp only [ne_eq, not_true_eq_false, if_false]
  rw [h2]
  simp only [not_true_eq_false, if_false]

set_option maxHeartbeats 800000 in
set_option maxRecDepth 100000 in
theorem taker_1 (l : List UInt8) (hl : l.length ≤ 4294967296) (p : Nat) {c : List UInt8} {f er : Nat} (h : idTake l p = (c, f, er)) (he : er ≠ 0) (w : World) :
    Calls Try.prog 127 #[.string ⟨l.toArray⟩, .int .i64 p] w fun e w' => e = .returned (tripleR (diTakeRow l p)) ∧ Below w.heap.size w w' := by
  have HR := Lib.hid (taker_id h he)
  have HT := Lib.hid (idtake_eq l hl p (Lib.hid h))
  have t1 : ((er : Int) != 0) = true := by simp; omega
  clear h he
  go_enter Try.func127, Try.ntmps127
  go_wp2_with fail
  refine (HT.out _).mono ?_
  rintro e w1 ⟨rfl, hb1⟩
  obtain ⟨q0, q1, q2, q3, q4⟩ := (box5 (c := []) (st := []) hb1).1
  obtain ⟨f0, f1, f2, f3, f4⟩ := free5 hb1
  have B1 := Lib.hid (box5 (c := []) (st := []) hb1).2
  clear hb1
  go_wp2_with fail
  obtain ⟨r0, r1, r2, r3, r4⟩ := five_set w1 w.heap.size (.string ⟨#[]⟩) (.int .i64 0) (.int .i64 0) (.int .i64 0) (.string ⟨#[]⟩) q0 q1 q2 q3 q4
  unfold set5D at r0 r1 r2 r3 r4
  exact bodyPost_ret (v := tripleR (Row.zero, 0, er)) (by simp [results, Try.results127, go_sem, tripleR, rowAgg, Row.zero, Val.zero, r0, r1, r2, r3, r4]) rfl ⟨by rw [HR.out], set5D_below B1.out _ (Nat.le_refl _) _ _ _ _ _⟩

set_option maxHeartbeats 800000 in
set_option maxRecDepth 100000 in
theorem taker_2 (l : List UInt8) (hl : l.length ≤ 4294967296) (p : Nat) {c : List UInt8} {f g er : Nat} {x y z : Int} {st : List UInt8} (h : idTake l p = (c, f, 0)) (h2 : vaTake l f = (⟨x, y, z, st⟩, g, er)) (he : er ≠ 0) (w : World) :
    Calls Try.prog 127 #[.string ⟨l.toArray⟩, .int .i64 p] w fun e w' => e = .returned (tripleR (diTakeRow l p)) ∧ Below w.heap.size w w' := by
  have HR := Lib.hid (taker_va h h2 he)
  have HT := Lib.hid (idtake_eq l hl p (Lib.hid h))
  have HU := Lib.hid (vatake_eq l hl f (Lib.hid h2))
  have t1 : ((er : Int) != 0) = true := by simp; omega
  clear h h2 he
  go_enter Try.func127, Try.ntmps127
  go_wp2_with fail
  refine (HT.out _).mono ?_
  rintro e w1 ⟨rfl, hb1⟩
  have Q1 := Lib.hid (box5 (c := []) (st := []) hb1).1
  have F1 := Lib.hid (free5 hb1)
  have B1 := Lib.hid (box5 (c := []) (st := []) hb1).2
  clear hb1
  go_wp2_with fail
  refine (HU.out _).mono ?_
  rintro e w2 ⟨rfl, hb2⟩
  have B2 := Lib.hid (below2' B1.out hb2)
  have hlt := (Q1.out.later hb2).lt
  have k := (Q1.out.later hb2)
  obtain ⟨k0, k1, k2, k3, k4⟩ := k
  obtain ⟨f0, f1, f2, f3, f4⟩ := F1.out.later hb2 Q1.out.lt
  clear hb2 B1 Q1 F1
  go_wp2_with fail
  obtain ⟨r0, r1, r2, r3, r4⟩ := five_set_alloc w2 w.heap.size (.cells #[.int .i64 x, .int .i64 y, .int .i64 z, .string ⟨st.toArray⟩] 23) (.string ⟨#[]⟩) (.int .i64 0) (.int .i64 0) (.int .i64 0) (.string ⟨#[]⟩) k0 k1 k2 k3 k4
  unfold set5D at r0 r1 r2 r3 r4
  exact bodyPost_ret (v := tripleR (Row.zero, 0, er)) (by simp [results, Try.results127, go_sem, tripleR, rowAgg, Row.zero, Val.zero, r0, r1, r2, r3, r4]) rfl ⟨by rw [HR.out], bl_alloc (set5D_below B2.out _ (Nat.le_refl _) _ _ _ _ _) _⟩

set_option maxHeartbeats 800000 in
set_option maxRecDepth 100000 in
theorem taker_3 (l : List UInt8) (hl : l.length ≤ 4294967296) (p : Nat) {c : List UInt8} {f g : Nat} {x y z : Int} {st : List UInt8} (h : idTake l p = (c, f, 0)) (h2 : vaTake l f = (⟨x, y, z, st⟩, g, 0)) (w : World) :
    Calls Try.prog 127 #[.string ⟨l.toArray⟩, .int .i64 p] w fun e w' => e = .returned (tripleR (diTakeRow l p)) ∧ Below w.heap.size w w' := by
  have HR := Lib.hid (taker_ok h h2)
  have HT := Lib.hid (idtake_eq l hl p (Lib.hid h))
  have HU := Lib.hid (vatake_eq l hl f (Lib.hid h2))
  clear h h2
  go_enter Try.func127, Try.ntmps127
  go_wp2_with fail
  refine (HT.out _).mono ?_
  rintro e w1 ⟨rfl, hb1⟩
  have Q1 := Lib.hid (box5 (c := []) (st := []) hb1).1
  have F1 := Lib.hid (free5 hb1)
  have B1 := Lib.hid (box5 (c := []) (st := []) hb1).2
  clear hb1
  go_wp2_with fail
  refine (HU.out _).mono ?_
  rintro e w2 ⟨rfl, hb2⟩
  have B2 := Lib.hid (below2' B1.out hb2)
  have hlt := (Q1.out.later hb2).lt
  have k := (Q1.out.later hb2)
  obtain ⟨k0, k1, k2, k3, k4⟩ := k
  obtain ⟨f0, f1, f2, f3, f4⟩ := F1.out.later hb2 Q1.out.lt
  clear hb2 B1 Q1 F1
  go_wp2_with fail
  obtain ⟨r0, r1, r2, r3, r4⟩ := five_set_alloc w2 w.heap.size (.cells #[.int .i64 x, .int .i64 y, .int .i64 z, .string ⟨st.toArray⟩] 23) (.string ⟨c.toArray⟩) (.int .i64 x) (.int .i64 y) (.int .i64 z) (.string ⟨st.toArray⟩) k0 k1 k2 k3 k4
  unfold set5D at r0 r1 r2 r3 r4
  exact bodyPost_ret (v := tripleR (⟨c, x, y, z, st⟩, g, 0)) (by simp [results, Try.results127, go_sem, tripleR, rowAgg, r0, r1, r2, r3, r4]) rfl ⟨by rw [HR.out], bl_alloc (set5D_below B2.out _ (Nat.le_refl _) _ _ _ _ _) _⟩

theorem taker_any (l : List UInt8) (hl : l.length ≤ 4294967296) (p : Nat) (w : World) :
    Calls Try.prog 127 #[.string ⟨l.toArray⟩, .int .i64 p] w fun e w' => e = .returned (tripleR (diTakeRow l p)) ∧ Below w.heap.size w w' := by
  obtain ⟨c, f, er, h⟩ : ∃ c f er, idTake l p = (c, f, er) := ⟨_, _, _, rfl⟩
  by_cases he : er = 0
  · subst he
    obtain ⟨x, y, z, st, g, es, h2⟩ : ∃ x y z st g es, vaTake l f = (⟨x, y, z, st⟩, g, es) := ⟨_, _, _, _, _, _, rfl⟩
    by_cases hes : es = 0
    · subst hes
      exact taker_3 l hl p h h2 w
    · exact taker_2 l hl p h h2 hes w
  · exact taker_1 l hl p h he w

theorem taker_eq (l : List UInt8) (hl : l.length ≤ 4294967296) (p : Nat) {c st : List UInt8} {x y z : Int} {f er : Nat} (h : Hid (diTakeRow l p = (⟨c, x, y, z, st⟩, f, er))) (w : World) :
    Calls Try.prog 127 #[.string ⟨l.toArray⟩, .int .i64 p] w fun e w' => e = .returned (.tuple #[.agg #[.string ⟨c.toArray⟩, .int .i64 x, .int .i64 y, .int .i64 z, .string ⟨st.toArray⟩], .int .i64 f, .int .i64 er]) ∧ Below w.heap.size w w' := by
  have := taker_any l hl p w
  rwa [h.out] at this

end Go.Proofs.Ytohfhphiofobcaa

end

section

/-
  TABLES OF THE CALL'S OWN: what they hold, and what append makes of them.
-/
namespace Go.Proofs.Ytohfhphiofobcaa
open Go.RowKit

/-- The cells of rows, one row behind the other. -/
def cellsOf (t : List Row) : List Value := (t.map rowVals).flatten

theorem cellsOf_cons (r : Row) (t : List Row) : cellsOf (r :: t) = rowVals r ++ cellsOf t := rfl
theorem cellsOf_append (a b : List Row) : cellsOf (a ++ b) = cellsOf a ++ cellsOf b := by simp [cellsOf]
theorem cellsOf_one (r : Row) : cellsOf [r] = rowVals r := by simp [cellsOf]

theorem rowVals_len (r : Row) : (rowVals r).length = 5 := rfl

theorem cellsOf_len : ∀ t : List Row, (cellsOf t).length = t.length * 5
  | [] => rfl
  | r :: t => by rw [cellsOf_cons, List.length_append, rowVals_len, cellsOf_len t, List.length_cons]; omega

theorem cellsOf_at : ∀ (t : List Row) (i j : Nat), i < t.length → j < 5 → (cellsOf t)[i * 5 + j]? = (rowVals (t.getD i Row.zero))[j]?
  | [], i, j, h, _ => by simp at h
  | r :: t, 0, j, _, hj => by
    rw [cellsOf_cons, Nat.zero_mul, Nat.zero_add, List.getElem?_append_left (by rw [rowVals_len]; exact hj)]
    rfl
  | r :: t, i + 1, j, h, hj => by
    rw [cellsOf_cons, List.getElem?_append_right (by rw [rowVals_len]; omega), rowVals_len, show (i + 1) * 5 + j - 5 = i * 5 + j by omega, cellsOf_at t i j (by simpa using h) hj]
    rfl

theorem cellsOf_single (t : List Row) : ∀ u ∈ cellsOf t, u.oneCell' = true := by
  intro u hu
  obtain ⟨l, hl, hu⟩ := List.mem_flatten.1 hu
  obtain ⟨r, _, rfl⟩ := List.mem_map.1 hl
  simp only [rowVals, List.mem_cons, List.not_mem_nil, or_false] at hu
  rcases hu with rfl | rfl | rfl | rfl | rfl <;> rfl

theorem cells5_of {w : World} {b o : Nat} {r : Row} (h : ∀ j u, (rowVals r)[j]? = some u → w.cell? ⟨b, o + j, none⟩ = some u) : Cells5 w b o r :=
  ⟨h 0 _ rfl, h 1 _ rfl, h 2 _ rfl, h 3 _ rfl, h 4 _ rfl⟩

/-- A table of the call's own. -/
def OwnR (w : World) (base : Nat) (v : Value) (t : List Row) : Prop := w.ownsRow base 82 5 v t.length (cellsOf t)

theorem OwnR.alloc {w : World} {base : Nat} {v : Value} {t : List Row} (h : OwnR w base v t) (o : Obj) : OwnR (w.alloc o) base v t := World.ownsRow.alloc h o

theorem ownR_nil (w : World) (base : Nat) : OwnR w base (.slice none 0 0) [] := World.ownsRow_nil w base _ _

theorem OwnR.later {w w' : World} {base : Nat} {v : Value} {t : List Row} (h : OwnR w base v t) (hb : Below w.heap.size w w') : OwnR w' base v t := by
  refine ⟨h.1, ?_⟩
  rcases h.2 with h' | ⟨g, cap, cur, h1, h2, h3, h4⟩
  · exact .inl h'
  · exact .inr ⟨g, cap, cur, h1, h2, by rw [hb.block g (Array.getElem?_eq_some_iff.1 h3).1]; exact h3, h4⟩

theorem OwnR.tab {w : World} {base : Nat} {v : Value} {t : List Row} (h : OwnR w base v t) : Tab w v t := by
  rcases h with ⟨_, ⟨rfl, h0⟩ | ⟨g, cap, cur, rfl, hb, hg, hn, hc, hsz, htk⟩⟩
  · obtain rfl : t = [] := List.length_eq_zero_iff.1 h0
    exact tab_nil w
  · refine ⟨some ⟨g, 0, none⟩, cap, rfl, hn, hc, (fun e => by cases e), .inr ⟨g, 0, rfl, (Array.getElem?_eq_some_iff.1 hg).1, fun i hi => ?_⟩⟩
    refine cells5_of fun j u hu => ?_
    have hj : j < 5 := by have := (List.getElem?_eq_some_iff.1 hu).1; rwa [rowVals_len] at this
    rw [Nat.zero_add, cell_of_row w g (i * 5 + j) cur _ (0, 0) hg]
    have h1 : cur.toList[i * 5 + j]? = (cellsOf t)[i * 5 + j]? := by
      rw [← htk, List.getElem?_take, if_pos (by omega)]
    rw [← hu, ← cellsOf_at t i j hi hj, ← h1]
    simp

theorem Try.infoSeen : (Try.prog.info? 82).map (fun i => (i.zero, i.size, i.bytes)) = some (some (.agg #[.string ⟨#[]⟩, .int .i64 0, .int .i64 0, .int .i64 0, .string ⟨#[]⟩]), 5, 56) := by kernel_rfl

/-- 'out = append(out, src...)', out nil or a table of the call's own, src whatever. -/
theorem wpList_append_rows {w : World} {ops : Array Oper} {rest : List Oper} {o : Oper} {a : Act} {Q : Exit → Act → World → Prop}
    (hgd : o.guard = none) (s x : Operand) (ho : o.op = .call { callee := .builtin .append, args := #[s, x], argTypes := #[25, 25] })
    (base : Nat) (v : Value) (t : List Row) (hs : a.eval s = v) (hown : OwnR w base v t)
    (ao : Option Addr) (m c : Nat) (ms : List Row) (hx : a.eval x = .slice ao m c) (hm : m = ms.length) (hnone : ao = none → c = 0 ∧ ms = [])
    (hsome : ∀ ad, ao = some ad → ∀ j u, (cellsOf ms)[j]? = some u → w.cell? (ad.add j) = some u)
    (hlen : t.length + ms.length < 4294967296) (hbase : base ≤ w.heap.size)
    (h : ∀ v' w', OwnR w' base v' (t ++ ms) → Below base w w' → wpList Try.prog ops Q rest (a.put o.dst v') w') :
    wpList Try.prog ops Q (o :: rest) a w := by
  obtain ⟨i, hi, hz, hsize, hby⟩ := info_parts Try.infoSeen
  cases ao with
  | none =>
    obtain ⟨rfl, rfl⟩ := hnone rfl
    simp only [List.length_nil] at hm
    subst hm
    exact wpList_append_own_none hgd s x 25 ho base 82 i 5 Try.underlying25 hi v t.length (cellsOf t) hs hown hx (h v w (by simpa using hown) (Below.refl _ _))
  | some ad =>
    subst hm
    refine wpList_append_own _ hgd s x 25 ho base 82 i _ 5 56 Try.underlying25 hi hz hsize hby rfl (by decide) v t.length (cellsOf t) hs hown ad ms.length c (cellsOf ms) hx (cellsOf_len ms) (hsome ad rfl) (cellsOf_single ms)
      (by unfold maxLen; omega) (by omega) hbase ?_
    intro v' w' hown' hgrow _
    refine h v' w' ?_ ((Below.refl base w).grown hgrow hbase (fun k hk => (World.ownsRow.lt hown k hk).1))
    unfold OwnR
    rw [cellsOf_append, List.length_append]
    exact hown'

/-- A new block of one row. -/
theorem new_row {w : World} {r : Row} {e : TypeId} {B : Nat} (hB : B = w.heap.size) : ∀ ad, some (⟨B, 0, none⟩ : Addr) = some ad → ∀ j u, (cellsOf [r])[j]? = some u → (w.alloc (.cells #[.string ⟨r.c.toArray⟩, .int .i64 r.v.sh, .int .i64 r.v.pr, .int .i64 r.v.si, .string ⟨r.v.st.toArray⟩] e)).cell? (ad.add j) = some u := by
  intro ad had j u hu
  subst hB
  obtain rfl := Option.some.inj had
  rw [cellsOf_one] at hu
  rw [Addr.add_lit, Nat.zero_add, World.cell?_alloc_at _ _ _ _ rfl, ← hu]
  simp [rowVals]

end Go.Proofs.Ytohfhphiofobcaa

end

section

/-
  THE CONTRACT OF digest.Take.
-/
namespace Go.Proofs.Ytohfhphiofobcaa
open Go.RowKit

/-- What Take leaves. -/
def Took (r : List Row × Nat × Nat) (w : World) (e : Ending) (w' : World) : Prop :=
  ∃ v, e = .returned (.tuple #[v, .int .i64 r.2.1, .int .i64 r.2.2]) ∧ Tab w' v r.1 ∧ Below w.heap.size w w'

theorem ditake_1 {l : List UInt8} {p : Int} {n f er : Nat} (h : vget l p = (n, f, er)) (he : er ≠ 0) : diTake l p = ([], 0, er) := by
  unfold diTake
  rw [h]
  simp only [if_pos he]

theorem ditake_2 {l : List UInt8} {p : Int} {n f : Nat} (h : vget l p = (n, f, 0)) (hn : 32 < n) : diTake l p = ([], 0, 3) := by
  unfold diTake
  rw [h]
  simp only [ne_eq, not_true_eq_false, if_false, if_pos hn]

theorem ditake_3 {l : List UInt8} {p : Int} {n f : Nat} {T : List Row} {g es : Nat} (h : vget l p = (n, f, 0)) (hn : ¬ 32 < n) (h2 : diRows n l f = (T, g, es)) (he : es ≠ 0) : diTake l p = ([], 0, es) := by
  unfold diTake
  rw [h]
  simp only [ne_eq, not_true_eq_false, if_false, if_neg hn]
  rw [h2]
  simp only [if_pos he]

theorem ditake_4 {l : List UInt8} {p : Int} {n f : Nat} {T : List Row} {g : Nat} (h : vget l p = (n, f, 0)) (hn : ¬ 32 < n) (h2 : diRows n l f = (T, g, 0)) (hm : diMay T = false) : diTake l p = ([], 0, 3) := by
  unfold diTake
  rw [h]
  simp only [ne_eq, not_true_eq_false, if_false, if_neg hn]
  rw [h2]
  simp only [not_true_eq_false, if_false]
  rw [if_pos hm]

theorem ditake_5 {l : List UInt8} {p : Int} {n f : Nat} {T : List Row} {g : Nat} (h : vget l p = (n, f, 0)) (hn : ¬ 32 < n) (h2 : diRows n l f = (T, g, 0)) (hm : diMay T = true) : diTake l p = (T, g, 0) := by
  unfold diTake
  rw [h]
  simp only [ne_eq, not_true_eq_false, if_false, if_neg hn]
  rw [h2]
  simp only [not_true_eq_false, if_false]
  rw [if_neg (by rw [hm]; decide)]

theorem ok_short {t : List Row} (h : ∀ r ∈ t, rowOk r = true) : Short t := fun r hr => by
  obtain ⟨h1, h2⟩ := rowOk_parts (h r hr)
  have a := (idIs_parts h1).2.1
  have b := vaMay_parts h2
  omega

end Go.Proofs.Ytohfhphiofobcaa

end

section

/-
  THE CONTRACT OF THE DOCUMENT'S Take (of a table).
-/
namespace Go.Proofs.Ytohfhphiofobcaa
open Go.RowKit

end Go.Proofs.Ytohfhphiofobcaa

end

section

/-
  THE CONTRACTS OF digest.Get AND OF THE DOCUMENT'S ANSWER TO IT.
-/
namespace Go.Proofs.Ytohfhphiofobcaa
open Go.RowKit

/-- Two results: value, whether it is there. -/
def pairG (r : Val × Bool) : Value := .tuple #[valV r.1, .bool r.2]

end Go.Proofs.Ytohfhphiofobcaa

end

section

/-
  ROWS OF TEXTS IN MEMORY, over any program: what they hold, and what append makes of them.
-/
namespace Go.Proofs.Ytohfhphiofobcaa
open Go.RowKit

/-- A text as a cell's value. -/
def encS (l : List UInt8) : Value := .string ⟨l.toArray⟩

/-- Which list of texts a slice holds. -/
def Texts (w : World) (v : Value) (ls : List (List UInt8)) : Prop :=
  ∃ a cap, v = .slice a ls.length cap ∧ ls.length ≤ cap ∧ cap ≤ maxLen ∧ (a = none → cap = 0) ∧
    (ls = [] ∨ ∃ b off, a = some ⟨b, off, none⟩ ∧ b < w.heap.size ∧ ∀ i, i < ls.length → w.cell? ⟨b, off + i, none⟩ = some (encS (ls.getD i [])))

theorem Texts.later {w w' : World} {v : Value} {ls : List (List UInt8)} (h : Texts w v ls) (hb : Below w.heap.size w w') : Texts w' v ls := by
  obtain ⟨a, cap, h1, h2, h3, h4, h5⟩ := h
  refine ⟨a, cap, h1, h2, h3, h4, ?_⟩
  rcases h5 with h5 | ⟨b, off, e, hlt, hc⟩
  · exact .inl h5
  · exact .inr ⟨b, off, e, Nat.lt_of_lt_of_le hlt hb.size, fun i hi => (hb.cell (p := ⟨b, off + i, none⟩) hlt).trans (hc i hi)⟩

theorem texts_nil (w : World) : Texts w (.slice none 0 0) [] := ⟨none, 0, rfl, by simp, by simp, fun _ => rfl, .inl rfl⟩

/-- A row of the call's own. -/
theorem texts_of_own {w : World} {base e : Nat} {v : Value} {ls : List (List UInt8)} (h : w.ownsRow base e 1 v ls.length (ls.map encS)) : Texts w v ls := by
  rcases h with ⟨_, ⟨rfl, h0⟩ | ⟨g, cap, cur, rfl, hb, hg, hn, hc, hsz, htk⟩⟩
  · obtain rfl : ls = [] := List.length_eq_zero_iff.1 h0
    exact texts_nil w
  · refine ⟨some ⟨g, 0, none⟩, cap, rfl, hn, hc, (fun e => by cases e), ?_⟩
    refine .inr ⟨g, 0, rfl, (Array.getElem?_eq_some_iff.1 hg).1, fun i hi => ?_⟩
    rw [Nat.zero_add, cell_of_row w g i cur e (0, 0) hg]
    have h1 : cur.toList[i]? = (ls.map encS)[i]? := by
      rw [← htk, List.getElem?_take, if_pos (by omega)]
    have h2 : (ls.map encS)[i]? = some (encS (ls.getD i [])) := by
      simp [List.getD, List.getElem?_eq_getElem hi]
    rw [← h2, ← h1]
    simp

/-- A row of texts of the call's own. -/
def OwnT (w : World) (base e : Nat) (v : Value) (ls : List (List UInt8)) : Prop := w.ownsRow base e 1 v ls.length (ls.map encS)

theorem OwnT.alloc {w : World} {base e : Nat} {v : Value} {ls : List (List UInt8)} (h : OwnT w base e v ls) (o : Obj) : OwnT (w.alloc o) base e v ls := World.ownsRow.alloc h o
theorem OwnT.texts {w : World} {base e : Nat} {v : Value} {ls : List (List UInt8)} (h : OwnT w base e v ls) : Texts w v ls := texts_of_own h
end Go.Proofs.Ytohfhphiofobcaa

end

section

/-
  THE CONTRACTS OF THE DOCUMENT'S Few AND Same.
-/
namespace Go.Proofs.Ytohfhphiofobcaa
open Go.RowKit

def fewB (ls : List (List UInt8)) : Bool := decide (ls.length ≤ 30) && ls.all fun t => decide (t.length ≤ 30)

theorem getD_some {ls : List (List UInt8)} {k : Nat} (h : k < ls.length) : ls[k]? = some (ls.getD k []) := by simp [List.getD, List.getElem?_eq_getElem h]

end Go.Proofs.Ytohfhphiofobcaa

end

section

/-
  THE CONTRACTS OF THE DOCUMENT'S put AND Merge.
-/
namespace Go.Proofs.Ytohfhphiofobcaa
open Go.RowKit

/-- What Merge hands to put: nil, or a row that is not empty. -/
def Heaped (w : World) (v : Value) (ls : List (List UInt8)) : Prop := Texts w v ls ∧ (ls = [] → v = .slice none 0 0)

end Go.Proofs.Ytohfhphiofobcaa

end

section

/-
  THE CONTRACT OF THE DOCUMENT'S Merge.
-/
namespace Go.Proofs.Ytohfhphiofobcaa
open Go.RowKit

theorem Heaped.later {w w' : World} {v : Value} {ls : List (List UInt8)} (h : Heaped w v ls) (hb : Below w.heap.size w w') : Heaped w' v ls := ⟨h.1.later hb, h.2⟩

/-- A cell of a row, in a later world. -/
theorem Texts.cell {w wr : World} {a : Option Addr} {n cap : Nat} {ls : List (List UInt8)} (h : Texts w (.slice a n cap) ls) (hb : Below w.heap.size w wr) (k : Nat) (hk : k < ls.length) :
    ∃ b off, a = some ⟨b, off, none⟩ ∧ wr.cell? ⟨b, off + k, none⟩ = some (.string ⟨(ls.getD k []).toArray⟩) := by
  obtain ⟨a', cap', e, _, _, _, h⟩ := h.later hb
  simp only [Value.slice.injEq] at e
  rcases h with h | ⟨b, off, e', _, hc⟩
  · rw [h] at hk; simp at hk
  · exact ⟨b, off, e.1.trans e', hc k hk⟩

end Go.Proofs.Ytohfhphiofobcaa

end

section

/-
  THE CONTRACTS OF slices.Grow (of nil) AND slices.Concat (of two rows of texts), AT THIS PROGRAM.
-/
namespace Go.Proofs.Ytohfhphiofobcaa
open Go.RowKit

end Go.Proofs.Ytohfhphiofobcaa

end

section

/-
  THE CONTRACT OF ident.Merge: the lists as one, sorted, each text once.
-/
namespace Go.Proofs.Ytohfhphiofobcaa
open Go.RowKit Go.Lib Go.Sort

end Go.Proofs.Ytohfhphiofobcaa

end

section

/-
  THE CONTRACTS OF digest.place, digest.contacts AND OF THE DOCUMENT'S contacts.
-/
namespace Go.Proofs.Ytohfhphiofobcaa
open Go.RowKit

/-- A row of texts that may be written. -/
def RowT (w : World) (B : Nat) (u : List (List UInt8)) : Prop := ∀ j, j < u.length → w.cell? ⟨B, j, none⟩ = some (encS (u.getD j [])) ∧ w.frozen? ⟨B, j, none⟩ = false

theorem RowT.set {w : World} {B : Nat} {u : List (List UInt8)} (h : RowT w B u) (j : Nat) (x : List UInt8) (hj : j < u.length) : RowT (w.setCell ⟨B, j, none⟩ (encS x)) B (u.set j x) := by
  intro i hi
  have hi' : i < u.length := by simpa using hi
  refine ⟨?_, (World.frozen?_setCell w _ _ _).trans (h i hi').2⟩
  by_cases hij : i = j
  · subst hij
    rw [World.cell?_setCell_same _ _ _ (h i hj).1]
    simp [List.getD, hj]
  · rw [World.cell?_setCell_other _ _ _ _ (by simp), (h i hi').1]
    simp [List.getD, show ¬ j = i by omega]

theorem RowT.later {w w' : World} {B : Nat} {u : List (List UInt8)} (h : RowT w B u) (hB : B < w.heap.size) (hb : Below w.heap.size w w') : RowT w' B u := fun j hj =>
  ⟨(hb.cell (p := ⟨B, j, none⟩) hB).trans (h j hj).1, (hb.frozen (p := ⟨B, j, none⟩) hB).trans (h j hj).2⟩

theorem RowT.texts {w : World} {B : Nat} {u : List (List UInt8)} (h : RowT w B u) (hB : B < w.heap.size) (hl : u.length ≤ 4294967296) : Texts w (.slice (some ⟨B, 0, none⟩) u.length u.length) u :=
  ⟨_, u.length, rfl, Nat.le_refl _, by unfold maxLen; omega, (fun e => by cases e), .inr ⟨B, 0, rfl, hB, fun i hi => by rw [Nat.zero_add]; exact (h i hi).1⟩⟩

/-- The contacts up to k, and nothing yet behind. -/
def ctsAt (t : List Row) (k : Nat) : List (List UInt8) := (cts t).take k ++ List.replicate (t.length - k) []

end Go.Proofs.Ytohfhphiofobcaa

end

section

/-
  THE CONTRACT OF digest.firsts: a map of the call's own, from each Contact to its first row.
-/
namespace Go.Proofs.Ytohfhphiofobcaa
open Go.RowKit Go.ChangeMaps Go.MapKept

/-- How a row reads as a map's element. -/
def seenData (r : Row) : DataW Unit := .agg [.lit (.string r.c), .lit (.int .i64 r.v.sh), .lit (.int .i64 r.v.pr), .lit (.int .i64 r.v.si), .lit (.string r.v.st)]

def seenElem : Value → Option (DataW Unit × List MemPlace)
  | .agg cs => match cs.toList with
    | [.string c, .int .i64 x, .int .i64 y, .int .i64 z, .string s] => some (seenData ⟨c.data.toList, x, y, z, s.data.toList⟩, [])
    | _ => none
  | _ => none

/-- The row that a Contact's key stands for. -/
def firstRow (t : List Row) (x : List UInt8) : Row := if (diGet t x).2 = true then ⟨x, (diGet t x).1⟩ else Row.zero

/-- Block B is a map that holds of each Contact of t the first row. -/
def FirstsAt (w : World) (B : Nat) (t : List Row) : Prop :=
  ∃ n, ∃ D : DataW Unit, n ≤ t.length ∧ w.ownsMap Try.prog 9 seenElem B n D ∧
    ∀ x : List UInt8, Maps.has D (.string x) = (diGet t x).2 ∧ D.atKey (.string x) (seenData Row.zero) = seenData (firstRow t x)

theorem FirstsAt.lt {w : World} {B : Nat} {t : List Row} (h : FirstsAt w B t) : B < w.heap.size := by
  obtain ⟨_, _, _, h, _⟩ := h
  exact h.lt

theorem FirstsAt.later {w w' : World} {B : Nat} {t : List Row} (h : FirstsAt w B t) (hb : Below w.heap.size w w') : FirstsAt w' B t := by
  have hlt := h.lt
  obtain ⟨n, D, h1, ⟨es, clock, h2, h3, h4, h5⟩, h6⟩ := h
  exact ⟨n, D, h1, ⟨es, clock, (hb.block B hlt).trans h2, h3, h4, h5⟩, h6⟩

end Go.Proofs.Ytohfhphiofobcaa

end

section

/-
  LISTS OF CHANGES IN MEMORY: rows of six cells.
-/
namespace Go.Proofs.Ytohfhphiofobcaa
open Go.RowKit

def Chg.zero : Chg := ⟨[], false, Val.zero⟩

def chgVals (r : Chg) : List Value := [.string ⟨r.c.toArray⟩, .bool r.on, .int .i64 r.v.sh, .int .i64 r.v.pr, .int .i64 r.v.si, .string ⟨r.v.st.toArray⟩]

def Cells6 (w : World) (b o : Nat) (r : Chg) : Prop :=
  w.cell? ⟨b, o, none⟩ = some (.string ⟨r.c.toArray⟩) ∧ w.cell? ⟨b, o + 1, none⟩ = some (.bool r.on) ∧ w.cell? ⟨b, o + 2, none⟩ = some (.int .i64 r.v.sh) ∧ w.cell? ⟨b, o + 3, none⟩ = some (.int .i64 r.v.pr) ∧
    w.cell? ⟨b, o + 4, none⟩ = some (.int .i64 r.v.si) ∧ w.cell? ⟨b, o + 5, none⟩ = some (.string ⟨r.v.st.toArray⟩)

theorem Cells6.later {w w' : World} {b o : Nat} {r : Chg} (h : Cells6 w b o r) (hb : Below w.heap.size w w') (hlt : b < w.heap.size) : Cells6 w' b o r := by
  obtain ⟨h0, h1, h2, h3, h4, h5⟩ := h
  have k : ∀ o, w'.cell? ⟨b, o, none⟩ = w.cell? ⟨b, o, none⟩ := fun o => hb.cell (p := ⟨b, o, none⟩) hlt
  exact ⟨(k _).trans h0, (k _).trans h1, (k _).trans h2, (k _).trans h3, (k _).trans h4, (k _).trans h5⟩

/-- Which changes a slice holds. -/
def Chgs (w : World) (v : Value) (t : List Chg) : Prop :=
  ∃ a cap, v = .slice a t.length cap ∧ t.length ≤ cap ∧ cap ≤ maxLen ∧ (a = none → cap = 0) ∧
    (t = [] ∨ ∃ b off, a = some ⟨b, off, none⟩ ∧ b < w.heap.size ∧ ∀ i, i < t.length → Cells6 w b (off + i * 6) (t.getD i Chg.zero))

theorem Chgs.later {w w' : World} {v : Value} {t : List Chg} (h : Chgs w v t) (hb : Below w.heap.size w w') : Chgs w' v t := by
  obtain ⟨a, cap, h1, h2, h3, h4, h5⟩ := h
  refine ⟨a, cap, h1, h2, h3, h4, ?_⟩
  rcases h5 with h5 | ⟨b, off, e, hlt, hc⟩
  · exact .inl h5
  · exact .inr ⟨b, off, e, Nat.lt_of_lt_of_le hlt hb.size, fun i hi => (hc i hi).later hb hlt⟩

/-- A change of a list, in a later world. -/
theorem Chgs.row {w wr : World} {a : Option Addr} {n cap : Nat} {t : List Chg} (h : Chgs w (.slice a n cap) t) (hb : Below w.heap.size w wr) (k : Nat) (hk : k < t.length) :
    ∃ b off, a = some ⟨b, off, none⟩ ∧ Cells6 wr b (off + k * 6) (t.getD k Chg.zero) := by
  obtain ⟨a', cap', e, _, _, _, h⟩ := h.later hb
  simp only [Value.slice.injEq] at e
  rcases h with h | ⟨b, off, e', _, hc⟩
  · rw [h] at hk; simp at hk
  · exact ⟨b, off, e.1.trans e', hc k hk⟩

theorem Chgs.open' {w : World} {v : Value} {t : List Chg} (h : Chgs w v t) : ∃ a cap, v = .slice a t.length cap ∧ t.length ≤ 9223372036854775807 := by
  obtain ⟨a, cap, e, h1, h2, _⟩ := h
  unfold maxLen at h2
  exact ⟨a, cap, e, by omega⟩

/-- The cells of rows, one row behind the other. -/
def cellsOfC (t : List Chg) : List Value := (t.map chgVals).flatten

/-- A list of changes of the call's own. -/
def OwnC (w : World) (base : Nat) (v : Value) (t : List Chg) : Prop := w.ownsRow base 64 6 v t.length (cellsOfC t)

theorem OwnC.alloc {w : World} {base : Nat} {v : Value} {t : List Chg} (h : OwnC w base v t) (o : Obj) : OwnC (w.alloc o) base v t := World.ownsRow.alloc h o

theorem OwnC.later {w w' : World} {base : Nat} {v : Value} {t : List Chg} (h : OwnC w base v t) (hb : Below w.heap.size w w') : OwnC w' base v t := by
  refine ⟨h.1, ?_⟩
  rcases h.2 with h' | ⟨g, cap, cur, h1, h2, h3, h4⟩
  · exact .inl h'
  · exact .inr ⟨g, cap, cur, h1, h2, by rw [hb.block g (Array.getElem?_eq_some_iff.1 h3).1]; exact h3, h4⟩

end Go.Proofs.Ytohfhphiofobcaa

end
