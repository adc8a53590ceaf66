/-
  THE WALK OF SessPuts.
-/
import Derived.Test.YtkmbnpjnjlcjmaaSesLive
import Derived.Test.YtkmbnpjnjlcjmaaBesBest
import Derived.Test.YtkmbnpjnjlcjmaaSeqS
namespace Go.Proofs.Ytkmbnpjnjlcjmaa
open Go.RowKit

theorem few_shortP {l : List Ses} (h : fewSes l = true) : ShortS l := fun s hs => by
  have := (few_get h).2 s hs
  exact ⟨by omega, by omega⟩

set_option maxHeartbeats 3200000 in
set_option maxRecDepth 100000 in
theorem sputs_1 {w : World} {v : Value} {l : List Ses} (hv : Sess w v l) (su ss : List UInt8) (si sa sb sc : Int) (hw : fewSes l = false) :
    Calls Try.prog 4 #[v, .agg #[.string ⟨su.toArray⟩, .int .i64 si, .int .i64 sa, .int .i64 sb, .int .i64 sc, .string ⟨ss.toArray⟩]] w fun e w' => e = .returned (.bool true) ∧ Below w.heap.size w w' := by
  have b0 := bl_newZ w (.cells #[.string ⟨su.toArray⟩, .int .i64 si, .int .i64 sa, .int .i64 sb, .int .i64 sc, .string ⟨ss.toArray⟩] 34)
  have HB := Lib.hid b0
  have C := Lib.hid (cellsAt_made (w := w) (cs := #[.string ⟨su.toArray⟩, .int .i64 si, .int .i64 sa, .int .i64 sb, .int .i64 sc, .string ⟨ss.toArray⟩]) (vs := sesVals ⟨su, si, ⟨sa, sb, sc, ss⟩⟩) rfl 34 rfl)
  have V := Lib.hid (hv.later b0)
  have HF := Lib.hid (few09_eq V.out hw)
  obtain ⟨ao, cap, rfl, hm⟩ := hv.open'
  clear b0 hv
  go_enter Try.func4, Try.ntmps4
  go_wp2_with fail
  refine HF.out.mono ?_
  rintro e w0 ⟨rfl, rfl⟩
  go_wp2_with fail
  refine (live9 _).mono ?_
  rintro e w1 ⟨rfl, b1⟩
  replace HB := Lib.hid (below2Z HB.out b1)
  clear b1
  go_wp2_with fail
  go_ret
  exact ⟨rfl, HB.out⟩

set_option maxHeartbeats 3200000 in
set_option maxRecDepth 100000 in
theorem sputs_2 {w : World} {v : Value} {l : List Ses} (hv : Sess w v l) (su ss : List UInt8) (si sa sb sc : Int) (hw : fewSes l = true) (hs : fewSes [⟨su, si, ⟨sa, sb, sc, ss⟩⟩] = false) :
    Calls Try.prog 4 #[v, .agg #[.string ⟨su.toArray⟩, .int .i64 si, .int .i64 sa, .int .i64 sb, .int .i64 sc, .string ⟨ss.toArray⟩]] w fun e w' => e = .returned (.bool true) ∧ Below w.heap.size w w' := by
  have b0 := bl_newZ w (.cells #[.string ⟨su.toArray⟩, .int .i64 si, .int .i64 sa, .int .i64 sb, .int .i64 sc, .string ⟨ss.toArray⟩] 34)
  have HB := Lib.hid b0
  have C := Lib.hid (cellsAt_made (w := w) (cs := #[.string ⟨su.toArray⟩, .int .i64 si, .int .i64 sa, .int .i64 sb, .int .i64 sc, .string ⟨ss.toArray⟩]) (vs := sesVals ⟨su, si, ⟨sa, sb, sc, ss⟩⟩) rfl 34 rfl)
  have V := Lib.hid (hv.later b0)
  have HF := Lib.hid (few09_eq V.out hw)
  have HF2 : Hid (∀ (w0 : World) (B : Nat), B = w0.heap.size → Calls Try.prog 15 #[.slice (some ⟨B, 0, none⟩) 1 1] (w0.alloc (.cells #[.string ⟨su.toArray⟩, .int .i64 si, .int .i64 sa, .int .i64 sb, .int .i64 sc, .string ⟨ss.toArray⟩] 34)) fun e w1 => e = .returned (.bool false) ∧ w0.alloc (.cells #[.string ⟨su.toArray⟩, .int .i64 si, .int .i64 sa, .int .i64 sb, .int .i64 sc, .string ⟨ss.toArray⟩] 34) = w1) := Lib.hid (fun w0 B hB => few09_eq (rdS_made sesOK (l := [⟨su, si, ⟨sa, sb, sc, ss⟩⟩]) rfl (by simp) hB) hs)
  obtain ⟨ao, cap, rfl, hm⟩ := hv.open'
  clear b0 hv
  obtain ⟨c0, c1, c2, c3, c4, c5⟩ := sixS_of C.out
  go_enter Try.func4, Try.ntmps4
  go_wp2_with fail
  refine HF.out.mono ?_
  rintro e w0 ⟨rfl, rfl⟩
  go_wp2_with fail
  refine (HF2.out _ _ (by simp)).mono ?_
  rintro e w0 ⟨rfl, rfl⟩
  have b1 := bl_newZ (w.alloc (.cells #[.string ⟨su.toArray⟩, .int .i64 si, .int .i64 sa, .int .i64 sb, .int .i64 sc, .string ⟨ss.toArray⟩] 34)) (.cells #[.string ⟨su.toArray⟩, .int .i64 si, .int .i64 sa, .int .i64 sb, .int .i64 sc, .string ⟨ss.toArray⟩] 34)
  replace V := Lib.hid (V.out.later b1)
  replace C := Lib.hid (C.out.later b1)
  replace HB := Lib.hid (below2Z HB.out b1)
  clear b1
  clear c0 c1 c2 c3 c4 c5
  go_wp2_with fail
  refine (live9 _).mono ?_
  rintro e w2 ⟨rfl, b2⟩
  replace HB := Lib.hid (below2Z HB.out b2)
  clear b2
  go_wp2_with fail
  go_ret
  exact ⟨rfl, HB.out⟩

set_option maxHeartbeats 3200000 in
set_option maxRecDepth 100000 in
theorem sputs_3 {w : World} {v : Value} {l : List Ses} (hv : Sess w v l) (su ss : List UInt8) (si sa sb sc : Int) (hw : fewSes l = true) (hs : fewSes [⟨su, si, ⟨sa, sb, sc, ss⟩⟩] = true) :
    Calls Try.prog 4 #[v, .agg #[.string ⟨su.toArray⟩, .int .i64 si, .int .i64 sa, .int .i64 sb, .int .i64 sc, .string ⟨ss.toArray⟩]] w fun e w' => e = .returned (.bool true) ∧ Below w.heap.size w w' := by
  have b0 := bl_newZ w (.cells #[.string ⟨su.toArray⟩, .int .i64 si, .int .i64 sa, .int .i64 sb, .int .i64 sc, .string ⟨ss.toArray⟩] 34)
  have HB := Lib.hid b0
  have C := Lib.hid (cellsAt_made (w := w) (cs := #[.string ⟨su.toArray⟩, .int .i64 si, .int .i64 sa, .int .i64 sb, .int .i64 sc, .string ⟨ss.toArray⟩]) (vs := sesVals ⟨su, si, ⟨sa, sb, sc, ss⟩⟩) rfl 34 rfl)
  have V := Lib.hid (hv.later b0)
  have HF := Lib.hid (few09_eq V.out hw)
  have HF2 : Hid (∀ (w0 : World) (B : Nat), B = w0.heap.size → Calls Try.prog 15 #[.slice (some ⟨B, 0, none⟩) 1 1] (w0.alloc (.cells #[.string ⟨su.toArray⟩, .int .i64 si, .int .i64 sa, .int .i64 sb, .int .i64 sc, .string ⟨ss.toArray⟩] 34)) fun e w1 => e = .returned (.bool true) ∧ w0.alloc (.cells #[.string ⟨su.toArray⟩, .int .i64 si, .int .i64 sa, .int .i64 sb, .int .i64 sc, .string ⟨ss.toArray⟩] 34) = w1) := Lib.hid (fun w0 B hB => few09_eq (rdS_made sesOK (l := [⟨su, si, ⟨sa, sb, sc, ss⟩⟩]) rfl (by simp) hB) hs)
  have HS := Lib.hid (few_shortP hw)
  have hs1 := few_shortP hs ⟨su, si, ⟨sa, sb, sc, ss⟩⟩ (by simp)
  obtain ⟨pm, pn, hp⟩ : ∃ pm pn, sePut l ⟨su, si, ⟨sa, sb, sc, ss⟩⟩ = (pm, pn) := ⟨_, _, rfl⟩
  obtain ⟨dm, dn, hd⟩ : ∃ dm dn, seDrop l su si = (dm, dn) := ⟨_, _, rfl⟩
  have HP := Lib.hid hp
  have HD := Lib.hid hd
  have hl1 := hs1.1
  have hl2 := hs1.2
  try simp only at hl1 hl2
  clear hp hd hs1
  obtain ⟨ao, cap, rfl, hm⟩ := hv.open'
  clear b0 hv
  obtain ⟨c0, c1, c2, c3, c4, c5⟩ := sixS_of C.out
  go_enter Try.func4, Try.ntmps4
  go_wp2_with fail
  refine HF.out.mono ?_
  rintro e w0 ⟨rfl, rfl⟩
  go_wp2_with fail
  refine (HF2.out _ _ (by simp)).mono ?_
  rintro e w0 ⟨rfl, rfl⟩
  have b1 := bl_newZ (w.alloc (.cells #[.string ⟨su.toArray⟩, .int .i64 si, .int .i64 sa, .int .i64 sb, .int .i64 sc, .string ⟨ss.toArray⟩] 34)) (.cells #[.string ⟨su.toArray⟩, .int .i64 si, .int .i64 sa, .int .i64 sb, .int .i64 sc, .string ⟨ss.toArray⟩] 34)
  replace V := Lib.hid (V.out.later b1)
  replace C := Lib.hid (C.out.later b1)
  replace HB := Lib.hid (below2Z HB.out b1)
  clear b1
  clear c0 c1 c2 c3 c4 c5
  obtain ⟨c0, c1, c2, c3, c4, c5⟩ := sixS_of C.out
  go_wp2_with fail
  refine (sput_any V.out HS.out ⟨su, si, ⟨sa, sb, sc, ss⟩⟩ hl1 hl2 HP).mono ?_
  rintro e w2 ⟨x1, rfl, h1, b2⟩
  replace V := Lib.hid (V.out.later b2)
  replace C := Lib.hid (C.out.later b2)
  replace HB := Lib.hid (below2Z HB.out b2)
  have X1 := Lib.hid (h1)
  clear h1 c0 c1 c2 c3 c4 c5
  clear b2
  obtain ⟨c0, c1, c2, c3, c4, c5⟩ := sixS_of C.out
  go_wp2_with fail
  refine (rsput_any V.out HS.out ⟨su, si, ⟨sa, sb, sc, ss⟩⟩ hl1 hl2 HP).mono ?_
  rintro e w3 ⟨x2, rfl, h2, b3⟩
  replace V := Lib.hid (V.out.later b3)
  replace C := Lib.hid (C.out.later b3)
  replace X1 := Lib.hid (X1.out.later b3)
  replace HB := Lib.hid (below2Z HB.out b3)
  have X2 := Lib.hid (h2)
  clear h2 c0 c1 c2 c3 c4 c5
  clear b3
  obtain ⟨c0, c1, c2, c3, c4, c5⟩ := sixS_of C.out
  go_wp2_with fail
  refine (sdrop_any V.out HS.out su si HD).mono ?_
  rintro e w4 ⟨x3, rfl, h3, b4⟩
  replace V := Lib.hid (V.out.later b4)
  replace C := Lib.hid (C.out.later b4)
  replace X1 := Lib.hid (X1.out.later b4)
  replace X2 := Lib.hid (X2.out.later b4)
  replace HB := Lib.hid (below2Z HB.out b4)
  have X3 := Lib.hid (h3)
  clear h3 c0 c1 c2 c3 c4 c5
  clear b4
  obtain ⟨c0, c1, c2, c3, c4, c5⟩ := sixS_of C.out
  go_wp2_with fail
  refine (rsdrop_any V.out HS.out su si HD).mono ?_
  rintro e w5 ⟨x4, rfl, h4, b5⟩
  replace V := Lib.hid (V.out.later b5)
  replace C := Lib.hid (C.out.later b5)
  replace X1 := Lib.hid (X1.out.later b5)
  replace X2 := Lib.hid (X2.out.later b5)
  replace X3 := Lib.hid (X3.out.later b5)
  replace HB := Lib.hid (below2Z HB.out b5)
  have X4 := Lib.hid (h4)
  clear h4 c0 c1 c2 c3 c4 c5
  clear b5
  have t1 : ((pn : Int) == (pn : Int)) = true := beq_self_eq_true _
  have t2 : ((dn : Int) == (dn : Int)) = true := beq_self_eq_true _
  go_wp2_with fail
  refine (rssame_any X1.out X2.out (Lib.hid (sessSame_self _))).mono ?_
  rintro e w6 ⟨rfl, b6⟩
  replace X1 := Lib.hid (X1.out.later b6)
  replace X2 := Lib.hid (X2.out.later b6)
  replace X3 := Lib.hid (X3.out.later b6)
  replace X4 := Lib.hid (X4.out.later b6)
  replace HB := Lib.hid (below2Z HB.out b6)
  clear b6
  go_wp2_with fail
  refine (rssame_any X3.out X4.out (Lib.hid (sessSame_self _))).mono ?_
  rintro e w7 ⟨rfl, b7⟩
  replace X1 := Lib.hid (X1.out.later b7)
  replace X2 := Lib.hid (X2.out.later b7)
  replace X3 := Lib.hid (X3.out.later b7)
  replace X4 := Lib.hid (X4.out.later b7)
  replace HB := Lib.hid (below2Z HB.out b7)
  clear b7
  go_wp2_with fail
  refine (live9 _).mono ?_
  rintro e w8 ⟨rfl, b8⟩
  replace HB := Lib.hid (below2Z HB.out b8)
  clear b8
  go_wp2_with fail
  go_ret
  exact ⟨rfl, HB.out⟩

theorem walkSessPuts {w : World} {v : Value} {l : List Ses} (hv : Sess w v l) (_ : ∀ s ∈ l, SesFit s) (s : Ses) (_ : SesFit s) :
    Calls Try.prog 4 #[v, .agg #[.string ⟨s.u.toArray⟩, .int .i64 s.id, .int .i64 s.v.sh, .int .i64 s.v.pr, .int .i64 s.v.si, .string ⟨s.v.st.toArray⟩]] w fun e w' => e = .returned (.bool true) ∧ Below w.heap.size w w' := by
  cases hw : fewSes l with
  | false => exact sputs_1 hv _ _ _ _ _ _ hw
  | true =>
    cases hs : fewSes [s] with
    | false => exact sputs_2 hv s.u s.v.st s.id s.v.sh s.v.pr s.v.si hw hs
    | true => exact sputs_3 hv s.u s.v.st s.id s.v.sh s.v.pr s.v.si hw hs

end Go.Proofs.Ytkmbnpjnjlcjmaa
