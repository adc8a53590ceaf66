/-
  THE WALK OF ScriptSpoils.
-/
import Derived.Test.YthfkfonfiejbmaaScrLive
import Derived.Test.YthfkfonfiejbmaaCrcSpoil
import Derived.Test.YthfkfonfiejbmaaBytes
import Derived.Lib.ConvBytes
import Derived.Laws.BitsLemmas
import Derived.OpenShut
namespace Go.Proofs.Ythfkfonfiejbmaa
open Go.RowKit

attribute [local go_sem] ByteArray.mk_append_mk

theorem u8of_xorS (b m : UInt8) : bits .xor .u8 (b.toNat : Int) (m.toNat : Int) = ((b ^^^ m).toNat : Int) := by
  have h1 := b.toNat_lt
  have h2 := m.toNat_lt
  rw [u8_xor_nat _ _ h1 h2, UInt8.toNat_xor]

theorem rowB_new (w : World) (l : List UInt8) : RowB (Lib.bytesWorld w 5 ⟨l.toArray⟩) w.heap.size l := fun j hj =>
  ⟨bytesWorld_list w 5 l j hj, bytesWorld_frozen w 5 _ j (by rw [size_bytes]; exact hj)⟩

theorem RowB.later {w w' : World} {B : Nat} {u : List UInt8} (h : RowB w B u) (hb : Below w.heap.size w w') : RowB w' B u := fun j hj =>
  have hB := World.block_lt_of_cell? w _ (h j hj).1
  ⟨(hb.cell (p := ⟨B, j, none⟩) hB).trans (h j hj).1, (hb.frozen (p := ⟨B, j, none⟩) hB).trans (h j hj).2⟩

/-- A sealed text of which a byte was changed is no more opened. -/
theorem copen_set {x : List UInt8} {p : Nat} (hp : p < (cseal x).length) {m : UInt8} (hm : m ≠ 0) : copen ((cseal x).set p ((cseal x).getD p 0 ^^^ m)) = ([], 4) := by
  have h1 := spoil_next m (spoil_start (cseal x) p) hp
  have h2 := (spoil_end h1.1 (by decide)).2
  have e : (cseal x).getD p 0 = (cseal x)[p + 0]'hp := by rw [List.getD_eq_getElem?_getD, List.getElem?_eq_getElem (by simpa using hp)]; rfl
  rw [e]
  exact h2 fun h => hm (UInt8.toNat_inj.1 ((h1.2.1 h).2))

theorem scDec_set {x : List UInt8} {p : Nat} (hp : p < (cseal x).length) {m : UInt8} (hm : m ≠ 0) : scDec ((cseal x).set p ((cseal x).getD p 0 ^^^ m)) = (Ev.zero, 4) := by
  unfold scDec
  rw [copen_set hp hm, if_pos (by simp)]

theorem unIs_spoilt {t : List UInt8} (ht : t.length ≤ 300) (hd : scDec t = (Ev.zero, 4)) : UnIs (vput t.length ++ t) [] 3 := by
  have hv := vtake_text [] t [] 300 (by omega) (by omega)
  simp only [List.nil_append, List.append_nil, List.length_nil, Nat.zero_add] at hv
  have hpos := vput_len_pos t.length
  exact unIs_none fun x _ hx => unAt_stuck (unAt_start _) (by rw [List.length_append]; omega) (Or.inl (Int.le_refl _)) hv hd (Or.inr (by decide)) x hx

theorem spoil_min {e : Ev} : 5 ≤ (cseal (scBytes e)).length := by
  rw [seal_len, scBytes_len]
  omega

set_option maxHeartbeats 1600000 in
set_option maxRecDepth 100000 in
theorem scwsp_1 {w : World} (k : Int) (u o st : List UInt8) (id a b c : Int) (hs : shortEv ⟨k, u, o, id, ⟨a, b, c, st⟩⟩ = false) (at' m : Int) :
    Calls Try.prog 6 #[.agg #[.int .i64 k, .string ⟨u.toArray⟩, .string ⟨o.toArray⟩, .int .i64 id, .int .i64 a, .int .i64 b, .int .i64 c, .string ⟨st.toArray⟩], .int .i64 at', .int .u8 m] w fun e w' => e = .returned (.bool true) ∧ Below w.heap.size w w' := by
  have HS := Lib.hid hs
  clear hs
  have b0 := bl_newZ w (.cells #[.int .i64 k, .string ⟨u.toArray⟩, .string ⟨o.toArray⟩, .int .i64 id, .int .i64 a, .int .i64 b, .int .i64 c, .string ⟨st.toArray⟩] 26)
  have HB := Lib.hid b0
  have X := newQ w (.cells #[.int .i64 k, .string ⟨u.toArray⟩, .string ⟨o.toArray⟩, .int .i64 id, .int .i64 a, .int .i64 b, .int .i64 c, .string ⟨st.toArray⟩] 26)
  replace X := Lib.hid X
  clear b0
  go_enter Try.func6, Try.ntmps6
  go_wp2_with fail
  refine (short14_any k u o st id a b c HS _).mono ?_
  rintro e w2 ⟨rfl, b2⟩
  replace X := Lib.hid (upQ X.out b2)
  replace HB := Lib.hid (below2Z HB.out b2)
  clear b2
  go_wp2_with fail
  refine (live23 _).mono ?_
  rintro e w3 ⟨rfl, b3⟩
  replace X := Lib.hid (upQ X.out b3)
  replace HB := Lib.hid (below2Z HB.out b3)
  clear b3
  go_wp2_with fail
  go_ret
  exact ⟨rfl, HB.out⟩

set_option maxHeartbeats 1600000 in
set_option maxRecDepth 100000 in
theorem scwsp_2 {w : World} (k : Int) (u o st : List UInt8) (id a b c : Int) (hs : shortEv ⟨k, u, o, id, ⟨a, b, c, st⟩⟩ = true) (hsh : evShort ⟨k, u, o, id, ⟨a, b, c, st⟩⟩) (hm : scMay ⟨k, u, o, id, ⟨a, b, c, st⟩⟩ = false) (at' m : Int) :
    Calls Try.prog 6 #[.agg #[.int .i64 k, .string ⟨u.toArray⟩, .string ⟨o.toArray⟩, .int .i64 id, .int .i64 a, .int .i64 b, .int .i64 c, .string ⟨st.toArray⟩], .int .i64 at', .int .u8 m] w fun e w' => e = .returned (.bool true) ∧ Below w.heap.size w w' := by
  have HS := Lib.hid hs
  have HM := Lib.hid hm
  have HSH := Lib.hid hsh
  clear hs hm hsh
  have b0 := bl_newZ w (.cells #[.int .i64 k, .string ⟨u.toArray⟩, .string ⟨o.toArray⟩, .int .i64 id, .int .i64 a, .int .i64 b, .int .i64 c, .string ⟨st.toArray⟩] 26)
  have HB := Lib.hid b0
  have X := newQ w (.cells #[.int .i64 k, .string ⟨u.toArray⟩, .string ⟨o.toArray⟩, .int .i64 id, .int .i64 a, .int .i64 b, .int .i64 c, .string ⟨st.toArray⟩] 26)
  replace X := Lib.hid X
  clear b0
  go_enter Try.func6, Try.ntmps6
  go_wp2_with fail
  refine (short14_any k u o st id a b c HS _).mono ?_
  rintro e w2 ⟨rfl, b2⟩
  replace X := Lib.hid (upQ X.out b2)
  replace HB := Lib.hid (below2Z HB.out b2)
  clear b2
  obtain ⟨⟨Xc0, Xc1, Xc2, Xc3, Xc4, Xc5, Xc6, Xc7⟩, ⟨Xf0, Xf1, Xf2, Xf3, Xf4, Xf5, Xf6, Xf7⟩⟩ := blk8 X.out
  go_wp2_with fail
  clear Xc0 Xc1 Xc2 Xc3 Xc4 Xc5 Xc6 Xc7 Xf0 Xf1 Xf2 Xf3 Xf4 Xf5 Xf6 Xf7
  refine (rscmay_any k u o st id a b c HSH.out HM _).mono ?_
  rintro e w3 ⟨rfl, b3⟩
  replace X := Lib.hid (upQ X.out b3)
  replace HB := Lib.hid (below2Z HB.out b3)
  clear b3
  go_wp2_with fail
  refine (live23 _).mono ?_
  rintro e w4 ⟨rfl, b4⟩
  replace X := Lib.hid (upQ X.out b4)
  replace HB := Lib.hid (below2Z HB.out b4)
  clear b4
  go_wp2_with fail
  go_ret
  exact ⟨rfl, HB.out⟩

set_option maxHeartbeats 1600000 in
set_option maxRecDepth 100000 in
theorem scwsp_3 {w : World} (k : Int) (u o st : List UInt8) (id a b c : Int) (hs : shortEv ⟨k, u, o, id, ⟨a, b, c, st⟩⟩ = true) (hsh : evShort ⟨k, u, o, id, ⟨a, b, c, st⟩⟩) (hm : scMay ⟨k, u, o, id, ⟨a, b, c, st⟩⟩ = true) (at' m : Int) (h : at' < 0) :
    Calls Try.prog 6 #[.agg #[.int .i64 k, .string ⟨u.toArray⟩, .string ⟨o.toArray⟩, .int .i64 id, .int .i64 a, .int .i64 b, .int .i64 c, .string ⟨st.toArray⟩], .int .i64 at', .int .u8 m] w fun e w' => e = .returned (.bool true) ∧ Below w.heap.size w w' := by
  have HS := Lib.hid hs
  have HM := Lib.hid hm
  have HSH := Lib.hid hsh
  have hmin := spoil_min (e := ⟨k, u, o, id, ⟨a, b, c, st⟩⟩)
  have hmax := scBytes_short hm
  have HX := Lib.hid (scEnc_yes hm)
  generalize cseal (scBytes ⟨k, u, o, id, ⟨a, b, c, st⟩⟩) = s at *
  have t4 : decide (at' < 0) = true := by rw [decide_eq_true_eq]; exact h
  have t1 : decide ((s.length : Int) < 5) = false := by rw [decide_eq_false_iff_not]; omega
  have t2 : decide (s.length < 5) = false := by rw [decide_eq_false_iff_not]; omega
  clear hs hm hsh
  have b0 := bl_newZ w (.cells #[.int .i64 k, .string ⟨u.toArray⟩, .string ⟨o.toArray⟩, .int .i64 id, .int .i64 a, .int .i64 b, .int .i64 c, .string ⟨st.toArray⟩] 26)
  have HB := Lib.hid b0
  have X := newQ w (.cells #[.int .i64 k, .string ⟨u.toArray⟩, .string ⟨o.toArray⟩, .int .i64 id, .int .i64 a, .int .i64 b, .int .i64 c, .string ⟨st.toArray⟩] 26)
  replace X := Lib.hid X
  clear b0
  go_enter Try.func6, Try.ntmps6
  go_wp2_with fail
  refine (short14_any k u o st id a b c HS _).mono ?_
  rintro e w2 ⟨rfl, b2⟩
  replace X := Lib.hid (upQ X.out b2)
  replace HB := Lib.hid (below2Z HB.out b2)
  clear b2
  obtain ⟨⟨Xc0, Xc1, Xc2, Xc3, Xc4, Xc5, Xc6, Xc7⟩, ⟨Xf0, Xf1, Xf2, Xf3, Xf4, Xf5, Xf6, Xf7⟩⟩ := blk8 X.out
  go_wp2_with fail
  clear Xc0 Xc1 Xc2 Xc3 Xc4 Xc5 Xc6 Xc7 Xf0 Xf1 Xf2 Xf3 Xf4 Xf5 Xf6 Xf7
  refine (rscmay_any k u o st id a b c HSH.out HM _).mono ?_
  rintro e w3 ⟨rfl, b3⟩
  replace X := Lib.hid (upQ X.out b3)
  replace HB := Lib.hid (below2Z HB.out b3)
  clear b3
  obtain ⟨⟨Xc0, Xc1, Xc2, Xc3, Xc4, Xc5, Xc6, Xc7⟩, ⟨Xf0, Xf1, Xf2, Xf3, Xf4, Xf5, Xf6, Xf7⟩⟩ := blk8 X.out
  go_wp2_with fail
  clear Xc0 Xc1 Xc2 Xc3 Xc4 Xc5 Xc6 Xc7 Xf0 Xf1 Xf2 Xf3 Xf4 Xf5 Xf6 Xf7
  refine (scenc_any k u o st id a b c HSH.out HX _).mono ?_
  rintro e w4 ⟨rfl, b4⟩
  replace X := Lib.hid (upQ X.out b4)
  replace HB := Lib.hid (below2Z HB.out b4)
  clear b4
  go_wp2_with fail
  refine (live23 _).mono ?_
  rintro e w5 ⟨rfl, b5⟩
  replace X := Lib.hid (upQ X.out b5)
  replace HB := Lib.hid (below2Z HB.out b5)
  clear b5
  go_wp2_with fail
  go_ret
  exact ⟨rfl, HB.out⟩

set_option maxHeartbeats 1600000 in
set_option maxRecDepth 100000 in
theorem scwsp_4 {w : World} (k : Int) (u o st : List UInt8) (id a b c : Int) (hs : shortEv ⟨k, u, o, id, ⟨a, b, c, st⟩⟩ = true) (hsh : evShort ⟨k, u, o, id, ⟨a, b, c, st⟩⟩) (hm : scMay ⟨k, u, o, id, ⟨a, b, c, st⟩⟩ = true) (at' m : Int) (h0 : 0 ≤ at') (h : ((cseal (scBytes ⟨k, u, o, id, ⟨a, b, c, st⟩⟩)).length : Int) ≤ at') :
    Calls Try.prog 6 #[.agg #[.int .i64 k, .string ⟨u.toArray⟩, .string ⟨o.toArray⟩, .int .i64 id, .int .i64 a, .int .i64 b, .int .i64 c, .string ⟨st.toArray⟩], .int .i64 at', .int .u8 m] w fun e w' => e = .returned (.bool true) ∧ Below w.heap.size w w' := by
  have HS := Lib.hid hs
  have HM := Lib.hid hm
  have HSH := Lib.hid hsh
  have hmin := spoil_min (e := ⟨k, u, o, id, ⟨a, b, c, st⟩⟩)
  have hmax := scBytes_short hm
  have HX := Lib.hid (scEnc_yes hm)
  generalize cseal (scBytes ⟨k, u, o, id, ⟨a, b, c, st⟩⟩) = s at *
  have t4 : decide (at' < 0) = false := by rw [decide_eq_false_iff_not]; omega
  have t5 : decide ((s.length : Int) ≤ at') = true := by rw [decide_eq_true_eq]; exact h
  have t1 : decide ((s.length : Int) < 5) = false := by rw [decide_eq_false_iff_not]; omega
  have t2 : decide (s.length < 5) = false := by rw [decide_eq_false_iff_not]; omega
  clear hs hm hsh
  have b0 := bl_newZ w (.cells #[.int .i64 k, .string ⟨u.toArray⟩, .string ⟨o.toArray⟩, .int .i64 id, .int .i64 a, .int .i64 b, .int .i64 c, .string ⟨st.toArray⟩] 26)
  have HB := Lib.hid b0
  have X := newQ w (.cells #[.int .i64 k, .string ⟨u.toArray⟩, .string ⟨o.toArray⟩, .int .i64 id, .int .i64 a, .int .i64 b, .int .i64 c, .string ⟨st.toArray⟩] 26)
  replace X := Lib.hid X
  clear b0
  go_enter Try.func6, Try.ntmps6
  go_wp2_with fail
  refine (short14_any k u o st id a b c HS _).mono ?_
  rintro e w2 ⟨rfl, b2⟩
  replace X := Lib.hid (upQ X.out b2)
  replace HB := Lib.hid (below2Z HB.out b2)
  clear b2
  obtain ⟨⟨Xc0, Xc1, Xc2, Xc3, Xc4, Xc5, Xc6, Xc7⟩, ⟨Xf0, Xf1, Xf2, Xf3, Xf4, Xf5, Xf6, Xf7⟩⟩ := blk8 X.out
  go_wp2_with fail
  clear Xc0 Xc1 Xc2 Xc3 Xc4 Xc5 Xc6 Xc7 Xf0 Xf1 Xf2 Xf3 Xf4 Xf5 Xf6 Xf7
  refine (rscmay_any k u o st id a b c HSH.out HM _).mono ?_
  rintro e w3 ⟨rfl, b3⟩
  replace X := Lib.hid (upQ X.out b3)
  replace HB := Lib.hid (below2Z HB.out b3)
  clear b3
  obtain ⟨⟨Xc0, Xc1, Xc2, Xc3, Xc4, Xc5, Xc6, Xc7⟩, ⟨Xf0, Xf1, Xf2, Xf3, Xf4, Xf5, Xf6, Xf7⟩⟩ := blk8 X.out
  go_wp2_with fail
  clear Xc0 Xc1 Xc2 Xc3 Xc4 Xc5 Xc6 Xc7 Xf0 Xf1 Xf2 Xf3 Xf4 Xf5 Xf6 Xf7
  refine (scenc_any k u o st id a b c HSH.out HX _).mono ?_
  rintro e w4 ⟨rfl, b4⟩
  replace X := Lib.hid (upQ X.out b4)
  replace HB := Lib.hid (below2Z HB.out b4)
  clear b4
  go_wp2_with fail
  refine (live23 _).mono ?_
  rintro e w5 ⟨rfl, b5⟩
  replace X := Lib.hid (upQ X.out b5)
  replace HB := Lib.hid (below2Z HB.out b5)
  clear b5
  go_wp2_with fail
  go_ret
  exact ⟨rfl, HB.out⟩

set_option maxHeartbeats 1600000 in
set_option maxRecDepth 100000 in
theorem scwsp_5 {w : World} (k : Int) (u o st : List UInt8) (id a b c : Int) (hs : shortEv ⟨k, u, o, id, ⟨a, b, c, st⟩⟩ = true) (hsh : evShort ⟨k, u, o, id, ⟨a, b, c, st⟩⟩) (hm : scMay ⟨k, u, o, id, ⟨a, b, c, st⟩⟩ = true) (at' m : Int) (h0 : 0 ≤ at') (h : at' < ((cseal (scBytes ⟨k, u, o, id, ⟨a, b, c, st⟩⟩)).length : Int)) (hm0 : m = 0) :
    Calls Try.prog 6 #[.agg #[.int .i64 k, .string ⟨u.toArray⟩, .string ⟨o.toArray⟩, .int .i64 id, .int .i64 a, .int .i64 b, .int .i64 c, .string ⟨st.toArray⟩], .int .i64 at', .int .u8 m] w fun e w' => e = .returned (.bool true) ∧ Below w.heap.size w w' := by
  have HS := Lib.hid hs
  have HM := Lib.hid hm
  have HSH := Lib.hid hsh
  have hmin := spoil_min (e := ⟨k, u, o, id, ⟨a, b, c, st⟩⟩)
  have hmax := scBytes_short hm
  have HX := Lib.hid (scEnc_yes hm)
  generalize cseal (scBytes ⟨k, u, o, id, ⟨a, b, c, st⟩⟩) = s at *
  have t4 : decide (at' < 0) = false := by rw [decide_eq_false_iff_not]; omega
  have t5 : decide ((s.length : Int) ≤ at') = false := by rw [decide_eq_false_iff_not]; omega
  subst hm0
  have t1 : decide ((s.length : Int) < 5) = false := by rw [decide_eq_false_iff_not]; omega
  have t2 : decide (s.length < 5) = false := by rw [decide_eq_false_iff_not]; omega
  clear hs hm hsh
  have b0 := bl_newZ w (.cells #[.int .i64 k, .string ⟨u.toArray⟩, .string ⟨o.toArray⟩, .int .i64 id, .int .i64 a, .int .i64 b, .int .i64 c, .string ⟨st.toArray⟩] 26)
  have HB := Lib.hid b0
  have X := newQ w (.cells #[.int .i64 k, .string ⟨u.toArray⟩, .string ⟨o.toArray⟩, .int .i64 id, .int .i64 a, .int .i64 b, .int .i64 c, .string ⟨st.toArray⟩] 26)
  replace X := Lib.hid X
  clear b0
  go_enter Try.func6, Try.ntmps6
  go_wp2_with fail
  refine (short14_any k u o st id a b c HS _).mono ?_
  rintro e w2 ⟨rfl, b2⟩
  replace X := Lib.hid (upQ X.out b2)
  replace HB := Lib.hid (below2Z HB.out b2)
  clear b2
  obtain ⟨⟨Xc0, Xc1, Xc2, Xc3, Xc4, Xc5, Xc6, Xc7⟩, ⟨Xf0, Xf1, Xf2, Xf3, Xf4, Xf5, Xf6, Xf7⟩⟩ := blk8 X.out
  go_wp2_with fail
  clear Xc0 Xc1 Xc2 Xc3 Xc4 Xc5 Xc6 Xc7 Xf0 Xf1 Xf2 Xf3 Xf4 Xf5 Xf6 Xf7
  refine (rscmay_any k u o st id a b c HSH.out HM _).mono ?_
  rintro e w3 ⟨rfl, b3⟩
  replace X := Lib.hid (upQ X.out b3)
  replace HB := Lib.hid (below2Z HB.out b3)
  clear b3
  obtain ⟨⟨Xc0, Xc1, Xc2, Xc3, Xc4, Xc5, Xc6, Xc7⟩, ⟨Xf0, Xf1, Xf2, Xf3, Xf4, Xf5, Xf6, Xf7⟩⟩ := blk8 X.out
  go_wp2_with fail
  clear Xc0 Xc1 Xc2 Xc3 Xc4 Xc5 Xc6 Xc7 Xf0 Xf1 Xf2 Xf3 Xf4 Xf5 Xf6 Xf7
  refine (scenc_any k u o st id a b c HSH.out HX _).mono ?_
  rintro e w4 ⟨rfl, b4⟩
  replace X := Lib.hid (upQ X.out b4)
  replace HB := Lib.hid (below2Z HB.out b4)
  clear b4
  go_wp2_with fail
  refine (live23 _).mono ?_
  rintro e w5 ⟨rfl, b5⟩
  replace X := Lib.hid (upQ X.out b5)
  replace HB := Lib.hid (below2Z HB.out b5)
  clear b5
  go_wp2_with fail
  go_ret
  exact ⟨rfl, HB.out⟩

set_option maxHeartbeats 1600000 in
set_option maxRecDepth 100000 in
theorem scwsp_6 {w : World} (k : Int) (u o st : List UInt8) (id a b c : Int) (hs : shortEv ⟨k, u, o, id, ⟨a, b, c, st⟩⟩ = true) (hsh : evShort ⟨k, u, o, id, ⟨a, b, c, st⟩⟩) (hm : scMay ⟨k, u, o, id, ⟨a, b, c, st⟩⟩ = true) (p : Nat) (hp : p < (cseal (scBytes ⟨k, u, o, id, ⟨a, b, c, st⟩⟩)).length) (mb : UInt8) (hmb : mb ≠ 0) :
    Calls Try.prog 6 #[.agg #[.int .i64 k, .string ⟨u.toArray⟩, .string ⟨o.toArray⟩, .int .i64 id, .int .i64 a, .int .i64 b, .int .i64 c, .string ⟨st.toArray⟩], .int .i64 p, .int .u8 mb.toNat] w fun e w' => e = .returned (.bool true) ∧ Below w.heap.size w w' := by
  have HS := Lib.hid hs
  have HM := Lib.hid hm
  have HSH := Lib.hid hsh
  have hmin := spoil_min (e := ⟨k, u, o, id, ⟨a, b, c, st⟩⟩)
  have hmax := scBytes_short hm
  have HX := Lib.hid (scEnc_yes hm)
  have hd := scDec_set hp hmb
  have hbt := scBatch_all (l := [⟨k, u, o, id, ⟨a, b, c, st⟩⟩]) (by simp) (by simp [hm])
  rw [scCat_one] at hbt
  generalize cseal (scBytes ⟨k, u, o, id, ⟨a, b, c, st⟩⟩) = s at *
  obtain ⟨x, hx⟩ : ∃ x, s.getD p 0 = x := ⟨_, rfl⟩
  have hxo := u8of_xorS x mb
  obtain ⟨y, hy⟩ : ∃ y, x ^^^ mb = y := ⟨_, rfl⟩
  rw [hy] at hxo
  rw [hx, hy] at hd
  clear hy
  obtain ⟨sp, hsp⟩ : ∃ sp, s.set p y = sp := ⟨_, rfl⟩
  rw [hsp] at hd
  have hspl : sp.length = s.length := by rw [← hsp, List.length_set]
  have hun := unIs_spoilt (t := sp) (by omega) hd
  rw [hspl] at hun
  obtain ⟨pre, hpre⟩ : ∃ pre, vput s.length = pre := ⟨_, rfl⟩
  rw [hpre] at hun hbt
  have hprel : pre.length ≤ 10 := by rw [← hpre]; exact vput_len_le _
  obtain ⟨wh, hwh⟩ : ∃ wh, pre ++ s = wh := ⟨_, rfl⟩
  rw [hwh] at hbt
  have hwl : wh.length = pre.length + s.length := by rw [← hwh, List.length_append]
  have hwt : wh.take pre.length = pre := by rw [← hwh, List.take_left]
  obtain ⟨pl, hpl⟩ : ∃ pl, pre.length = pl := ⟨_, rfl⟩
  rw [hpl] at hwl hwt hprel
  have hsl := fun w => run_slice_bytes_to (P := Try.prog) w 9 wh pl (pl : Int) rfl Try.underlying9 (by omega)
  rw [hwt] at hsl
  have HSL := Lib.hid hsl
  have HWR := Lib.hid (show IntKind.i64.wrap ((wh.length : Int) - (s.length : Int)) = (pl : Int) by rw [show (wh.length : Int) - (s.length : Int) = (pl : Int) by omega]; exact IntWalk.i64_in _ (by omega))
  have HD := Lib.hid hd
  have HUN := Lib.hid hun
  have HBT := Lib.hid hbt
  have HSPL := Lib.hid hspl
  have HPL := Lib.hid hpl
  have hspl2 : sp.length ≤ 4294967296 := by omega
  have hsl3 : (pre ++ sp).length ≤ 1000000 := by rw [List.length_append]; omega
  have hbig : ¬ 9223372036854775807 < pre.length + sp.length := by omega
  have HSHL : Hid (∀ e ∈ [⟨k, u, o, id, ⟨a, b, c, st⟩⟩], evShort e) := Lib.hid (by intro e he; simp only [List.mem_singleton] at he; subst he; exact hsh)
  have t4 : decide ((p : Int) < 0) = false := by simp
  have t5 : decide ((s.length : Int) ≤ (p : Int)) = false := by rw [decide_eq_false_iff_not]; omega
  have t5b : decide (s.length ≤ p) = false := by rw [decide_eq_false_iff_not]; omega
  have t1 : decide ((s.length : Int) < 5) = false := by rw [decide_eq_false_iff_not]; omega
  have t2 : decide (s.length < 5) = false := by rw [decide_eq_false_iff_not]; omega
  have t6 : ((mb.toNat : Int) == 0) = false := by have : mb.toNat ≠ 0 := fun h => hmb (UInt8.toNat_inj.1 h); simp; omega
  have t6b : (mb.toNat == 0) = false := by have : mb.toNat ≠ 0 := fun h => hmb (UInt8.toNat_inj.1 h); simp; omega
  have hcv := fun w => Lib.run_convert_string_bytes (P := Try.prog) w 9 45 5 ⟨s.toArray⟩ Try.underlying9 Try.underlying45 Try.underlying5
  have heq := fun w => (ev_eql 0 0 0 0 [] [] [] [] 0 0 0 0 0 0 [] [] w).trans (by rw [evEq_self])
  have HEQ := Lib.hid heq
  clear hs hm hsh hd hbt hun hspl hpl hwl hwt hsl hpre hwh heq hmb
  have b0 := bl_newZ w (.cells #[.int .i64 k, .string ⟨u.toArray⟩, .string ⟨o.toArray⟩, .int .i64 id, .int .i64 a, .int .i64 b, .int .i64 c, .string ⟨st.toArray⟩] 26)
  have HB := Lib.hid b0
  have X := newQ w (.cells #[.int .i64 k, .string ⟨u.toArray⟩, .string ⟨o.toArray⟩, .int .i64 id, .int .i64 a, .int .i64 b, .int .i64 c, .string ⟨st.toArray⟩] 26)
  replace X := Lib.hid X
  clear b0
  go_enter Try.func6, Try.ntmps6
  go_wp2_with fail
  refine (short14_any k u o st id a b c HS _).mono ?_
  rintro e w2 ⟨rfl, b2⟩
  replace X := Lib.hid (upQ X.out b2)
  replace HB := Lib.hid (below2Z HB.out b2)
  clear b2
  obtain ⟨⟨Xc0, Xc1, Xc2, Xc3, Xc4, Xc5, Xc6, Xc7⟩, ⟨Xf0, Xf1, Xf2, Xf3, Xf4, Xf5, Xf6, Xf7⟩⟩ := blk8 X.out
  go_wp2_with fail
  clear Xc0 Xc1 Xc2 Xc3 Xc4 Xc5 Xc6 Xc7 Xf0 Xf1 Xf2 Xf3 Xf4 Xf5 Xf6 Xf7
  refine (rscmay_any k u o st id a b c HSH.out HM _).mono ?_
  rintro e w3 ⟨rfl, b3⟩
  replace X := Lib.hid (upQ X.out b3)
  replace HB := Lib.hid (below2Z HB.out b3)
  clear b3
  obtain ⟨⟨Xc0, Xc1, Xc2, Xc3, Xc4, Xc5, Xc6, Xc7⟩, ⟨Xf0, Xf1, Xf2, Xf3, Xf4, Xf5, Xf6, Xf7⟩⟩ := blk8 X.out
  go_wp2_with fail
  clear Xc0 Xc1 Xc2 Xc3 Xc4 Xc5 Xc6 Xc7 Xf0 Xf1 Xf2 Xf3 Xf4 Xf5 Xf6 Xf7
  refine (scenc_any k u o st id a b c HSH.out HX _).mono ?_
  rintro e w4 ⟨rfl, b4⟩
  replace X := Lib.hid (upQ X.out b4)
  replace HB := Lib.hid (below2Z HB.out b4)
  clear b4
  have hR := rowB_new w4 s
  have hcq := (hR p hp).1
  have hfq := (hR p hp).2
  rw [hx] at hcq
  have HR2 : Hid (RowB ((Lib.bytesWorld w4 5 ⟨s.toArray⟩).setCell ⟨w4.heap.size, p, none⟩ (.int .u8 y.toNat)) w4.heap.size sp) := Lib.hid (by rw [← hsp]; exact hR.set p _ hp)
  have bz : Below w4.heap.size w4 ((Lib.bytesWorld w4 5 ⟨s.toArray⟩).setCell ⟨w4.heap.size, p, none⟩ (.int .u8 y.toNat)) := (bytesWorld_below w4 _ _).setCell (Nat.le_refl _) _
  have hcb := fun cap => row_text HR2.out cap
  rw [HSPL.out] at hcb
  have hp2 : (p : Int) < (s.length : Int) := by omega
  clear hR
  go_wp2_with fail
  replace X := Lib.hid (upQ X.out bz)
  replace HB := Lib.hid (below2Z HB.out bz)
  clear bz hcq hfq hcb hcv hxo hx hsp
  generalize (Lib.bytesWorld w4 5 ⟨s.toArray⟩).setCell ⟨w4.heap.size, p, none⟩ (.int .u8 y.toNat) = w5 at X HB HR2 ⊢
  generalize w4.heap.size = BB at HR2 ⊢
  refine (scdec_any sp hspl2 HD _).mono ?_
  rintro e w6 ⟨rfl, b6⟩
  replace X := Lib.hid (upQ X.out b6)
  replace HR2 := Lib.hid ((HR2.out).later b6)
  replace HB := Lib.hid (below2Z HB.out b6)
  clear b6
  obtain ⟨⟨Xc0, Xc1, Xc2, Xc3, Xc4, Xc5, Xc6, Xc7⟩, ⟨Xf0, Xf1, Xf2, Xf3, Xf4, Xf5, Xf6, Xf7⟩⟩ := blk8 X.out
  have hX := (Array.getElem?_eq_some_iff.1 X.out).1
  go_wp2_with fail
  clear Xc0 Xc1 Xc2 Xc3 Xc4 Xc5 Xc6 Xc7 Xf0 Xf1 Xf2 Xf3 Xf4 Xf5 Xf6 Xf7 hX
  have b7 := bl_newZ w6 (.cells #[.int .i64 0, .string ⟨#[]⟩, .string ⟨#[]⟩, .int .i64 0, .int .i64 0, .int .i64 0, .int .i64 0, .string ⟨#[]⟩] 26)
  have Q := newQ w6 (.cells #[.int .i64 0, .string ⟨#[]⟩, .string ⟨#[]⟩, .int .i64 0, .int .i64 0, .int .i64 0, .int .i64 0, .string ⟨#[]⟩] 26)
  have hQ : w.heap.size ≤ w6.heap.size := HB.out.size
  replace X := Lib.hid (upQ X.out b7)
  replace HR2 := Lib.hid ((HR2.out).later b7)
  replace HB := Lib.hid (below2Z HB.out b7)
  clear b7
  replace Q := Lib.hid Q
  have HR1 := Lib.hid (rdS_made evOK (w := (w6.alloc (.cells #[.int .i64 0, .string ⟨#[]⟩, .string ⟨#[]⟩, .int .i64 0, .int .i64 0, .int .i64 0, .int .i64 0, .string ⟨#[]⟩] 26))) (cs := #[.int .i64 k, .string ⟨u.toArray⟩, .string ⟨o.toArray⟩, .int .i64 id, .int .i64 a, .int .i64 b, .int .i64 c, .string ⟨st.toArray⟩]) (l := [⟨k, u, o, id, ⟨a, b, c, st⟩⟩]) rfl (by simp) (B := w6.heap.size + 1) (by simp))
  have b8 := bl_newZ (w6.alloc (.cells #[.int .i64 0, .string ⟨#[]⟩, .string ⟨#[]⟩, .int .i64 0, .int .i64 0, .int .i64 0, .int .i64 0, .string ⟨#[]⟩] 26)) (.cells #[.int .i64 k, .string ⟨u.toArray⟩, .string ⟨o.toArray⟩, .int .i64 id, .int .i64 a, .int .i64 b, .int .i64 c, .string ⟨st.toArray⟩] 26)
  have W := newQ (w6.alloc (.cells #[.int .i64 0, .string ⟨#[]⟩, .string ⟨#[]⟩, .int .i64 0, .int .i64 0, .int .i64 0, .int .i64 0, .string ⟨#[]⟩] 26)) (.cells #[.int .i64 k, .string ⟨u.toArray⟩, .string ⟨o.toArray⟩, .int .i64 id, .int .i64 a, .int .i64 b, .int .i64 c, .string ⟨st.toArray⟩] 26)
  have hW : w.heap.size ≤ (w6.alloc (.cells #[.int .i64 0, .string ⟨#[]⟩, .string ⟨#[]⟩, .int .i64 0, .int .i64 0, .int .i64 0, .int .i64 0, .string ⟨#[]⟩] 26)).heap.size := HB.out.size
  rw [World.size_alloc] at W hW
  replace X := Lib.hid (upQ X.out b8)
  replace Q := Lib.hid (upQ Q.out b8)
  replace HR2 := Lib.hid ((HR2.out).later b8)
  replace HB := Lib.hid (below2Z HB.out b8)
  clear b8
  replace W := Lib.hid W
  generalize (w6.alloc (.cells #[.int .i64 0, .string ⟨#[]⟩, .string ⟨#[]⟩, .int .i64 0, .int .i64 0, .int .i64 0, .int .i64 0, .string ⟨#[]⟩] 26)).alloc (.cells #[.int .i64 k, .string ⟨u.toArray⟩, .string ⟨o.toArray⟩, .int .i64 id, .int .i64 a, .int .i64 b, .int .i64 c, .string ⟨st.toArray⟩] 26) = w9 at HR1 X Q W HR2 HB ⊢
  clear W
  clear hW
  skip
  refine (scbat_any HR1.out HSHL.out HBT).mono ?_
  rintro e w10 ⟨rfl, b10⟩
  replace X := Lib.hid (upQ X.out b10)
  replace Q := Lib.hid (upQ Q.out b10)
  replace HR2 := Lib.hid ((HR2.out).later b10)
  replace HB := Lib.hid (below2Z HB.out b10)
  clear HR1
  clear b10
  go_wp2_with fail
  have hcb := fun cap => row_text HR2.out.drew cap
  have hcb2 := fun cap => row_text HR2.out cap
  rw [HSPL.out] at hcb hcb2
  have hsl := HSL.out
  have hwr := HWR.out
  have hmx : max (0 : Int) (pl : Int) = (pl : Int) := by omega
  go_region
  have bd : Below w10.heap.size w10 w10.drew := (Below.refl _ _).drew
  replace X := Lib.hid (upQ X.out bd)
  replace Q := Lib.hid (upQ Q.out bd)
  replace HR2 := Lib.hid ((HR2.out).later bd)
  replace HB := Lib.hid (below2Z HB.out bd)
  clear bd hcb hcb2 hsl hwr hmx
  clear HR2
  go_wp2_with fail
  refine (scun_any (pre ++ sp) hsl3 _).mono ?_
  rintro e w11 ⟨v, mm, er, rfl, hev, hun, b11⟩
  replace X := Lib.hid (upQ X.out b11)
  replace Q := Lib.hid (upQ Q.out b11)
  replace HB := Lib.hid (below2Z HB.out b11)
  obtain ⟨rfl, rfl⟩ := unIs_one hun HUN.out
  clear b11
  obtain ⟨av, cv, hav, -⟩ := RdS.open' hev
  subst hav
  clear hev hun
  have heq := HEQ.out
  obtain ⟨⟨Qc0, Qc1, Qc2, Qc3, Qc4, Qc5, Qc6, Qc7⟩, ⟨Qf0, Qf1, Qf2, Qf3, Qf4, Qf5, Qf6, Qf7⟩⟩ := blk8 Q.out
  go_wp2_with fail
  clear Qc0 Qc1 Qc2 Qc3 Qc4 Qc5 Qc6 Qc7 Qf0 Qf1 Qf2 Qf3 Qf4 Qf5 Qf6 Qf7
  refine (live23 _).mono ?_
  rintro e w12 ⟨rfl, b12⟩
  replace X := Lib.hid (upQ X.out b12)
  replace Q := Lib.hid (upQ Q.out b12)
  replace HB := Lib.hid (below2Z HB.out b12)
  clear b12
  go_wp2_with fail
  go_ret
  exact ⟨rfl, HB.out⟩

theorem byte_wf {z : Int} (h : (Lit.int .u8 z).wf = true) : ∃ b : UInt8, z = b.toNat := by
  have h2 := bounds_u8 h
  exact ⟨u8of z.toNat, by rw [u8of_toNat (by omega)]; omega⟩

theorem walkScriptSpoils {w : World} (e : Ev) (_ : evFit e) (at' : Int) (_ : (Lit.int .i64 at').wf = true) (m : Int) (hw : (Lit.int .u8 m).wf = true) :
    Calls Try.prog 6 #[.agg #[.int .i64 e.k, .string ⟨e.u.toArray⟩, .string ⟨e.o.toArray⟩, .int .i64 e.id, .int .i64 e.v.sh, .int .i64 e.v.pr, .int .i64 e.v.si, .string ⟨e.v.st.toArray⟩], .int .i64 at', .int .u8 m] w fun e w' => e = .returned (.bool true) ∧ Below w.heap.size w w' := by
  obtain ⟨k, u, o, id, ⟨a, b, c, st⟩⟩ := e
  cases hs : shortEv ⟨k, u, o, id, ⟨a, b, c, st⟩⟩ with
  | false => exact scwsp_1 k u o st id a b c hs at' m
  | true =>
    have hsh : evShort ⟨k, u, o, id, ⟨a, b, c, st⟩⟩ := by
      obtain ⟨h1, h2, h3⟩ := shortEv_get hs
      exact ⟨Nat.le_trans h1 (by decide), Nat.le_trans h2 (by decide), Nat.le_trans h3 (by decide)⟩
    cases hm : scMay ⟨k, u, o, id, ⟨a, b, c, st⟩⟩ with
    | false => exact scwsp_2 k u o st id a b c hs hsh hm at' m
    | true =>
      by_cases h0 : at' < 0
      · exact scwsp_3 k u o st id a b c hs hsh hm at' m h0
      · by_cases hl : ((cseal (scBytes ⟨k, u, o, id, ⟨a, b, c, st⟩⟩)).length : Int) ≤ at'
        · exact scwsp_4 k u o st id a b c hs hsh hm at' m (by omega) hl
        · by_cases hm0 : m = 0
          · exact scwsp_5 k u o st id a b c hs hsh hm at' m (by omega) (by omega) hm0
          · obtain ⟨mb, rfl⟩ := byte_wf hw
            obtain ⟨p, rfl⟩ := Int.eq_ofNat_of_zero_le (show 0 ≤ at' by omega)
            exact scwsp_6 k u o st id a b c hs hsh hm p (by omega) mb (fun h => hm0 (by rw [h]; rfl))

end Go.Proofs.Ythfkfonfiejbmaa
