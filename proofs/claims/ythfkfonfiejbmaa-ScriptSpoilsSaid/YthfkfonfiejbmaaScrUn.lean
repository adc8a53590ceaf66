/-
  LAYER 23: Unbatch of the code and of the document.
-/
import Derived.Test.YthfkfonfiejbmaaScrRdec
import Derived.OwnWalk
import Derived.Deep.DeepMust
namespace Go.Proofs.Ythfkfonfiejbmaa
open Go.RowKit

theorem own_lenE {α : Type} {vals : α → List Value} {sz : Nat} {T : TypeId} {w : World} {base : Nat} {v : Value} {t : List α} (h : OwnS vals sz T w base v t) : ∃ a cap, v = .slice a t.length cap := by
  rcases h.2 with ⟨rfl, h0⟩ | ⟨g, cap, cur, rfl, _⟩
  · rw [h0]; exact ⟨none, 0, rfl⟩
  · exact ⟨_, _, rfl⟩

set_option maxHeartbeats 1600000 in
set_option maxRecDepth 100000 in
/-- P23.3, the code's. -/
theorem scun_any (s : List UInt8) (hl : s.length ≤ 1000000) (w : World) :
    Calls Try.prog 12 #[.string ⟨s.toArray⟩] w fun e w' => ∃ v m er, e = .returned (.tuple #[v, .int .i64 ((er : Nat) : Int)]) ∧ Evs w' v m ∧ UnIs s m er ∧ Below w.heap.size w w' := by
  have hs1 : (⟨s.toArray⟩ : ByteArray).size = s.length := size_bytes s
  have hl2 : s.length ≤ 4294967296 := by omega
  go_enter Try.func12, Try.ntmps12
  go_wp2_with fail
  go_loopw [4, 5] (fun v4 v5 wr => ∃ (ls : List Ev) (p : Nat), v5 = .int .i64 p ∧ ls.length ≤ 100 ∧ p ≤ s.length ∧ Hid (OwnS evVals 8 26 wr w.heap.size v4 ls) ∧ Hid (UnAt s ls p) ∧ Hid (Below w.heap.size w wr)) (fun _ v5 _ => s.length - (intOf v5).toNat)
  case atStart => exact ⟨[], 0, rfl, by simp, by omega, Lib.hid (ownS_nil _ _), Lib.hid (unAt_start s), Lib.hid (Below.refl _ _)⟩
  case round =>
    obtain ⟨ls, p, rfl, hln, hp, HO, HU, HB⟩ := hrel
    by_cases hlt : p < s.length
    case pos =>
      obtain ⟨av, cv, hav⟩ := own_lenE HO.out
      subst hav
      obtain ⟨t, q, er, ht⟩ : ∃ t q er, vtake s (p : Int) s.length = (t, q, er) := ⟨_, _, _, rfl⟩
      obtain ⟨⟨k, u, o, id, ⟨a, b, c, st⟩⟩, n, hd⟩ : ∃ e n, scDec t = (e, n) := ⟨_, _, rfl⟩
      by_cases he : er = 0
      case neg =>
        have NOX := Lib.hid (fun x (_ : x.length ≤ 100) hx => unAt_stuck HU.out hlt (Or.inr (Int.le_refl _)) ht hd (Or.inl he) x hx)
        have HT := Lib.hid ht
        clear ht hd
        go_wp2_with fail
        refine (sctakeone_err s hl2 p HT he _).mono ?_
        rintro e w1 ⟨rfl, b1⟩
        have HBX := Lib.hid ((below2Z HB.out b1).alloc (below2Z HB.out b1).size (.cells #[.int .i64 0, .string ⟨#[]⟩, .string ⟨#[]⟩, .int .i64 0, .int .i64 0, .int .i64 0, .int .i64 0, .string ⟨#[]⟩] 26))
        clear b1
        go_wp2_with fail
        go_ret2
        exact ⟨_, [], 3, rfl, rdS_nil _, unIs_none NOX.out, HBX.out⟩
      case pos =>
      subst he
      have hql : p < q ∨ n ≠ 0 := by
        by_cases h : n = 0
        · subst h; exact Or.inl (unAt_next HU.out ht hd).2
        · exact Or.inr h
      have HT := Lib.hid ht
      have HD := Lib.hid hd
      by_cases hn : n = 0
      case neg =>
        have NOX := Lib.hid (fun x (_ : x.length ≤ 100) hx => unAt_stuck HU.out hlt (Or.inr (Int.le_refl _)) ht hd (Or.inr hn) x hx)
        have tn : ((n : Int) == 0) = false := by simp; exact hn
        clear ht hd hql hn
        go_wp2_with fail
        refine (sctakeone_ok s hl2 p HT HD tn _).mono ?_
        rintro e w1 ⟨rfl, b1⟩
        have HBX := Lib.hid ((below2Z HB.out b1).alloc (below2Z HB.out b1).size (.cells #[.int .i64 k, .string ⟨u.toArray⟩, .string ⟨o.toArray⟩, .int .i64 id, .int .i64 a, .int .i64 b, .int .i64 c, .string ⟨st.toArray⟩] 26))
        clear b1 tn
        go_wp2_with fail
        go_ret2
        exact ⟨_, [], 3, rfl, rdS_nil _, unIs_none NOX.out, HBX.out⟩
      case pos =>
      subst hn
      have hpq : p < q := by rcases hql with h | h; exact h; exact absurd rfl h
      have hqs : q ≤ s.length := (unAt_next HU.out ht hd).1.1
      have HU2 := Lib.hid (unAt_next HU.out ht hd).1
      clear ht hd hql
      by_cases h100 : ls.length = 100
      case pos =>
        have NOX := Lib.hid (fun x hx1 hx => unAt_many HU.out (by omega) (Or.inl hlt) x hx1 hx)
        have t100 : ((ls.length : Int) == 100) = true := by simp; omega
        clear h100
        go_wp2_with fail
        refine (sctakeone_ok s hl2 p HT HD rfl _).mono ?_
        rintro e w1 ⟨rfl, b1⟩
        have HBX := Lib.hid ((below2Z HB.out b1).alloc (below2Z HB.out b1).size (.cells #[.int .i64 k, .string ⟨u.toArray⟩, .string ⟨o.toArray⟩, .int .i64 id, .int .i64 a, .int .i64 b, .int .i64 c, .string ⟨st.toArray⟩] 26))
        clear b1
        go_wp2_with fail
        go_ret2
        exact ⟨_, [], 3, rfl, rdS_nil _, unIs_none NOX.out, HBX.out⟩
      case neg =>
        have t100 : ((ls.length : Int) == 100) = false := by simp; omega
        have hln2 : ls.length + 1 ≤ 100 := by omega
        clear h100
        go_wp2_with fail
        refine (sctakeone_ok s hl2 p HT HD rfl _).mono ?_
        rintro e w1 ⟨rfl, b1⟩
        have HB1 := Lib.hid (below2Z HB.out b1)
        have HO1 := Lib.hid (HO.out.later b1)
        clear b1
        have SRC := Lib.hid (srcS_new (vals := evVals) (w := w1.alloc (.cells #[.int .i64 k, .string ⟨u.toArray⟩, .string ⟨o.toArray⟩, .int .i64 id, .int .i64 a, .int .i64 b, .int .i64 c, .string ⟨st.toArray⟩] 26)) (r := (⟨k, u, o, id, ⟨a, b, c, st⟩⟩ : Ev)) (cs := #[.int .i64 k, .string ⟨u.toArray⟩, .string ⟨o.toArray⟩, .int .i64 id, .int .i64 a, .int .i64 b, .int .i64 c, .string ⟨st.toArray⟩]) rfl (e := 26) (B := w1.heap.size + 1) (by simp))
        have HO2 : Hid (OwnS evVals 8 26 ((w1.alloc (.cells #[.int .i64 k, .string ⟨u.toArray⟩, .string ⟨o.toArray⟩, .int .i64 id, .int .i64 a, .int .i64 b, .int .i64 c, .string ⟨st.toArray⟩] 26)).alloc (.cells #[.int .i64 k, .string ⟨u.toArray⟩, .string ⟨o.toArray⟩, .int .i64 id, .int .i64 a, .int .i64 b, .int .i64 c, .string ⟨st.toArray⟩] 26)) w.heap.size _ _) := Lib.hid ((OwnS.alloc HO1.out (.cells #[.int .i64 k, .string ⟨u.toArray⟩, .string ⟨o.toArray⟩, .int .i64 id, .int .i64 a, .int .i64 b, .int .i64 c, .string ⟨st.toArray⟩] 26)).alloc (.cells #[.int .i64 k, .string ⟨u.toArray⟩, .string ⟨o.toArray⟩, .int .i64 id, .int .i64 a, .int .i64 b, .int .i64 c, .string ⟨st.toArray⟩] 26))
        have hz5 : w.heap.size ≤ ((w1.alloc (.cells #[.int .i64 k, .string ⟨u.toArray⟩, .string ⟨o.toArray⟩, .int .i64 id, .int .i64 a, .int .i64 b, .int .i64 c, .string ⟨st.toArray⟩] 26)).alloc (.cells #[.int .i64 k, .string ⟨u.toArray⟩, .string ⟨o.toArray⟩, .int .i64 id, .int .i64 a, .int .i64 b, .int .i64 c, .string ⟨st.toArray⟩] 26)).heap.size := by rw [World.size_alloc, World.size_alloc]; have := HB1.out.size; omega
        have HN1 := Lib.hid ((HB1.out.alloc HB1.out.size (.cells #[.int .i64 k, .string ⟨u.toArray⟩, .string ⟨o.toArray⟩, .int .i64 id, .int .i64 a, .int .i64 b, .int .i64 c, .string ⟨st.toArray⟩] 26)).alloc (by rw [World.size_alloc]; have := HB1.out.size; omega) (.cells #[.int .i64 k, .string ⟨u.toArray⟩, .string ⟨o.toArray⟩, .int .i64 id, .int .i64 a, .int .i64 b, .int .i64 c, .string ⟨st.toArray⟩] 26))
        go_wp2_with (at_builtin; go_must (refine wpList_append_S evOK rfl _ _ rfl w.heap.size _ ls rfl (by exact HO2.out) (some ⟨w1.heap.size + 1, 0, none⟩) 1 1 [⟨k, u, o, id, ⟨a, b, c, st⟩⟩] rfl rfl (fun e => nomatch e) SRC.out (by simp only [List.length_cons, List.length_nil]; omega) hz5 ?_))
        intro v5 w5 ho5 hb5
        have HN2 := Lib.hid (HN1.out.trans hb5)
        have HO5 := Lib.hid ho5
        clear ho5 hb5 SRC HO2 hz5 HN1
        go_wp2_with fail
        go_roundw
        case rel => exact ⟨_, q, rfl, by rw [List.length_append]; exact hln2, hqs, HO5, HU2, HN2⟩
        case measure => simp [intOf]; omega
    case neg =>
      have HI := Lib.hid (unAt_end HU.out hln (by omega))
      have t9 : decide ((p : Int) < (s.length : Int)) = false := by rw [decide_eq_false_iff_not]; omega
      go_wp2_with fail
      go_ret2
      exact ⟨_, ls, 0, rfl, HO.out.rd evOK, HI.out, HB.out⟩

set_option maxHeartbeats 1600000 in
set_option maxRecDepth 100000 in
/-- P23.3, the document's. -/
theorem rscun_any (s : List UInt8) (hl : s.length ≤ 1000000) (w : World) :
    Calls Try.prog 13 #[.string ⟨s.toArray⟩] w fun e w' => ∃ v m er, e = .returned (.tuple #[v, .int .i64 ((er : Nat) : Int)]) ∧ Evs w' v m ∧ UnIs s m er ∧ Below w.heap.size w w' := by
  have hs1 : (⟨s.toArray⟩ : ByteArray).size = s.length := size_bytes s
  have hl2 : s.length ≤ 4294967296 := by omega
  go_enter Try.func13, Try.ntmps13
  go_wp2_with fail
  go_loopw [4, 5] (fun v4 v5 wr => ∃ (ls : List Ev) (p : Nat), v5 = .int .i64 p ∧ p ≤ s.length ∧ Hid (OwnS evVals 8 26 wr w.heap.size v4 ls) ∧ Hid (UnAt s ls p) ∧ Hid (Below w.heap.size w wr)) (fun _ v5 _ => s.length - (intOf v5).toNat)
  case atStart => exact ⟨[], 0, rfl, by omega, Lib.hid (ownS_nil _ _), Lib.hid (unAt_start s), Lib.hid (Below.refl _ _)⟩
  case round =>
    obtain ⟨ls, p, rfl, hp, HO, HU, HB⟩ := hrel
    have hln := unAt_len HU.out
    by_cases hlt : p < s.length
    case pos =>
      obtain ⟨t, q, er, ht⟩ : ∃ t q er, vtake s (p : Int) 300 = (t, q, er) := ⟨_, _, _, rfl⟩
      obtain ⟨⟨k, u, o, id, ⟨a, b, c, st⟩⟩, n, hd⟩ : ∃ e n, scDec t = (e, n) := ⟨_, _, rfl⟩
      have htl : t.length ≤ 4294967296 := Nat.le_trans (vtake_len ht) hl2
      by_cases he : er = 0
      case neg =>
        have NOX := Lib.hid (fun x (_ : x.length ≤ 100) hx => unAt_stuck HU.out hlt (Or.inl (Int.le_refl _)) ht hd (Or.inl he) x hx)
        have HT := Lib.hid (fun W => rtake_eq s hl2 p 300 (by decide) W (Lib.hid ht))
        have HBX := Lib.hid HB.out
        have te : ((er : Int) != 0) = true := by simp; omega
        clear ht hd he
        go_wp2_with fail
        refine (HT.out _).mono ?_
        rintro e w1 ⟨rfl, rfl⟩
        go_wp2_with fail
        go_ret2
        exact ⟨_, [], 3, rfl, rdS_nil _, unIs_none NOX.out, HBX.out⟩
      case pos =>
      subst he
      have hql : p < q ∨ n ≠ 0 := by
        by_cases h : n = 0
        · subst h; exact Or.inl (unAt_next HU.out ht hd).2
        · exact Or.inr h
      have HT := Lib.hid (fun W => rtake_eq s hl2 p 300 (by decide) W (Lib.hid ht))
      have HD := Lib.hid hd
      by_cases hn : n = 0
      case neg =>
        have NOX := Lib.hid (fun x (_ : x.length ≤ 100) hx => unAt_stuck HU.out hlt (Or.inl (Int.le_refl _)) ht hd (Or.inr hn) x hx)
        have tn : ((n : Int) != 0) = true := by simp; exact hn
        clear ht hd hql hn
        go_wp2_with fail
        refine (HT.out _).mono ?_
        rintro e w1 ⟨rfl, rfl⟩
        go_wp2_with fail
        refine (rscdec_any t htl HD _).mono ?_
        rintro e w1 ⟨rfl, b1⟩
        have HBX := Lib.hid ((below2Z HB.out b1).alloc (below2Z HB.out b1).size (.cells #[.int .i64 k, .string ⟨u.toArray⟩, .string ⟨o.toArray⟩, .int .i64 id, .int .i64 a, .int .i64 b, .int .i64 c, .string ⟨st.toArray⟩] 26))
        clear b1
        go_wp2_with fail
        go_ret2
        exact ⟨_, [], 3, rfl, rdS_nil _, unIs_none NOX.out, HBX.out⟩
      case pos =>
        subst hn
        have hpq : p < q := by rcases hql with h | h; exact h; exact absurd rfl h
        have hqs : q ≤ s.length := (unAt_next HU.out ht hd).1.1
        have HU2 := Lib.hid (unAt_next HU.out ht hd).1
        clear ht hd hql
        go_wp2_with fail
        refine (HT.out _).mono ?_
        rintro e w1 ⟨rfl, rfl⟩
        go_wp2_with fail
        refine (rscdec_any t htl HD _).mono ?_
        rintro e w1 ⟨rfl, b1⟩
        have HB1 := Lib.hid (below2Z HB.out b1)
        have HO1 := Lib.hid (HO.out.later b1)
        clear b1
        have SRC := Lib.hid (srcS_new (vals := evVals) (w := w1.alloc (.cells #[.int .i64 k, .string ⟨u.toArray⟩, .string ⟨o.toArray⟩, .int .i64 id, .int .i64 a, .int .i64 b, .int .i64 c, .string ⟨st.toArray⟩] 26)) (r := (⟨k, u, o, id, ⟨a, b, c, st⟩⟩ : Ev)) (cs := #[.int .i64 k, .string ⟨u.toArray⟩, .string ⟨o.toArray⟩, .int .i64 id, .int .i64 a, .int .i64 b, .int .i64 c, .string ⟨st.toArray⟩]) rfl (e := 26) (B := w1.heap.size + 1) (by simp))
        have HO2 : Hid (OwnS evVals 8 26 ((w1.alloc (.cells #[.int .i64 k, .string ⟨u.toArray⟩, .string ⟨o.toArray⟩, .int .i64 id, .int .i64 a, .int .i64 b, .int .i64 c, .string ⟨st.toArray⟩] 26)).alloc (.cells #[.int .i64 k, .string ⟨u.toArray⟩, .string ⟨o.toArray⟩, .int .i64 id, .int .i64 a, .int .i64 b, .int .i64 c, .string ⟨st.toArray⟩] 26)) w.heap.size _ _) := Lib.hid ((OwnS.alloc HO1.out (.cells #[.int .i64 k, .string ⟨u.toArray⟩, .string ⟨o.toArray⟩, .int .i64 id, .int .i64 a, .int .i64 b, .int .i64 c, .string ⟨st.toArray⟩] 26)).alloc (.cells #[.int .i64 k, .string ⟨u.toArray⟩, .string ⟨o.toArray⟩, .int .i64 id, .int .i64 a, .int .i64 b, .int .i64 c, .string ⟨st.toArray⟩] 26))
        have hz5 : w.heap.size ≤ ((w1.alloc (.cells #[.int .i64 k, .string ⟨u.toArray⟩, .string ⟨o.toArray⟩, .int .i64 id, .int .i64 a, .int .i64 b, .int .i64 c, .string ⟨st.toArray⟩] 26)).alloc (.cells #[.int .i64 k, .string ⟨u.toArray⟩, .string ⟨o.toArray⟩, .int .i64 id, .int .i64 a, .int .i64 b, .int .i64 c, .string ⟨st.toArray⟩] 26)).heap.size := by rw [World.size_alloc, World.size_alloc]; have := HB1.out.size; omega
        have HN1 := Lib.hid ((HB1.out.alloc HB1.out.size (.cells #[.int .i64 k, .string ⟨u.toArray⟩, .string ⟨o.toArray⟩, .int .i64 id, .int .i64 a, .int .i64 b, .int .i64 c, .string ⟨st.toArray⟩] 26)).alloc (by rw [World.size_alloc]; have := HB1.out.size; omega) (.cells #[.int .i64 k, .string ⟨u.toArray⟩, .string ⟨o.toArray⟩, .int .i64 id, .int .i64 a, .int .i64 b, .int .i64 c, .string ⟨st.toArray⟩] 26))
        go_wp2_with (at_builtin; go_must (refine wpList_append_S evOK rfl _ _ rfl w.heap.size _ ls rfl (by exact HO2.out) (some ⟨w1.heap.size + 1, 0, none⟩) 1 1 [⟨k, u, o, id, ⟨a, b, c, st⟩⟩] rfl rfl (fun e => nomatch e) SRC.out (by simp only [List.length_cons, List.length_nil]; omega) hz5 ?_))
        intro v5 w5 ho5 hb5
        have HN2 := Lib.hid (HN1.out.trans hb5)
        have HO5 := Lib.hid ho5
        clear ho5 hb5 SRC HO2 hz5 HN1
        go_wp2_with fail
        go_roundw
        case rel => exact ⟨_, q, rfl, hqs, HO5, HU2, HN2⟩
        case measure => simp [intOf]; omega
    case neg =>
      have t9 : decide ((p : Int) < (s.length : Int)) = false := by rw [decide_eq_false_iff_not]; omega
      obtain ⟨av, cv, hav⟩ := own_lenE HO.out
      subst hav
      by_cases h100 : 100 < ls.length
      case pos =>
        have NOX := Lib.hid (fun x hx1 hx => unAt_many HU.out (by omega) (Or.inr h100) x hx1 hx)
        have HBX := Lib.hid HB.out
        have t100 : decide ((100 : Int) < (ls.length : Int)) = true := by rw [decide_eq_true_eq]; omega
        have t100b : decide (100 < ls.length) = true := by rw [decide_eq_true_eq]; omega
        go_wp2_with fail
        go_ret2
        exact ⟨_, [], 3, rfl, rdS_nil _, unIs_none NOX.out, HBX.out⟩
      case neg =>
        have HI := Lib.hid (unAt_end HU.out (by omega) (by omega))
        have t100 : decide ((100 : Int) < (ls.length : Int)) = false := by rw [decide_eq_false_iff_not]; omega
        have t100b : decide (100 < ls.length) = false := by rw [decide_eq_false_iff_not]; omega
        clear h100
        go_wp2_with fail
        go_ret2
        exact ⟨_, ls, 0, rfl, HO.out.rd evOK, HI.out, HB.out⟩

end Go.Proofs.Ythfkfonfiejbmaa
