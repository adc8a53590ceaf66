/-
  THE WALK OF BestOnly.
-/
import Derived.Test.YtocljhbkjengpaaBesBoth
namespace Go.Proofs.Ytocljhbkjengpaa
open Go.RowKit

/-! ### Plain -/

theorem sat_left {l m : List Ses} {i : Nat} (h : i < l.length) : sat (l ++ m) i = sat l i := by
  show (l ++ m).getD i Ses.zero = l.getD i Ses.zero
  rw [List.getD_eq_getElem?_getD, List.getD_eq_getElem?_getD, List.getElem?_append_left h]

theorem sat_right {l m : List Ses} {i : Nat} : sat (l ++ m) (l.length + i) = sat m i := by
  show (l ++ m).getD _ Ses.zero = m.getD i Ses.zero
  rw [List.getD_eq_getElem?_getD, List.getD_eq_getElem?_getD, List.getElem?_append_right (by omega), Nat.add_sub_cancel_left]

theorem sbet_lt_le {a b c : Ses} (h1 : sbet b a = true) (h2 : sbet c a = false) : sbet c b = false ∧ sbet b c = true := by
  rw [sbet_iff] at h1
  rw [sbet_no] at h2
  refine ⟨?_, ?_⟩
  · rw [sbet_no]; omega
  · rw [sbet_iff]; omega

theorem sbet_le_trans {a b c : Ses} (h1 : sbet b a = false) (h2 : sbet c b = false) : sbet c a = false := by
  rw [sbet_no] at *; omega

theorem besOf_two (x y : Ses) : besOf [x, y] = if sbet y x = true then y else x := rfl

theorem besOf_append {l m : List Ses} (hl : 0 < l.length) (hm : 0 < m.length) : besOf (l ++ m) = besOf [besOf l, besOf m] := by
  obtain ⟨j, a1, a2, a3, a4⟩ := besOf_spec hl
  obtain ⟨k, b1, b2, b3, b4⟩ := besOf_spec hm
  rw [besOf_two, a2, b2]
  cases hb : sbet (sat m k) (sat l j) with
  | true =>
    rw [if_pos rfl, ← sat_right (l := l)]
    refine besOf_one (by rw [List.length_append]; omega) (fun i hi => ?_) (fun i hi => ?_)
    · rw [sat_right]
      by_cases h : i < l.length
      · rw [sat_left h]; exact (sbet_lt_le hb (a3 i h)).1
      · obtain ⟨i', rfl⟩ : ∃ i', i = l.length + i' := ⟨i - l.length, by omega⟩
        rw [List.length_append] at hi
        rw [sat_right]; exact b3 i' (by omega)
    · rw [sat_right]
      by_cases h : i < l.length
      · rw [sat_left h]; exact (sbet_lt_le hb (a3 i h)).2
      · obtain ⟨i', rfl⟩ : ∃ i', i = l.length + i' := ⟨i - l.length, by omega⟩
        rw [sat_right]; exact b4 i' (by omega)
  | false =>
    rw [if_neg (by simp), ← sat_left (m := m) a1]
    refine besOf_one (by rw [List.length_append]; omega) (fun i hi => ?_) (fun i hi => ?_)
    · rw [sat_left a1]
      by_cases h : i < l.length
      · rw [sat_left h]; exact a3 i h
      · obtain ⟨i', rfl⟩ : ∃ i', i = l.length + i' := ⟨i - l.length, by omega⟩
        rw [List.length_append] at hi
        rw [sat_right]; exact sbet_le_trans hb (b3 i' (by omega))
    · rw [sat_left a1, sat_left (by omega)]
      exact a4 i hi

theorem besV_one {l : List Ses} (hl : 0 < l.length) : besV (l.take 1) = (sat l 0).v := by
  match l, hl with
  | s :: t, _ =>
    show besV [s] = s.v
    unfold besV
    show (⟨max s.v.sh s.v.sh, s.v.pr, s.v.si, s.v.st⟩ : Val) = s.v
    rw [show max s.v.sh s.v.sh = s.v.sh by omega]

def ren (s : Ses) : Ses := ⟨[111, 116, 104, 101, 114], s.id, s.v⟩

theorem sat_ren {l : List Ses} {k : Nat} (h : k < l.length) : sat (l.map ren) k = ren (sat l k) := by
  show (l.map ren).getD k Ses.zero = ren (l.getD k Ses.zero)
  rw [List.getD_eq_getElem?_getD, List.getD_eq_getElem?_getD, List.getElem?_map, List.getElem?_eq_getElem h]
  rfl

theorem bst_ren {l : List Ses} : ∀ k, k < l.length → bst (l.map ren) k = ren (bst l k) := by
  intro k
  induction k with
  | zero => intro h; exact sat_ren h
  | succ k ih =>
    intro h
    unfold bst
    rw [ih (by omega), sat_ren h, show sbet (ren (sat l (k + 1))) (ren (bst l k)) = sbet (sat l (k + 1)) (bst l k) from rfl]
    split <;> rfl

theorem shTo_ren {l : List Ses} (v : Int) : ∀ k, k ≤ l.length → shTo (l.map ren) v k = shTo l v k := by
  intro k
  induction k with
  | zero => intro _; rfl
  | succ k ih =>
    intro h
    unfold shTo
    rw [ih (by omega), sat_ren (by omega)]
    rfl

theorem besV_ren {l : List Ses} (hl : 0 < l.length) : besV (l.map ren) = besV l := by
  unfold besV
  have hb : besOf (l.map ren) = ren (besOf l) := by
    unfold besOf
    rw [List.length_map]
    exact bst_ren _ (by omega)
  rw [hb, List.length_map, shTo_ren _ _ (Nat.le_refl _)]
  rfl

theorem RdS.take {α : Type} {vals : α → List Value} {sz : Nat} {zero : α} {w : World} {a : Option Addr} {n cap : Nat} {l : List α} (h : RdS vals sz zero w (.slice a n cap) l) (p : Nat) (hp : p ≤ l.length) : RdS vals sz zero w (.slice a p cap) (l.take p) := by
  obtain ⟨a', cap', e, h1, h2, h3, h4⟩ := h
  simp only [Value.slice.injEq] at e
  obtain ⟨rfl, rfl, rfl⟩ := e
  have hl : (l.take p).length = p := by rw [List.length_take]; omega
  refine ⟨_, _, by rw [hl], by omega, h2, h3, ?_⟩
  rcases h4 with rfl | ⟨b, off, e, hlt, hc⟩
  · exact .inl (by simp)
  · refine .inr ⟨b, off, e, hlt, fun i hi => ?_⟩
    rw [hl] at hi
    have := hc i (by omega)
    have e2 : (l.take p).getD i zero = l.getD i zero := by
      rw [List.getD_eq_getElem?_getD, List.getD_eq_getElem?_getD, List.getElem?_take_of_lt hi]
    rw [e2]
    exact this

theorem fit_mem {l : List Ses} (hf : ∀ s ∈ l, SesFit s) (h : 0 < l.length) : SesFit (besOf l) := by
  obtain ⟨j, h1, h2, -, -⟩ := besOf_spec h
  rw [h2]
  exact hf _ (sat_mem h1)

set_option maxHeartbeats 12800000 in
set_option maxRecDepth 100000 in
theorem bonly_few {w : World} {v u : Value} {l m : List Ses} (hv : Sess w v l) (hf : ∀ s ∈ l, SesFit s) (hu : Sess w u m) (hg : ∀ s ∈ m, SesFit s) (hl : l.length ≤ 30) (hm : m.length ≤ 30) (hw : fewSes l = true) (hw' : fewSes m = true) (h0 : 0 < l.length) (h1 : 0 < m.length) :
    Calls Try.prog 8 #[v, u] w fun e w' => e = .returned (.bool true) ∧ Below w.heap.size w w' := by
  have HF1 := Lib.hid (few09_eq hv hw)
  have HF2 := Lib.hid (few09_eq hu hw')
  obtain ⟨⟨n0, i0, ⟨a0, b0, c0, s0⟩⟩, hs0⟩ : ∃ s, sat l 0 = s := ⟨_, rfl⟩
  obtain ⟨⟨xn, xi, ⟨xa, xb, xc, xs⟩⟩, hx⟩ : ∃ s, besOf l = s := ⟨_, rfl⟩
  obtain ⟨⟨yn, yi, ⟨ya, yb, yc, ys⟩⟩, hy⟩ : ∃ s, besOf m = s := ⟨_, rfl⟩
  obtain ⟨⟨zn, zi, ⟨za, zb, zc, zs⟩⟩, hz⟩ : ∃ s, besOf (l ++ m) = s := ⟨_, rfl⟩
  obtain ⟨⟨pa, pb, pc, ps⟩, hp⟩ : ∃ s, besV l = s := ⟨_, rfl⟩
  have hz2 : besOf [(⟨xn, xi, ⟨xa, xb, xc, xs⟩⟩ : Ses), ⟨yn, yi, ⟨ya, yb, yc, ys⟩⟩] = ⟨zn, zi, ⟨za, zb, zc, zs⟩⟩ := by rw [← hx, ← hy, ← besOf_append h0 h1, hz]
  have hfx := fit_mem hf h0
  have hfy := fit_mem hg h1
  rw [hx] at hfx
  rw [hy] at hfy
  have C1 : Hid (∀ w' a cap, Sess w' (.slice a l.length cap) l → Calls Try.prog 33 #[.slice a 1 cap] w' fun e w'' => e = .returned (.tuple #[.agg #[.int .i64 a0, .int .i64 b0, .int .i64 c0, .string ⟨s0.toArray⟩], .bool true]) ∧ Below w'.heap.size w' w'') :=
    Lib.hid (fun w' a cap h => bvalue_yes (RdS.take h 1 h0) (fun s hs => hf s (List.mem_of_mem_take hs)) (by rw [List.length_take]; omega) (by rw [besV_one h0, hs0]))
  have C2 : Hid (∀ w' v', Sess w' v' l → Calls Try.prog 31 #[v'] w' fun e w'' => e = .returned (.tuple #[.agg #[.string ⟨xn.toArray⟩, .int .i64 xi, .int .i64 xa, .int .i64 xb, .int .i64 xc, .string ⟨xs.toArray⟩], .bool true]) ∧ Below w'.heap.size w' w'') := Lib.hid (fun w' v' h => best_yes h hf h0 hx)
  have C3 : Hid (∀ w' v', Sess w' v' m → Calls Try.prog 31 #[v'] w' fun e w'' => e = .returned (.tuple #[.agg #[.string ⟨yn.toArray⟩, .int .i64 yi, .int .i64 ya, .int .i64 yb, .int .i64 yc, .string ⟨ys.toArray⟩], .bool true]) ∧ Below w'.heap.size w' w'') := Lib.hid (fun w' v' h => best_yes h hg h1 hy)
  have C4 : Hid (∀ w' v', Sess w' v' (l ++ m) → Calls Try.prog 31 #[v'] w' fun e w'' => e = .returned (.tuple #[.agg #[.string ⟨zn.toArray⟩, .int .i64 zi, .int .i64 za, .int .i64 zb, .int .i64 zc, .string ⟨zs.toArray⟩], .bool true]) ∧ Below w'.heap.size w' w'') := Lib.hid (fun w' v' h => best_yes h (fun s hs => (List.mem_append.1 hs).elim (hf s) (hg s)) (by rw [List.length_append]; omega) hz)
  have C5 : Hid (∀ (w' : World) (B : Nat), B = w'.heap.size → Calls Try.prog 31 #[.slice (some ⟨B, 0, none⟩) 2 2] (w'.alloc (.cells #[.string ⟨xn.toArray⟩, .int .i64 xi, .int .i64 xa, .int .i64 xb, .int .i64 xc, .string ⟨xs.toArray⟩, .string ⟨yn.toArray⟩, .int .i64 yi, .int .i64 ya, .int .i64 yb, .int .i64 yc, .string ⟨ys.toArray⟩] 54)) fun e w'' => e = .returned (.tuple #[.agg #[.string ⟨zn.toArray⟩, .int .i64 zi, .int .i64 za, .int .i64 zb, .int .i64 zc, .string ⟨zs.toArray⟩], .bool true]) ∧ Below (w'.alloc (.cells #[.string ⟨xn.toArray⟩, .int .i64 xi, .int .i64 xa, .int .i64 xb, .int .i64 xc, .string ⟨xs.toArray⟩, .string ⟨yn.toArray⟩, .int .i64 yi, .int .i64 ya, .int .i64 yb, .int .i64 yc, .string ⟨ys.toArray⟩] 54)).heap.size (w'.alloc (.cells #[.string ⟨xn.toArray⟩, .int .i64 xi, .int .i64 xa, .int .i64 xb, .int .i64 xc, .string ⟨xs.toArray⟩, .string ⟨yn.toArray⟩, .int .i64 yi, .int .i64 ya, .int .i64 yb, .int .i64 yc, .string ⟨ys.toArray⟩] 54)) w'') :=
    Lib.hid (fun w' B hB => best_yes (rdS_made sesOK (l := [⟨xn, xi, ⟨xa, xb, xc, xs⟩⟩, ⟨yn, yi, ⟨ya, yb, yc, ys⟩⟩]) rfl (by simp) hB) (fun s hs => by
      simp only [List.mem_cons, List.not_mem_nil, or_false] at hs
      rcases hs with rfl | rfl
      · exact hfx
      · exact hfy) (by simp) hz2)
  have C6 : Hid (∀ w' v', Sess w' v' l → Calls Try.prog 33 #[v'] w' fun e w'' => e = .returned (.tuple #[.agg #[.int .i64 pa, .int .i64 pb, .int .i64 pc, .string ⟨ps.toArray⟩], .bool true]) ∧ Below w'.heap.size w' w'') := Lib.hid (fun w' v' h => bvalue_yes h hf h0 hp)
  have C7 : Hid (∀ w' v', Sess w' v' (l.map ren) → Calls Try.prog 33 #[v'] w' fun e w'' => e = .returned (.tuple #[.agg #[.int .i64 pa, .int .i64 pb, .int .i64 pc, .string ⟨ps.toArray⟩], .bool true]) ∧ Below w'.heap.size w' w'') :=
    Lib.hid (fun w' v' h => bvalue_yes h (fun s hs => by
      obtain ⟨t, ht, rfl⟩ := List.mem_map.1 hs
      exact ⟨(hf t ht).id, (hf t ht).sh, (hf t ht).pr, (hf t ht).si⟩) (by rw [List.length_map]; exact h0) (by rw [besV_ren h0, hp]))
  have HV := Lib.hid hv
  have HU := Lib.hid hu
  obtain ⟨ao, cap, rfl, hm1⟩ := hv.open'
  obtain ⟨au, cup, rfl, hm2⟩ := hu.open'
  obtain ⟨lb, lo, rfl, hc0⟩ := hv.row (Below.refl _ _) 0 h0
  obtain ⟨mb, mo, rfl, -⟩ := hu.row (Below.refl _ _) 0 h1
  have HS0 := Lib.hid hs0
  have hcap : (1 : Int) ≤ (cap : Int) := by
    obtain ⟨a', cap', e, g1, -⟩ := hv
    simp only [Value.slice.injEq] at e
    obtain ⟨-, -, rfl⟩ := e
    omega
  have t0 : decide (30 < (l.length : Int)) = false := by simp; omega
  have t1 : decide (30 < (m.length : Int)) = false := by simp; omega
  have t2 : ((l.length : Int) == 0) = false := by rw [beq_eq_false_iff_ne]; omega
  have t3 : ((m.length : Int) == 0) = false := by rw [beq_eq_false_iff_ne]; omega
  have e1 : ∀ w, (binOp .eql 50 (.agg #[.int .i64 a0, .int .i64 b0, .int .i64 c0, .string ⟨s0.toArray⟩]) (.agg #[.int .i64 a0, .int .i64 b0, .int .i64 c0, .string ⟨s0.toArray⟩])).run Try.prog w = .ok (.bool true) w := fun w => by rw [val_eql, valSame_iff.2 rfl]
  have e2 : ∀ w, (binOp .eql 54 (.agg #[.string ⟨zn.toArray⟩, .int .i64 zi, .int .i64 za, .int .i64 zb, .int .i64 zc, .string ⟨zs.toArray⟩]) (.agg #[.string ⟨zn.toArray⟩, .int .i64 zi, .int .i64 za, .int .i64 zb, .int .i64 zc, .string ⟨zs.toArray⟩])).run Try.prog w = .ok (.bool true) w := fun w => by rw [ses_eql, sesSame_self]
  have e3 : ∀ w, (binOp .eql 50 (.agg #[.int .i64 pa, .int .i64 pb, .int .i64 pc, .string ⟨ps.toArray⟩]) (.agg #[.int .i64 pa, .int .i64 pb, .int .i64 pc, .string ⟨ps.toArray⟩])).run Try.prog w = .ok (.bool true) w := fun w => by rw [val_eql, valSame_iff.2 rfl]
  clear hv hf hu hg hw hw' hs0 hx hy hz hp hz2 hfx hfy hc0
  go_enter Try.func8, Try.ntmps8
  go_wp2_with fail
  refine HF1.out.mono ?_
  rintro e w1 ⟨rfl, rfl⟩
  go_wp2_with fail
  refine HF2.out.mono ?_
  rintro e w1 ⟨rfl, rfl⟩
  clear HF1 HF2
  go_wp2_with fail
  refine (C1.out _ _ _ HV.out).mono ?_
  rintro e w1 ⟨rfl, b1⟩
  have BB := Lib.hid (Below.refl w.heap.size w)
  have b2 := below2Z b1 (bl_newZ w1 (.cells #[.int .i64 a0, .int .i64 b0, .int .i64 c0, .string ⟨s0.toArray⟩] 50))
  replace HV := Lib.hid (HV.out.later b2)
  replace HU := Lib.hid (HU.out.later b2)
  replace BB := Lib.hid (below2Z BB.out b2)
  have H5 := Lib.hid (cellsAt_made (w := w1) (cs := #[.int .i64 a0, .int .i64 b0, .int .i64 c0, .string ⟨s0.toArray⟩]) (vs := [.int .i64 a0, .int .i64 b0, .int .i64 c0, .string ⟨s0.toArray⟩]) rfl 50 rfl)
  clear b1 b2
  go_wp2_with fail
  generalize w1.alloc (.cells #[.int .i64 a0, .int .i64 b0, .int .i64 c0, .string ⟨s0.toArray⟩] 50) = W1 at HV HU BB H5 ⊢
  generalize w1.heap.size = P5 at H5 ⊢
  refine (C2.out _ _ HV.out).mono ?_
  rintro e w2 ⟨rfl, b1⟩
  have b2 := below2Z b1 (bl_newZ w2 (.cells #[.string ⟨xn.toArray⟩, .int .i64 xi, .int .i64 xa, .int .i64 xb, .int .i64 xc, .string ⟨xs.toArray⟩] 54))
  replace HV := Lib.hid (HV.out.later b2)
  replace HU := Lib.hid (HU.out.later b2)
  replace H5 := Lib.hid (H5.out.later b2)
  replace BB := Lib.hid (below2Z BB.out b2)
  have H7 := Lib.hid (cellsAt_made (w := w2) (cs := #[.string ⟨xn.toArray⟩, .int .i64 xi, .int .i64 xa, .int .i64 xb, .int .i64 xc, .string ⟨xs.toArray⟩]) (vs := [.string ⟨xn.toArray⟩, .int .i64 xi, .int .i64 xa, .int .i64 xb, .int .i64 xc, .string ⟨xs.toArray⟩]) rfl 54 rfl)
  clear b1 b2
  go_wp2_with fail
  generalize w2.alloc (.cells #[.string ⟨xn.toArray⟩, .int .i64 xi, .int .i64 xa, .int .i64 xb, .int .i64 xc, .string ⟨xs.toArray⟩] 54) = W2 at HV HU BB H5 H7 ⊢
  generalize w2.heap.size = P7 at H7 ⊢
  refine (C3.out _ _ HU.out).mono ?_
  rintro e w3 ⟨rfl, b1⟩
  have b2 := below2Z b1 (bl_newZ w3 (.cells #[.string ⟨yn.toArray⟩, .int .i64 yi, .int .i64 ya, .int .i64 yb, .int .i64 yc, .string ⟨ys.toArray⟩] 54))
  replace HV := Lib.hid (HV.out.later b2)
  replace HU := Lib.hid (HU.out.later b2)
  replace H5 := Lib.hid (H5.out.later b2)
  replace H7 := Lib.hid (H7.out.later b2)
  replace BB := Lib.hid (below2Z BB.out b2)
  have H9 := Lib.hid (cellsAt_made (w := w3) (cs := #[.string ⟨yn.toArray⟩, .int .i64 yi, .int .i64 ya, .int .i64 yb, .int .i64 yc, .string ⟨ys.toArray⟩]) (vs := [.string ⟨yn.toArray⟩, .int .i64 yi, .int .i64 ya, .int .i64 yb, .int .i64 yc, .string ⟨ys.toArray⟩]) rfl 54 rfl)
  clear b1 b2
  have hlm : l.length + m.length < 4294967296 := by omega
  have o0 := ownS_made (vals := sesVals) (sz := 6) (T := 54) (w3.alloc (.cells #[.string ⟨yn.toArray⟩, .int .i64 yi, .int .i64 ya, .int .i64 yb, .int .i64 yc, .string ⟨ys.toArray⟩] 54))
  rw [World.size_alloc] at o0
  have O0 := Lib.hid o0
  have bz := bl_newZ (w3.alloc (.cells #[.string ⟨yn.toArray⟩, .int .i64 yi, .int .i64 ya, .int .i64 yb, .int .i64 yc, .string ⟨ys.toArray⟩] 54)) (.cells #[] 54)
  have SV := Lib.hid ((HV.out.later bz).src sesOK)
  clear o0 bz
  go_wp2_with (at_builtin; refine wpList_append_S sesOK rfl _ _ rfl (w3.heap.size + 1) _ [] rfl O0.out (some ⟨lb, lo, none⟩) l.length cap l rfl rfl (fun e => by cases e) (fun ad h => by cases h; exact SV.out) (by simp; omega) (by rw [World.size_alloc, World.size_alloc]; omega) ?_)
  intro v4 w4 h4 b4
  have hW3s : (w3.alloc (.cells #[.string ⟨yn.toArray⟩, .int .i64 yi, .int .i64 ya, .int .i64 yb, .int .i64 yc, .string ⟨ys.toArray⟩] 54)).heap.size = w3.heap.size + 1 := World.size_alloc _ _
  have b34 : Below (w3.alloc (.cells #[.string ⟨yn.toArray⟩, .int .i64 yi, .int .i64 ya, .int .i64 yb, .int .i64 yc, .string ⟨ys.toArray⟩] 54)).heap.size (w3.alloc (.cells #[.string ⟨yn.toArray⟩, .int .i64 yi, .int .i64 ya, .int .i64 yb, .int .i64 yc, .string ⟨ys.toArray⟩] 54)) w4 := by
    rw [hW3s]
    exact (hW3s ▸ bl_newZ (w3.alloc (.cells #[.string ⟨yn.toArray⟩, .int .i64 yi, .int .i64 ya, .int .i64 yb, .int .i64 yc, .string ⟨ys.toArray⟩] 54)) (.cells #[] 54) : Below (w3.heap.size + 1) (w3.alloc (.cells #[.string ⟨yn.toArray⟩, .int .i64 yi, .int .i64 ya, .int .i64 yb, .int .i64 yc, .string ⟨ys.toArray⟩] 54)) _).trans b4
  have O4 := Lib.hid h4
  have SU := Lib.hid ((HU.out.later b34).src sesOK)
  have hs4 : w3.heap.size + 1 ≤ w4.heap.size := by have := b34.size; rw [hW3s] at this; exact this
  clear h4 b4
  go_wp2_with (at_builtin; refine wpList_append_S sesOK rfl _ _ rfl (w3.heap.size + 1) _ l rfl O4.out (some ⟨mb, mo, none⟩) m.length cup m rfl rfl (fun e => by cases e) (fun ad h => by cases h; exact SU.out) hlm hs4 ?_)
  intro v5 w5 h5 b5
  have b35 : Below (w3.alloc (.cells #[.string ⟨yn.toArray⟩, .int .i64 yi, .int .i64 ya, .int .i64 yb, .int .i64 yc, .string ⟨ys.toArray⟩] 54)).heap.size (w3.alloc (.cells #[.string ⟨yn.toArray⟩, .int .i64 yi, .int .i64 ya, .int .i64 yb, .int .i64 yc, .string ⟨ys.toArray⟩] 54)) w5 := b34.trans (by rw [hW3s]; exact b5)
  have O5 := Lib.hid (h5.rd sesOK)
  clear h5 b5 b34 O4 O0 SU SV hs4
  go_wp2_with fail
  refine (C4.out _ _ O5.out).mono ?_
  rintro e w6 ⟨rfl, b6⟩
  have b1 := b35.trans (b6.mono (by rw [hW3s]; have := b35.size; rw [hW3s] at this; exact this))
  replace HV := Lib.hid (HV.out.later b1)
  replace HU := Lib.hid (HU.out.later b1)
  replace H5 := Lib.hid (H5.out.later b1)
  replace H7 := Lib.hid (H7.out.later b1)
  replace H9 := Lib.hid (H9.out.later b1)
  replace BB := Lib.hid (below2Z BB.out b1)
  clear b1 b35 b6 O5 hW3s
  have b1 := Below.refl w6.heap.size w6
  have b2 := below2Z b1 (bl_newZ w6 (.cells #[.string ⟨zn.toArray⟩, .int .i64 zi, .int .i64 za, .int .i64 zb, .int .i64 zc, .string ⟨zs.toArray⟩] 54))
  replace HV := Lib.hid (HV.out.later b2)
  replace HU := Lib.hid (HU.out.later b2)
  replace H5 := Lib.hid (H5.out.later b2)
  replace H7 := Lib.hid (H7.out.later b2)
  replace H9 := Lib.hid (H9.out.later b2)
  replace BB := Lib.hid (below2Z BB.out b2)
  have H11 := Lib.hid (cellsAt_made (w := w6) (cs := #[.string ⟨zn.toArray⟩, .int .i64 zi, .int .i64 za, .int .i64 zb, .int .i64 zc, .string ⟨zs.toArray⟩]) (vs := [.string ⟨zn.toArray⟩, .int .i64 zi, .int .i64 za, .int .i64 zb, .int .i64 zc, .string ⟨zs.toArray⟩]) rfl 54 rfl)
  clear b1 b2
  obtain ⟨p0, p1, p2, p3, p4, p5⟩ := cells6 (s := ⟨xn, xi, ⟨xa, xb, xc, xs⟩⟩) H7.out
  obtain ⟨q0, q1, q2, q3, q4, q5⟩ := cells6 (s := ⟨yn, yi, ⟨ya, yb, yc, ys⟩⟩) H9.out
  simp only [Nat.zero_add] at p0 p1 p2 p3 p4 p5 q0 q1 q2 q3 q4 q5
  go_wp2_with fail
  generalize hW6 : w6.alloc (.cells #[.string ⟨zn.toArray⟩, .int .i64 zi, .int .i64 za, .int .i64 zb, .int .i64 zc, .string ⟨zs.toArray⟩] 54) = W6 at HV HU BB H5 H7 H9 H11 ⊢
  have hs6 : w6.heap.size + 1 = W6.heap.size := by rw [← hW6]; simp
  generalize w6.heap.size = P11 at H11 hs6 ⊢
  clear hW6 p0 p1 p2 p3 p4 p5 q0 q1 q2 q3 q4 q5
  refine (C5.out W6 _ hs6).mono ?_
  rintro e w7 ⟨rfl, b7⟩
  have b1 := below2Z (bl_newZ W6 (.cells #[.string ⟨xn.toArray⟩, .int .i64 xi, .int .i64 xa, .int .i64 xb, .int .i64 xc, .string ⟨xs.toArray⟩, .string ⟨yn.toArray⟩, .int .i64 yi, .int .i64 ya, .int .i64 yb, .int .i64 yc, .string ⟨ys.toArray⟩] 54)) b7
  clear b7 hs6
  have b2 := below2Z b1 (bl_newZ w7 (.cells #[.string ⟨zn.toArray⟩, .int .i64 zi, .int .i64 za, .int .i64 zb, .int .i64 zc, .string ⟨zs.toArray⟩] 54))
  replace HV := Lib.hid (HV.out.later b2)
  replace HU := Lib.hid (HU.out.later b2)
  replace H5 := Lib.hid (H5.out.later b2)
  replace H7 := Lib.hid (H7.out.later b2)
  replace H9 := Lib.hid (H9.out.later b2)
  replace H11 := Lib.hid (H11.out.later b2)
  replace BB := Lib.hid (below2Z BB.out b2)
  have H13 := Lib.hid (cellsAt_made (w := w7) (cs := #[.string ⟨zn.toArray⟩, .int .i64 zi, .int .i64 za, .int .i64 zb, .int .i64 zc, .string ⟨zs.toArray⟩]) (vs := [.string ⟨zn.toArray⟩, .int .i64 zi, .int .i64 za, .int .i64 zb, .int .i64 zc, .string ⟨zs.toArray⟩]) rfl 54 rfl)
  clear b1 b2
  go_wp2_with fail
  generalize w7.alloc (.cells #[.string ⟨zn.toArray⟩, .int .i64 zi, .int .i64 za, .int .i64 zb, .int .i64 zc, .string ⟨zs.toArray⟩] 54) = W7 at HV HU BB H5 H7 H9 H11 H13 ⊢
  generalize w7.heap.size = P13 at H13 ⊢
  clear hlm
  go_loopw [15, 16, 17] (fun o t _ wr => ∃ k : Nat, k ≤ l.length ∧ t = .int .i64 k ∧ Hid (OwnS sesVals 6 54 wr W7.heap.size o ((l.map ren).take k)) ∧ Hid (Below W7.heap.size W7 wr)) (fun _ t _ _ => l.length - (intOf t).toNat)
  case atStart => exact ⟨0, by omega, rfl, ownS_nil _ _, Below.refl _ _⟩
  case round =>
    obtain ⟨k, hk, rfl, HO, HN⟩ := hrel
    by_cases hlt : k < l.length
    · obtain ⟨bd, od, ead, hc⟩ := HV.out.row HN.out k hlt
      rw [Option.some.injEq, Addr.mk.injEq] at ead
      obtain ⟨rfl, rfl, -⟩ := ead
      rw [show l.getD k Ses.zero = sat l k from rfl] at hc
      have hnx : (l.map ren).take (k + 1) = (l.map ren).take k ++ [ren (sat l k)] := by
        rw [List.take_succ_eq_append_getElem (by rw [List.length_map]; exact hlt), List.getElem_map, show sat l k = l[k] from sgetDB hlt]
      obtain ⟨⟨kn, ki, ⟨ka, kb, kc, ks⟩⟩, hx⟩ : ∃ s, sat l k = s := ⟨_, rfl⟩
      rw [hx] at hc hnx
      have HNX := Lib.hid hnx
      obtain ⟨s0, s1, s2, s3, s4, s5⟩ := cells6 hc
      try simp only at s0 s1 s2 s3 s4 s5
      have O2 := Lib.hid ((HO.out.alloc (.cells #[.string ⟨#[111, 116, 104, 101, 114]⟩, .int .i64 ki, .int .i64 ka, .int .i64 kb, .int .i64 kc, .string ⟨ks.toArray⟩] 54)).alloc (.cells #[.string ⟨#[111, 116, 104, 101, 114]⟩, .int .i64 ki, .int .i64 ka, .int .i64 kb, .int .i64 kc, .string ⟨ks.toArray⟩] 54))
      have c2 : SrcS sesVals ((wr.alloc (.cells #[.string ⟨#[111, 116, 104, 101, 114]⟩, .int .i64 ki, .int .i64 ka, .int .i64 kb, .int .i64 kc, .string ⟨ks.toArray⟩] 54)).alloc (.cells #[.string ⟨#[111, 116, 104, 101, 114]⟩, .int .i64 ki, .int .i64 ka, .int .i64 kb, .int .i64 kc, .string ⟨ks.toArray⟩] 54)) ⟨(wr.alloc (.cells #[.string ⟨#[111, 116, 104, 101, 114]⟩, .int .i64 ki, .int .i64 ka, .int .i64 kb, .int .i64 kc, .string ⟨ks.toArray⟩] 54)).heap.size, 0, none⟩ [ren ⟨kn, ki, ⟨ka, kb, kc, ks⟩⟩] := srcS_new (vals := sesVals) (w := wr.alloc (.cells #[.string ⟨#[111, 116, 104, 101, 114]⟩, .int .i64 ki, .int .i64 ka, .int .i64 kb, .int .i64 kc, .string ⟨ks.toArray⟩] 54)) (r := ren ⟨kn, ki, ⟨ka, kb, kc, ks⟩⟩) rfl rfl _ rfl
      rw [World.size_alloc] at c2
      have C2' := Lib.hid c2
      have hsN := HN.out.size
      have BN := Lib.hid (show Below W7.heap.size W7 ((wr.alloc (.cells #[.string ⟨#[111, 116, 104, 101, 114]⟩, .int .i64 ki, .int .i64 ka, .int .i64 kb, .int .i64 kc, .string ⟨ks.toArray⟩] 54)).alloc (.cells #[.string ⟨#[111, 116, 104, 101, 114]⟩, .int .i64 ki, .int .i64 ka, .int .i64 kb, .int .i64 kc, .string ⟨ks.toArray⟩] 54)) from (HN.out.alloc hsN _).alloc (by rw [World.size_alloc]; omega) _)
      have hl7 : ((l.map ren).take k).length + [ren ⟨kn, ki, ⟨ka, kb, kc, ks⟩⟩].length < 4294967296 := by
        rw [List.length_take, List.length_map]
        simp
        omega
      have t4 : (0 : Int) ≤ (k : Int) := by omega
      have t5 : (k : Int) < (l.length : Int) := by omega
      clear hx hc hnx c2
      go_wp2_with (at_builtin; (refine wpList_append_S sesOK rfl _ _ rfl W7.heap.size _ ((l.map ren).take k) rfl O2.out (some ⟨wr.heap.size + 1, 0, none⟩) 1 1 [ren ⟨kn, ki, ⟨ka, kb, kc, ks⟩⟩] rfl rfl (fun e => by cases e) (fun ad h => by cases h; exact C2'.out) hl7 (by rw [World.size_alloc, World.size_alloc]; omega) ?_))
      intro v' w' hown hb
      rw [← HNX.out] at hown
      have O3 := Lib.hid hown
      have N3 := Lib.hid (BN.out.trans hb)
      clear hown hb O2 s0 s1 s2 s3 s4 s5
      go_wp2_with fail
      go_roundw
      case rel => exact ⟨k + 1, by omega, by go_num, O3, N3⟩
      case measure => simp [intOf]; omega
    · obtain rfl : k = l.length := by omega
      have ho := HO.out
      rw [List.take_of_length_le (by rw [List.length_map]; exact Nat.le_refl _)] at ho
      have RO := Lib.hid (ho.rd sesOK)
      have b1 := HN.out
      replace HV := Lib.hid (HV.out.later b1)
      replace H5 := Lib.hid (H5.out.later b1)
      replace H7 := Lib.hid (H7.out.later b1)
      replace H9 := Lib.hid (H9.out.later b1)
      replace H11 := Lib.hid (H11.out.later b1)
      replace H13 := Lib.hid (H13.out.later b1)
      replace BB := Lib.hid (below2Z BB.out b1)
      clear b1 ho HO HN
      go_wp2_with fail
      refine (C6.out _ _ HV.out).mono ?_
      rintro e w8 ⟨rfl, b1⟩
      have b2 := below2Z b1 (bl_newZ w8 (.cells #[.int .i64 pa, .int .i64 pb, .int .i64 pc, .string ⟨ps.toArray⟩] 50))
      replace HV := Lib.hid (HV.out.later b2)
      replace RO := Lib.hid (RO.out.later b2)
      replace H5 := Lib.hid (H5.out.later b2)
      replace H7 := Lib.hid (H7.out.later b2)
      replace H9 := Lib.hid (H9.out.later b2)
      replace H11 := Lib.hid (H11.out.later b2)
      replace H13 := Lib.hid (H13.out.later b2)
      replace BB := Lib.hid (below2Z BB.out b2)
      have H18 := Lib.hid (cellsAt_made (w := w8) (cs := #[.int .i64 pa, .int .i64 pb, .int .i64 pc, .string ⟨ps.toArray⟩]) (vs := [.int .i64 pa, .int .i64 pb, .int .i64 pc, .string ⟨ps.toArray⟩]) rfl 50 rfl)
      clear b1 b2
      go_wp2_with fail
      refine (C7.out _ _ RO.out).mono ?_
      rintro e w9 ⟨rfl, b1⟩
      have b2 := below2Z b1 (bl_newZ w9 (.cells #[.int .i64 pa, .int .i64 pb, .int .i64 pc, .string ⟨ps.toArray⟩] 50))
      replace HV := Lib.hid (HV.out.later b2)
      replace H5 := Lib.hid (H5.out.later b2)
      replace H7 := Lib.hid (H7.out.later b2)
      replace H9 := Lib.hid (H9.out.later b2)
      replace H11 := Lib.hid (H11.out.later b2)
      replace H13 := Lib.hid (H13.out.later b2)
      replace H18 := Lib.hid (H18.out.later b2)
      replace BB := Lib.hid (below2Z BB.out b2)
      have H20 := Lib.hid (cellsAt_made (w := w9) (cs := #[.int .i64 pa, .int .i64 pb, .int .i64 pc, .string ⟨ps.toArray⟩]) (vs := [.int .i64 pa, .int .i64 pb, .int .i64 pc, .string ⟨ps.toArray⟩]) rfl 50 rfl)
      obtain ⟨W9, hW9⟩ : ∃ W, W = w9.alloc (.cells #[.int .i64 pa, .int .i64 pb, .int .i64 pc, .string ⟨ps.toArray⟩] 50) := ⟨_, rfl⟩
      rw [← hW9] at HV BB H5 H7 H9 H11 H13 H18 H20
      clear b1 b2
      go_wp2_with fail
      rw [← hW9]
      clear hW9
      obtain ⟨bd, od, ead, hc⟩ := HV.out.row (Below.refl _ _) 0 h0
      rw [Option.some.injEq, Addr.mk.injEq] at ead
      obtain ⟨rfl, rfl, -⟩ := ead
      rw [show l.getD 0 Ses.zero = sat l 0 from rfl, HS0.out] at hc
      obtain ⟨s0, s1, s2, s3, s4, s5⟩ := cells6_regrown hc
      obtain ⟨a0', a1, a2, a3⟩ := cells4v H5.out
      obtain ⟨c0, c1, c2, c3⟩ := cells4v H18.out
      obtain ⟨d0, d1, d2, d3⟩ := cells4v H20.out
      obtain ⟨p0, p1, p2, p3, p4, p5⟩ := cells6_regrown (s := ⟨zn, zi, ⟨za, zb, zc, zs⟩⟩) H11.out
      obtain ⟨q0, q1, q2, q3, q4, q5⟩ := cells6_regrown (s := ⟨zn, zi, ⟨za, zb, zc, zs⟩⟩) H13.out
      replace a0' := cell_regrown a0'
      replace a1 := cell_regrown a1
      replace a2 := cell_regrown a2
      replace a3 := cell_regrown a3
      replace c0 := cell_regrown c0
      replace c1 := cell_regrown c1
      replace c2 := cell_regrown c2
      replace c3 := cell_regrown c3
      replace d0 := cell_regrown d0
      replace d1 := cell_regrown d1
      replace d2 := cell_regrown d2
      replace d3 := cell_regrown d3
      simp only [Nat.zero_add, Nat.zero_mul, Nat.add_zero] at s0 s1 s2 s3 s4 s5 a0' a1 a2 a3 c0 c1 c2 c3 d0 d1 d2 d3 p0 p1 p2 p3 p4 p5 q0 q1 q2 q3 q4 q5
      have t4 : (0 : Int) < (l.length : Int) := by omega
      refine wp_region_quiet_below (by kernel_rfl) (by kernel_rfl) ?_
      repeat (go_big_quiet_step (first | with_reducible exact rgB live11 _ _ _))
      refine wpQuiet_nil ?_
      intro wz hw
      have b7 := regrownZ hw
      replace BB := Lib.hid (below2Z BB.out b7)
      clear hw b7
      go_wp2_with fail
      go_ret
      exact ⟨rfl, BB.out⟩

set_option maxHeartbeats 800000 in
set_option maxRecDepth 100000 in
theorem bonly_1 {w : World} {v u : Value} {l m : List Ses} (hv : Sess w v l) (hu : Sess w u m) (h1 : ¬ l.length ≤ 30) :
    Calls Try.prog 8 #[v, u] w fun e w' => e = .returned (.bool true) ∧ Below w.heap.size w w' := by
  have t0 : decide (30 < (l.length : Int)) = true := by simp; omega
  obtain ⟨ao, cap, rfl, hm1⟩ := hv.open'
  obtain ⟨au, cup, rfl, hm2⟩ := hu.open'
  clear hv hu
  go_enter Try.func8, Try.ntmps8
  go_wp2_with fail
  refine (live11 _).mono ?_
  rintro e w3 ⟨rfl, b1⟩
  have BB := Lib.hid b1
  clear b1
  go_wp2_with fail
  go_ret
  exact ⟨rfl, BB.out⟩

set_option maxHeartbeats 800000 in
set_option maxRecDepth 100000 in
theorem bonly_2 {w : World} {v u : Value} {l m : List Ses} (hv : Sess w v l) (hu : Sess w u m) (h1 : l.length ≤ 30) (h2 : ¬ m.length ≤ 30) :
    Calls Try.prog 8 #[v, u] w fun e w' => e = .returned (.bool true) ∧ Below w.heap.size w w' := by
  have t0 : decide (30 < (l.length : Int)) = false := by simp; omega
  have t1 : decide (30 < (m.length : Int)) = true := by simp; omega
  obtain ⟨ao, cap, rfl, hm1⟩ := hv.open'
  obtain ⟨au, cup, rfl, hm2⟩ := hu.open'
  clear hv hu
  go_enter Try.func8, Try.ntmps8
  go_wp2_with fail
  refine (live11 _).mono ?_
  rintro e w3 ⟨rfl, b1⟩
  have BB := Lib.hid b1
  clear b1
  go_wp2_with fail
  go_ret
  exact ⟨rfl, BB.out⟩

set_option maxHeartbeats 800000 in
set_option maxRecDepth 100000 in
theorem bonly_3 {w : World} {v u : Value} {l m : List Ses} (hv : Sess w v l) (hu : Sess w u m) (h1 : l.length ≤ 30) (h2 : m.length ≤ 30) (hw : fewSes l = false) :
    Calls Try.prog 8 #[v, u] w fun e w' => e = .returned (.bool true) ∧ Below w.heap.size w w' := by
  have t0 : decide (30 < (l.length : Int)) = false := by simp; omega
  have t1 : decide (30 < (m.length : Int)) = false := by simp; omega
  have HF1 := Lib.hid (few09_eq hv hw)
  obtain ⟨ao, cap, rfl, hm1⟩ := hv.open'
  obtain ⟨au, cup, rfl, hm2⟩ := hu.open'
  clear hv hu
  go_enter Try.func8, Try.ntmps8
  go_wp2_with fail
  refine HF1.out.mono ?_
  rintro e w1 ⟨rfl, rfl⟩
  go_wp2_with fail
  refine (live11 _).mono ?_
  rintro e w3 ⟨rfl, b1⟩
  have BB := Lib.hid b1
  clear b1
  go_wp2_with fail
  go_ret
  exact ⟨rfl, BB.out⟩

set_option maxHeartbeats 800000 in
set_option maxRecDepth 100000 in
theorem bonly_4 {w : World} {v u : Value} {l m : List Ses} (hv : Sess w v l) (hu : Sess w u m) (h1 : l.length ≤ 30) (h2 : m.length ≤ 30) (hw : fewSes l = true) (hw' : fewSes m = false) :
    Calls Try.prog 8 #[v, u] w fun e w' => e = .returned (.bool true) ∧ Below w.heap.size w w' := by
  have t0 : decide (30 < (l.length : Int)) = false := by simp; omega
  have t1 : decide (30 < (m.length : Int)) = false := by simp; omega
  have HF1 := Lib.hid (few09_eq hv hw)
  have HF2 := Lib.hid (few09_eq hu hw')
  obtain ⟨ao, cap, rfl, hm1⟩ := hv.open'
  obtain ⟨au, cup, rfl, hm2⟩ := hu.open'
  clear hv hu
  go_enter Try.func8, Try.ntmps8
  go_wp2_with fail
  refine HF1.out.mono ?_
  rintro e w1 ⟨rfl, rfl⟩
  go_wp2_with fail
  refine HF2.out.mono ?_
  rintro e w1 ⟨rfl, rfl⟩
  go_wp2_with fail
  refine (live11 _).mono ?_
  rintro e w3 ⟨rfl, b1⟩
  have BB := Lib.hid b1
  clear b1
  go_wp2_with fail
  go_ret
  exact ⟨rfl, BB.out⟩

set_option maxHeartbeats 800000 in
set_option maxRecDepth 100000 in
theorem bonly_5 {w : World} {v u : Value} {l m : List Ses} (hv : Sess w v l) (hu : Sess w u m) (h1 : l.length ≤ 30) (h2 : m.length ≤ 30) (hw : fewSes l = true) (hw' : fewSes m = true) (h3 : l = []) :
    Calls Try.prog 8 #[v, u] w fun e w' => e = .returned (.bool true) ∧ Below w.heap.size w w' := by
  have t1 : decide (30 < (m.length : Int)) = false := by simp; omega
  have HF1 := Lib.hid (few09_eq hv hw)
  have HF2 := Lib.hid (few09_eq hu hw')
  obtain ⟨ao, cap, rfl, hm1⟩ := hv.open'
  obtain ⟨au, cup, rfl, hm2⟩ := hu.open'
  subst h3
  simp only [List.length_nil] at HF1 ⊢
  clear hv hu
  go_enter Try.func8, Try.ntmps8
  go_wp2_with fail
  refine HF1.out.mono ?_
  rintro e w1 ⟨rfl, rfl⟩
  go_wp2_with fail
  refine HF2.out.mono ?_
  rintro e w1 ⟨rfl, rfl⟩
  go_wp2_with fail
  refine (live11 _).mono ?_
  rintro e w3 ⟨rfl, b1⟩
  have BB := Lib.hid b1
  clear b1
  go_wp2_with fail
  go_ret
  exact ⟨rfl, BB.out⟩

set_option maxHeartbeats 800000 in
set_option maxRecDepth 100000 in
theorem bonly_6 {w : World} {v u : Value} {l m : List Ses} (hv : Sess w v l) (hu : Sess w u m) (h1 : l.length ≤ 30) (h2 : m.length ≤ 30) (hw : fewSes l = true) (hw' : fewSes m = true) (h3 : 0 < l.length) (h4 : m = []) :
    Calls Try.prog 8 #[v, u] w fun e w' => e = .returned (.bool true) ∧ Below w.heap.size w w' := by
  have t0 : decide (30 < (l.length : Int)) = false := by simp; omega
  have t2 : ((l.length : Int) == 0) = false := by rw [beq_eq_false_iff_ne]; omega
  have HF1 := Lib.hid (few09_eq hv hw)
  have HF2 := Lib.hid (few09_eq hu hw')
  obtain ⟨ao, cap, rfl, hm1⟩ := hv.open'
  obtain ⟨au, cup, rfl, hm2⟩ := hu.open'
  subst h4
  simp only [List.length_nil] at HF2 ⊢
  clear hv hu
  go_enter Try.func8, Try.ntmps8
  go_wp2_with fail
  refine HF1.out.mono ?_
  rintro e w1 ⟨rfl, rfl⟩
  go_wp2_with fail
  refine HF2.out.mono ?_
  rintro e w1 ⟨rfl, rfl⟩
  go_wp2_with fail
  refine (live11 _).mono ?_
  rintro e w3 ⟨rfl, b1⟩
  have BB := Lib.hid b1
  clear b1
  go_wp2_with fail
  go_ret
  exact ⟨rfl, BB.out⟩

theorem walkBestOnly {w : World} {v u : Value} {l m : List Ses} (hv : Sess w v l) (hf : ∀ s ∈ l, SesFit s) (hu : Sess w u m) (hg : ∀ s ∈ m, SesFit s) :
    Calls Try.prog 8 #[v, u] w fun e w' => e = .returned (.bool true) ∧ Below w.heap.size w w' := by
  by_cases h1 : l.length ≤ 30
  · by_cases h2 : m.length ≤ 30
    · cases hw : fewSes l with
      | false => exact bonly_3 hv hu h1 h2 hw
      | true =>
        cases hw' : fewSes m with
        | false => exact bonly_4 hv hu h1 h2 hw hw'
        | true =>
          by_cases h3 : l = []
          · exact bonly_5 hv hu h1 h2 hw hw' h3
          · by_cases h4 : m = []
            · exact bonly_6 hv hu h1 h2 hw hw' (List.length_pos_iff.2 h3) h4
            · exact bonly_few hv hf hu hg h1 h2 hw hw' (List.length_pos_iff.2 h3) (List.length_pos_iff.2 h4)
    · exact bonly_2 hv hu h1 h2
  · exact bonly_1 hv hu h1

end Go.Proofs.Ytocljhbkjengpaa
