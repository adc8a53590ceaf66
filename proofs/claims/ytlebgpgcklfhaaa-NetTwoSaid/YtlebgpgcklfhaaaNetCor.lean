/-
  LAYER 22: Corrupt of the code and of the document.
-/
import Derived.Test.YtlebgpgcklfhaaaNetRef
import Derived.Deep.Cut
namespace Go.Proofs.Ytlebgpgcklfhaaa
open Go.RowKit

theorem ownX_some {w : World} {base : Nat} {v : Value} {ls : List (List UInt8)} (h : OwnS txtVals 1 9 w base v ls) (h0 : 0 < ls.length) : ∃ g cap, v = .slice (some ⟨g, 0, none⟩) ls.length cap := by
  rcases h.2 with ⟨_, h'⟩ | ⟨g, cap, cur, h', _⟩
  · omega
  · exact ⟨g, cap, h'⟩

theorem ownX_cell {w : World} {base g n cap : Nat} {ls : List (List UInt8)} (h : OwnS txtVals 1 9 w base (.slice (some ⟨g, 0, none⟩) n cap) ls) {k : Nat} (hk : k < ls.length) : w.cell? ⟨g, k, none⟩ = some (encS (ls.getD k [])) ∧ w.frozen? ⟨g, k, none⟩ = false := by
  refine ⟨?_, h.frozenAt k⟩
  rw [h.cellAt txtOK k (by omega), cells_txt, List.getElem?_map, getD_some hk]
  rfl

theorem ownX_set {w : World} {base g n cap : Nat} {ls : List (List UInt8)} (h : OwnS txtVals 1 9 w base (.slice (some ⟨g, 0, none⟩) n cap) ls) {k : Nat} (hk : k < ls.length) (s : List UInt8) :
    OwnS txtVals 1 9 (w.setCell ⟨g, k, none⟩ (.string ⟨s.toArray⟩)) base (.slice (some ⟨g, 0, none⟩) n cap) (ls.set k s) := by
  have := ownS_set txtOK h hk s
  rw [Nat.mul_one] at this
  exact this

theorem ntCor_no {ls : List (List UInt8)} {i a m : Int} (h : ¬ ntIn ls.length i) : ntCor ls i a m = (ls, 6) := by unfold ntCor; rw [if_neg h]

theorem ntCor_bad {ls : List (List UInt8)} {k : Nat} {a m : Int} (h : k < ls.length) (hb : ntBad (ls.getD k []) a m) : ntCor ls k a m = (ls, 1) := by
  unfold ntCor
  rw [if_pos (by unfold ntIn; omega), Int.toNat_natCast, if_pos hb]

theorem ntCor_yes {ls : List (List UInt8)} {k p m : Nat} (h : k < ls.length) (hb : ¬ ntBad (ls.getD k []) p m) : ntCor ls k p m = (ls.set k (spoil (ls.getD k []) (p % (ls.getD k []).length) m), 0) := by
  unfold ntCor
  rw [if_pos (by unfold ntIn; omega), Int.toNat_natCast, if_neg hb, Int.toNat_natCast, Int.toNat_natCast]

set_option maxHeartbeats 1600000 in
set_option maxRecDepth 100000 in
theorem ncor_no {w : World} {v : Value} {ls : List (List UInt8)} (h : Texts w v ls) (i a m : Int) (hi : ¬ ntIn ls.length i) :
    Calls Try.prog 12 #[v, .int .i64 i, .int .i64 a, .int .i64 m] w fun e w' => e = .returned (.tuple #[v, .int .i64 6]) ∧ w = w' := by
  obtain ⟨ad, cap, rfl, _, _, _, _⟩ := h
  go_enter Try.func12, Try.ntmps12
  go_wp2_with fail
  refine (nhas_no _ _ _ i hi _).mono ?_
  rintro e w1 ⟨rfl, rfl⟩
  go_wp2_with fail
  go_ret2
  exact ⟨rfl, rfl⟩

set_option maxHeartbeats 1600000 in
set_option maxRecDepth 100000 in
theorem ncor_bad {w : World} {v : Value} {ls : List (List UInt8)} (h : Texts w v ls) (k : Nat) (hk : k < ls.length) (a m : Int) (hb : ntBad (ls.getD k []) a m) :
    Calls Try.prog 12 #[v, .int .i64 k, .int .i64 a, .int .i64 m] w fun e w' => e = .returned (.tuple #[v, .int .i64 1]) ∧ w = w' := by
  have HV := Lib.hid h
  obtain ⟨ad, cap, rfl, _, _, _, _⟩ := h
  obtain ⟨b, off, rfl, hcell⟩ := texts_at HV.out hk
  unfold encS at hcell
  obtain ⟨x, hx⟩ : ∃ x, ls.getD k [] = x := ⟨_, rfl⟩
  rw [hx] at hcell hb
  unfold ntBad at hb
  clear hx
  cases x with
  | nil =>
    clear hb
    go_enter Try.func12, Try.ntmps12
    go_wp2_with fail
    refine (nhas_yes _ _ _ k hk _).mono ?_
    rintro e w1 ⟨rfl, rfl⟩
    go_wp2_with fail
    go_ret2
    exact ⟨rfl, rfl⟩
  | cons y t =>
    have t3 : ((y :: t) == ([] : List UInt8)) = false := rfl
    by_cases h0 : a < 0
    · have t4 : decide (a < 0) = true := by simp; omega
      clear hb
      go_enter Try.func12, Try.ntmps12
      go_wp2_with fail
      refine (nhas_yes _ _ _ k hk _).mono ?_
      rintro e w1 ⟨rfl, rfl⟩
      go_wp2_with fail
      go_ret2
      exact ⟨rfl, rfl⟩
    · have t4 : decide (a < 0) = false := by simp; omega
      by_cases h1 : m < 1
      · have t5 : decide (m < 1) = true := by simp; omega
        clear hb
        go_enter Try.func12, Try.ntmps12
        go_wp2_with fail
        refine (nhas_yes _ _ _ k hk _).mono ?_
        rintro e w1 ⟨rfl, rfl⟩
        go_wp2_with fail
        go_ret2
        exact ⟨rfl, rfl⟩
      · have t5 : decide (m < 1) = false := by simp; omega
        have t6 : decide (255 < m) = true := by
          rcases hb with hb | hb | hb | hb
          · cases hb
          · omega
          · omega
          · simp; omega
        clear hb
        go_enter Try.func12, Try.ntmps12
        go_wp2_with fail
        refine (nhas_yes _ _ _ k hk _).mono ?_
        rintro e w1 ⟨rfl, rfl⟩
        go_wp2_with fail
        go_ret2
        exact ⟨rfl, rfl⟩

set_option maxHeartbeats 1600000 in
set_option maxRecDepth 100000 in
theorem ncor_yes {w : World} {v : Value} {ls : List (List UInt8)} (h : Texts w v ls) (hl : ls.length ≤ 1000) (k : Nat) (hk : k < ls.length) (p m : Nat) {x : List UInt8} (hx : ls.getD k [] = x) (h0 : 0 < x.length) (hlx : x.length ≤ 1000000) (hm0 : 0 < m) (hm : m < 256) :
    Calls Try.prog 12 #[v, .int .i64 k, .int .i64 p, .int .i64 m] w fun e w' => ∃ u, e = .returned (.tuple #[u, .int .i64 0]) ∧ Texts w' u (ls.set k (spoil x (p % x.length) m)) ∧ Below w.heap.size w w' := by
  have HV := Lib.hid h
  obtain ⟨ad, cap, rfl, _, _, _, _⟩ := h
  obtain ⟨b, off, rfl, hcell⟩ := texts_at HV.out hk
  unfold encS at hcell
  rw [hx] at hcell
  clear hx
  have hx0 : x ≠ [] := by intro e; rw [e] at h0; simp at h0
  have t3 : (x == ([] : List UInt8)) = false := by simpa using hx0
  have t4 : decide ((p : Int) < 0) = false := by simp
  have t5 : decide ((m : Int) < 1) = false := by simp; omega
  have t6 : decide ((255 : Int) < (m : Int)) = false := by simp; omega
  have hcv := fun w => Lib.run_convert_string_bytes (P := Try.prog) w 9 47 5 ⟨x.toArray⟩ Try.underlying9 Try.underlying47 Try.underlying5
  have hmod : (p : Int).tmod (x.length : Int) = ((p % x.length : Nat) : Int) := rfl
  have hmod2 : (p : Int) % (x.length : Int) = ((p % x.length : Nat) : Int) := rfl
  have hq : p % x.length < x.length := Nat.mod_lt _ h0
  obtain ⟨q, hqe⟩ : ∃ q, p % x.length = q := ⟨_, rfl⟩
  rw [hqe] at hmod hmod2 hq ⊢
  obtain ⟨c, hc⟩ : ∃ c, x.getD q 0 = c := ⟨_, rfl⟩
  have hR := bRow_new w x
  have hcq := (hR q hq).1
  have hfq := (hR q hq).2
  rw [hc] at hcq
  have hwr : IntKind.u8.wrap (m : Int) = (m : Int) := by rw [IntKind.wrap_u8]; omega
  have hxo := u8of_xor c m hm
  have HR2 : Hid (BRow ((Lib.bytesWorld w 5 ⟨x.toArray⟩).setCell ⟨w.heap.size, q, none⟩ (.int .u8 (u8of (c.toNat ^^^ m)).toNat)) w.heap.size (spoil x q m)) := Lib.hid (by unfold spoil; rw [hc]; exact hR.set q _ hq)
  have HB2 : Hid (Below w.heap.size w ((Lib.bytesWorld w 5 ⟨x.toArray⟩).setCell ⟨w.heap.size, q, none⟩ (.int .u8 (u8of (c.toNat ^^^ m)).toNat))) := Lib.hid ((bytesWorld_below w _ _).setCell (Nat.le_refl _) _)
  have HLS := Lib.hid (spoil_len x q m)
  have hne : ¬ (x.length : Int) = 0 := by omega
  generalize hsp : spoil x q m = sp at HR2 HLS ⊢
  clear hR hqe hc hsp
  go_enter Try.func12, Try.ntmps12
  go_wp2_with fail
  refine (nhas_yes _ _ _ k hk _).mono ?_
  rintro e w1 ⟨rfl, rfl⟩
  go_wp2_with fail
  generalize hW2 : (Lib.bytesWorld w 5 ⟨x.toArray⟩).setCell ⟨w.heap.size, q, none⟩ (.int .u8 (u8of (c.toNat ^^^ m)).toNat) = w2 at HR2 HB2 ⊢
  clear hW2 hcq hfq hcv
  refine (txt_clone (HV.out.later HB2.out) (by omega)).mono ?_
  rintro e w3 ⟨u, rfl, ho, hb⟩
  have hsz := HB2.out.size
  have HB3 := Lib.hid (below2Z HB2.out hb)
  have HR3 := Lib.hid (HR2.out.later hb)
  have HO := Lib.hid (ownS_low ho hsz)
  clear ho hb HR2 HB2
  obtain ⟨g, cg, rfl⟩ := ownX_some HO.out (by omega)
  obtain ⟨hgc, hgf⟩ := ownX_cell HO.out hk
  have hg := HO.out.head.2.1
  have hcb := fun cap => bRow_text HR3.out cap
  rw [HLS.out] at hcb
  have HT := Lib.hid (ownT_of (ownX_set HO.out hk sp)).texts
  have HB4 : Hid (Below w.heap.size w (w3.setCell ⟨g, k, none⟩ (.string ⟨sp.toArray⟩))) := Lib.hid (HB3.out.setCell hg _)
  unfold encS at hgc
  clear hcell
  go_wp2_with fail
  go_ret2
  exact ⟨_, rfl, HT.out, HB4.out⟩

theorem ncor_any {w : World} {v : Value} {ls : List (List UInt8)} (h : Texts w v ls) (hl : ls.length ≤ 1000) (hx : ∀ t ∈ ls, t.length ≤ 1000000) (i a m : Int) {r : List (List UInt8)} {e : Nat} (hr : Hid (ntCor ls i a m = (r, e))) :
    Calls Try.prog 12 #[v, .int .i64 i, .int .i64 a, .int .i64 m] w fun e' w' => ∃ u, e' = .returned (.tuple #[u, .int .i64 e]) ∧ Texts w' u r ∧ Below w.heap.size w w' := by
  have hr' := hr.out
  by_cases hi : ntIn ls.length i
  · obtain ⟨k, rfl, hk⟩ := in_nat hi
    by_cases hb : ntBad (ls.getD k []) a m
    · rw [ntCor_bad hk hb] at hr'
      simp only [Prod.mk.injEq] at hr'
      obtain ⟨rfl, rfl⟩ := hr'
      exact (ncor_bad h k hk a m hb).mono fun _ _ ⟨he, hw⟩ => ⟨v, he, hw ▸ h, hw ▸ Below.refl _ _⟩
    · have hb' := hb
      unfold ntBad at hb'
      obtain ⟨p, rfl⟩ := Int.eq_ofNat_of_zero_le (show 0 ≤ a by omega)
      obtain ⟨q, rfl⟩ := Int.eq_ofNat_of_zero_le (show 0 ≤ m by omega)
      rw [ntCor_yes hk hb] at hr'
      simp only [Prod.mk.injEq] at hr'
      obtain ⟨rfl, rfl⟩ := hr'
      have hmem : ls.getD k [] ∈ ls := by rw [List.getD_eq_getElem?_getD, List.getElem?_eq_getElem hk]; exact List.getElem_mem hk
      exact ncor_yes h hl k hk p q rfl (List.length_pos_iff.2 (fun e => hb' (.inl e))) (hx _ hmem) (by omega) (by omega)
  · rw [ntCor_no hi] at hr'
    simp only [Prod.mk.injEq] at hr'
    obtain ⟨rfl, rfl⟩ := hr'
    exact (ncor_no h i a m hi).mono fun _ _ ⟨he, hw⟩ => ⟨v, he, hw ▸ h, hw ▸ Below.refl _ _⟩

set_option maxHeartbeats 1600000 in
set_option maxRecDepth 100000 in
theorem nrcor_no {w : World} {v : Value} {ls : List (List UInt8)} (h : Texts w v ls) (i a m : Int) (hi : ¬ ntIn ls.length i) :
    Calls Try.prog 13 #[v, .int .i64 i, .int .i64 a, .int .i64 m] w fun e w' => e = .returned (.tuple #[v, .int .i64 6]) ∧ w = w' := by
  obtain ⟨ad, cap, rfl, _, _, _, _⟩ := h
  unfold ntIn at hi
  by_cases h0 : i < 0
  · have t1 : decide (i < 0) = true := by simp; omega
    clear hi
    go_enter Try.func13, Try.ntmps13
    go_wp2_with fail
    go_ret2
    exact ⟨rfl, rfl⟩
  · have t1 : decide (i < 0) = false := by simp; omega
    have t2 : decide ((ls.length : Int) ≤ i) = true := by simp; omega
    clear hi
    go_enter Try.func13, Try.ntmps13
    go_wp2_with fail
    go_ret2
    exact ⟨rfl, rfl⟩

set_option maxHeartbeats 1600000 in
set_option maxRecDepth 100000 in
theorem nrcor_bad {w : World} {v : Value} {ls : List (List UInt8)} (h : Texts w v ls) (k : Nat) (hk : k < ls.length) (a m : Int) (hb : ntBad (ls.getD k []) a m) :
    Calls Try.prog 13 #[v, .int .i64 k, .int .i64 a, .int .i64 m] w fun e w' => e = .returned (.tuple #[v, .int .i64 1]) ∧ w = w' := by
  have HV := Lib.hid h
  obtain ⟨ad, cap, rfl, _, _, _, _⟩ := h
  obtain ⟨b, off, rfl, hcell⟩ := texts_at HV.out hk
  unfold encS at hcell
  obtain ⟨x, hx⟩ : ∃ x, ls.getD k [] = x := ⟨_, rfl⟩
  rw [hx] at hcell hb
  unfold ntBad at hb
  clear hx
  have t1 : decide ((k : Int) < 0) = false := by simp
  have t2 : decide ((ls.length : Int) ≤ (k : Int)) = false := by simp; omega
  cases x with
  | nil =>
    clear hb
    go_enter Try.func13, Try.ntmps13
    go_wp2_with fail
    go_ret2
    exact ⟨rfl, rfl⟩
  | cons y t =>
    have t3 : ((y :: t) == ([] : List UInt8)) = false := rfl
    by_cases h0 : a < 0
    · have t4 : decide (a < 0) = true := by simp; omega
      clear hb
      go_enter Try.func13, Try.ntmps13
      go_wp2_with fail
      go_ret2
      exact ⟨rfl, rfl⟩
    · have t4 : decide (a < 0) = false := by simp; omega
      by_cases h1 : m < 1
      · have t5 : decide (m < 1) = true := by simp; omega
        clear hb
        go_enter Try.func13, Try.ntmps13
        go_wp2_with fail
        go_ret2
        exact ⟨rfl, rfl⟩
      · have t5 : decide (m < 1) = false := by simp; omega
        have t6 : decide (255 < m) = true := by
          rcases hb with hb | hb | hb | hb
          · cases hb
          · omega
          · omega
          · simp; omega
        clear hb
        go_enter Try.func13, Try.ntmps13
        go_wp2_with fail
        go_ret2
        exact ⟨rfl, rfl⟩

set_option maxHeartbeats 1600000 in
set_option maxRecDepth 100000 in
theorem nrcor_yes {w : World} {v : Value} {ls : List (List UInt8)} (h : Texts w v ls) (hl : ls.length ≤ 1000) (k : Nat) (hk : k < ls.length) (p m : Nat) {x : List UInt8} (hx : ls.getD k [] = x) (h0 : 0 < x.length) (hlx : x.length ≤ 1000000) (hm0 : 0 < m) (hm : m < 256) :
    Calls Try.prog 13 #[v, .int .i64 k, .int .i64 p, .int .i64 m] w fun e w' => ∃ u, e = .returned (.tuple #[u, .int .i64 0]) ∧ Texts w' u (ls.set k (spoil x (p % x.length) m)) ∧ Below w.heap.size w w' := by
  have HV := Lib.hid h
  obtain ⟨ad, cap, rfl, _, _, _, _⟩ := h
  obtain ⟨b, off, rfl, hcell⟩ := texts_at HV.out hk
  unfold encS at hcell
  rw [hx] at hcell
  clear hx
  have t1 : decide ((k : Int) < 0) = false := by simp
  have t2 : decide ((ls.length : Int) ≤ (k : Int)) = false := by simp; omega
  have hx0 : x ≠ [] := by intro e; rw [e] at h0; simp at h0
  have t3 : (x == ([] : List UInt8)) = false := by simpa using hx0
  have t4 : decide ((p : Int) < 0) = false := by simp
  have t5 : decide ((m : Int) < 1) = false := by simp; omega
  have t6 : decide ((255 : Int) < (m : Int)) = false := by simp; omega
  have hcv := fun w => Lib.run_convert_string_bytes (P := Try.prog) w 9 47 5 ⟨x.toArray⟩ Try.underlying9 Try.underlying47 Try.underlying5
  have hmod : (p : Int).tmod (x.length : Int) = ((p % x.length : Nat) : Int) := rfl
  have hmod2 : (p : Int) % (x.length : Int) = ((p % x.length : Nat) : Int) := rfl
  have hq : p % x.length < x.length := Nat.mod_lt _ h0
  obtain ⟨q, hqe⟩ : ∃ q, p % x.length = q := ⟨_, rfl⟩
  rw [hqe] at hmod hmod2 hq ⊢
  obtain ⟨c, hc⟩ : ∃ c, x.getD q 0 = c := ⟨_, rfl⟩
  have hR := bRow_new w x
  have hcq := (hR q hq).1
  have hfq := (hR q hq).2
  rw [hc] at hcq
  have hwr : IntKind.u8.wrap (m : Int) = (m : Int) := by rw [IntKind.wrap_u8]; omega
  have hxo := u8of_xor c m hm
  have HR2 : Hid (BRow ((Lib.bytesWorld w 5 ⟨x.toArray⟩).setCell ⟨w.heap.size, q, none⟩ (.int .u8 (u8of (c.toNat ^^^ m)).toNat)) w.heap.size (spoil x q m)) := Lib.hid (by unfold spoil; rw [hc]; exact hR.set q _ hq)
  have HB2 : Hid (Below w.heap.size w ((Lib.bytesWorld w 5 ⟨x.toArray⟩).setCell ⟨w.heap.size, q, none⟩ (.int .u8 (u8of (c.toNat ^^^ m)).toNat))) := Lib.hid ((bytesWorld_below w _ _).setCell (Nat.le_refl _) _)
  have HLS := Lib.hid (spoil_len x q m)
  have hne : ¬ (x.length : Int) = 0 := by omega
  generalize hsp : spoil x q m = sp at HR2 HLS ⊢
  clear hR hqe hc hsp
  go_enter Try.func13, Try.ntmps13
  go_upto_region 8 with fail
  generalize hW2 : (Lib.bytesWorld w 5 ⟨x.toArray⟩).setCell ⟨w.heap.size, q, none⟩ (.int .u8 (u8of (c.toNat ^^^ m)).toNat) = w2 at HR2 HB2 ⊢
  clear hW2 hcq hfq hcv
  have S1 := Lib.hid ((HV.out.later (below2Z HB2.out (bl_newZ w2 (.cells #[] 9)))).rd.src txtOK)
  go_wp2_with (at_builtin; go_must (refine wpList_append_S txtOK rfl _ _ rfl w2.heap.size _ [] rfl (by exact ownS_made w2) (some ⟨b, off, none⟩) ls.length cap ls rfl rfl (fun e => nomatch e) ?c1 (by simp only [List.length_nil]; omega) (by simp) ?_))
  case c1 => intro ad had; obtain rfl := Option.some.inj had; exact S1.out
  intro u w3 ho hb0
  have hsz := HB2.out.size
  have hb : Below w2.heap.size w2 w3 := ((Below.refl w2.heap.size w2).alloc (Nat.le_refl _) _).trans hb0
  have HB3 := Lib.hid (below2Z HB2.out hb)
  have HR3 := Lib.hid (HR2.out.later hb)
  have HO : Hid (OwnS txtVals 1 9 w3 w.heap.size u ls) := Lib.hid (by have := ownS_low ho hsz; simpa using this)
  clear ho hb hb0 HR2 HB2 S1
  obtain ⟨g, cg, rfl⟩ := ownX_some HO.out (by omega)
  obtain ⟨hgc, hgf⟩ := ownX_cell HO.out hk
  have hg := HO.out.head.2.1
  have hcb := fun cap => bRow_text HR3.out cap
  rw [HLS.out] at hcb
  have HT := Lib.hid (ownT_of (ownX_set HO.out hk sp)).texts
  have HB4 : Hid (Below w.heap.size w (w3.setCell ⟨g, k, none⟩ (.string ⟨sp.toArray⟩))) := Lib.hid (HB3.out.setCell hg _)
  unfold encS at hgc
  clear hcell
  go_wp2_with fail
  go_ret2
  exact ⟨_, rfl, HT.out, HB4.out⟩

theorem nrcor_any {w : World} {v : Value} {ls : List (List UInt8)} (h : Texts w v ls) (hl : ls.length ≤ 1000) (hx : ∀ t ∈ ls, t.length ≤ 1000000) (i a m : Int) {r : List (List UInt8)} {e : Nat} (hr : Hid (ntCor ls i a m = (r, e))) :
    Calls Try.prog 13 #[v, .int .i64 i, .int .i64 a, .int .i64 m] w fun e' w' => ∃ u, e' = .returned (.tuple #[u, .int .i64 e]) ∧ Texts w' u r ∧ Below w.heap.size w w' := by
  have hr' := hr.out
  by_cases hi : ntIn ls.length i
  · obtain ⟨k, rfl, hk⟩ := in_nat hi
    by_cases hb : ntBad (ls.getD k []) a m
    · rw [ntCor_bad hk hb] at hr'
      simp only [Prod.mk.injEq] at hr'
      obtain ⟨rfl, rfl⟩ := hr'
      exact (nrcor_bad h k hk a m hb).mono fun _ _ ⟨he, hw⟩ => ⟨v, he, hw ▸ h, hw ▸ Below.refl _ _⟩
    · have hb' := hb
      unfold ntBad at hb'
      obtain ⟨p, rfl⟩ := Int.eq_ofNat_of_zero_le (show 0 ≤ a by omega)
      obtain ⟨q, rfl⟩ := Int.eq_ofNat_of_zero_le (show 0 ≤ m by omega)
      rw [ntCor_yes hk hb] at hr'
      simp only [Prod.mk.injEq] at hr'
      obtain ⟨rfl, rfl⟩ := hr'
      have hmem : ls.getD k [] ∈ ls := by rw [List.getD_eq_getElem?_getD, List.getElem?_eq_getElem hk]; exact List.getElem_mem hk
      exact nrcor_yes h hl k hk p q rfl (List.length_pos_iff.2 (fun e => hb' (.inl e))) (hx _ hmem) (by omega) (by omega)
  · rw [ntCor_no hi] at hr'
    simp only [Prod.mk.injEq] at hr'
    obtain ⟨rfl, rfl⟩ := hr'
    exact (nrcor_no h i a m hi).mono fun _ _ ⟨he, hw⟩ => ⟨v, he, hw ▸ h, hw ▸ Below.refl _ _⟩

end Go.Proofs.Ytlebgpgcklfhaaa
