/-
  TEXTS OF THE PROOF, one behind the other: FraRtake.
-/
import Derived.Test.YtohfhphiofobcaaS14

/-
  THE CONTRACT OF THE DOCUMENT'S Take (of a table), once more: the table lies in memory of the call's own.
-/
namespace Go.Proofs.Ytohfhphiofobcaa
open Go.RowKit

set_option maxHeartbeats 800000 in
set_option maxRecDepth 100000 in
theorem rditakeO_get (l : List UInt8) (hl : l.length ≤ 4294967296) (p : Int) {n f er : Nat} (h : vget l p = (n, f, er)) (he : er ≠ 0) (w : World) :
    Calls Try.prog 82 #[.string ⟨l.toArray⟩, .int .i64 p] w (TookO (diTake l p) w) := by
  have HR := Lib.hid (ditake_1 h he)
  have HG := Lib.hid h
  have t1 : ((er : Int) != 0) = true := by simp; omega
  clear h he
  rw [HR.out]
  go_enter Try.func82, Try.ntmps82
  go_wp2_with fail
  refine (rget_eq l hl _ _ HG).mono ?_
  rintro e w1 ⟨rfl, rfl⟩
  go_wp2_with fail
  go_ret3
  exact ⟨_, rfl, ownR_nil _ _, Below.refl _ _⟩

set_option maxHeartbeats 800000 in
set_option maxRecDepth 100000 in
theorem rditakeO_many (l : List UInt8) (hl : l.length ≤ 4294967296) (p : Int) {n f : Nat} (h : vget l p = (n, f, 0)) (hn : 32 < n) (w : World) :
    Calls Try.prog 82 #[.string ⟨l.toArray⟩, .int .i64 p] w (TookO (diTake l p) w) := by
  have HR := Lib.hid (ditake_2 h hn)
  have HG := Lib.hid h
  clear h
  rw [HR.out]
  go_enter Try.func82, Try.ntmps82
  go_wp2_with fail
  refine (rget_eq l hl _ _ HG).mono ?_
  rintro e w1 ⟨rfl, rfl⟩
  go_wp2_with fail
  go_ret3
  exact ⟨_, rfl, ownR_nil _ _, Below.refl _ _⟩

set_option maxHeartbeats 1600000 in
set_option maxRecDepth 100000 in
theorem rditakeO_rows (l : List UInt8) (hl : l.length ≤ 4294967296) (p : Int) {n f : Nat} (h : vget l p = (n, f, 0)) (hn : ¬ 32 < n) {T : List Row} {g es : Nat} (h2 : diRows n l f = (T, g, es)) (w : World) :
    Calls Try.prog 82 #[.string ⟨l.toArray⟩, .int .i64 p] w (TookO (diTake l p) w) := by
  have HG := Lib.hid h
  have hfl := (vget_in_facts h).2.2.1
  have H2 : Hid (diComb [] (diRows (n - 0) l f) = (T, g, es)) := by show _ = _; rw [diComb_start]; exact h2
  have HE : Hid (∀ e, e ≠ 0 → (([] : List Row), 0, e) = (T, g, es) → diTake l p = ([], 0, e)) := by
    show ∀ e, _
    intro e he e'
    simp only [Prod.mk.injEq] at e'
    obtain ⟨rfl, rfl, rfl⟩ := e'
    exact ditake_3 h hn h2 he
  have HEnd : Hid (∀ acc q, (acc, q, 0) = (T, g, es) → (diMay acc = false → diTake l p = ([], 0, 3)) ∧ (diMay acc = true → diTake l p = (acc, q, 0)) ∧ Short acc) := by
    show ∀ acc q, _
    intro acc q e'
    simp only [Prod.mk.injEq] at e'
    obtain ⟨rfl, rfl, rfl⟩ := e'
    exact ⟨ditake_4 h hn h2, ditake_5 h hn h2, ok_short (diRows_bytes n hfl h2).2.1⟩
  obtain ⟨R, hR⟩ : ∃ R, diTake l p = R := ⟨_, rfl⟩
  rw [hR] at HE HEnd
  rw [hR]
  clear h h2 hR
  go_enter Try.func82, Try.ntmps82
  go_wp2_with fail
  refine (rget_eq l hl _ _ HG).mono ?_
  rintro e w1 ⟨rfl, rfl⟩
  go_wp2_with fail
  go_loopw [8, 10, 11] (fun q v i wr => ∃ (k : Nat) (acc : List Row) (pl : Nat), k ≤ n ∧ i = .int .i64 k ∧ q = .int .i64 pl ∧ Hid (OwnR wr w.heap.size v acc) ∧ Hid (acc.length = k) ∧ Hid (diComb acc (diRows (n - k) l pl) = (T, g, es)) ∧ Hid (Below w.heap.size w wr)) (fun _ _ i _ => n - (intOf i).toNat)
  case atStart => exact ⟨0, [], f, by omega, rfl, rfl, ownR_nil _ _, rfl, H2, Below.refl _ _⟩
  case round =>
    clear H2
    obtain ⟨k, acc, pl, hk, rfl, rfl, HO, HL, HC, HN⟩ := hrel
    by_cases hlt : k < n
    · obtain ⟨c, q0, e0, hi⟩ : ∃ c q0 e0, idTake l pl = (c, q0, e0) := ⟨_, _, _, rfl⟩
      have HI := Lib.hid (ridtake_eq l hl pl (Lib.hid hi))
      have hc := HC.out
      rw [show n - k = n - (k + 1) + 1 by omega] at hc
      by_cases h0 : e0 = 0
      · subst h0
        obtain ⟨x, y, z, st, q, er, hva⟩ : ∃ x y z st q er, vaTake l q0 = (⟨x, y, z, st⟩, q, er) := ⟨_, _, _, _, _, _, rfl⟩
        have HV := Lib.hid (rvatake_eq l hl q0 (Lib.hid hva))
        by_cases he : er = 0
        · subst he
          rw [diComb_step acc (taker_ok hi hva)] at hc
          have HC2 := Lib.hid hc
          have hal : acc.length ≤ 32 := by rw [HL.out]; omega
          have HL2 : Hid ((acc ++ [(⟨c, x, y, z, st⟩ : Row)]).length = k + 1) := by show _ = _; rw [List.length_append, HL.out]; rfl
          clear hi hva hc HC
          go_wp2_with fail
          refine (HI.out _).mono ?_
          rintro e w1 ⟨rfl, rfl⟩
          go_wp2_with fail
          refine (HV.out _).mono ?_
          rintro e w2 ⟨rfl, hb2⟩
          have N2 := Lib.hid (below2' HN.out hb2)
          have N3 := Lib.hid (bl_alloc N2.out (.cells #[.int .i64 x, .int .i64 y, .int .i64 z, .string ⟨st.toArray⟩] 23))
          have N4 := Lib.hid (bl_alloc N3.out (.cells #[.string ⟨c.toArray⟩, .int .i64 x, .int .i64 y, .int .i64 z, .string ⟨st.toArray⟩] 82))
          have O2 := Lib.hid (((HO.out.later hb2).alloc (.cells #[.int .i64 x, .int .i64 y, .int .i64 z, .string ⟨st.toArray⟩] 23)).alloc (.cells #[.string ⟨c.toArray⟩, .int .i64 x, .int .i64 y, .int .i64 z, .string ⟨st.toArray⟩] 82))
          have hz2 := N4.out.size
          clear hb2 HO
          go_wp2_with (at_builtin; go_must (refine wpList_append_rows rfl _ _ rfl w.heap.size _ acc rfl (by exact O2.out) _ 1 1 [⟨c, x, y, z, st⟩] rfl rfl (fun e => nomatch e) ?c1 (by simp; omega) hz2 ?_))
          case c1 => exact new_row (by simp)
          intro v' w' hown' hb'
          have O3 := Lib.hid hown'
          have N5 := Lib.hid (N4.out.trans hb')
          clear hown' hb' hz2 O2
          go_wp2_with fail
          go_roundw
          case rel => exact ⟨k + 1, acc ++ [⟨c, x, y, z, st⟩], q, by omega, by go_num, rfl, O3, HL2, HC2, N5⟩
          case measure => simp [intOf]; omega
        · rw [diComb_err acc (taker_va hi hva he) he] at hc
          have HR := Lib.hid (HE.out er he hc)
          have t1 : ((er : Int) != 0) = true := by simp; omega
          clear hi hva hc he
          go_wp2_with fail
          refine (HI.out _).mono ?_
          rintro e w1 ⟨rfl, rfl⟩
          go_wp2_with fail
          refine (HV.out _).mono ?_
          rintro e w2 ⟨rfl, hb2⟩
          have N2 := Lib.hid (bl_alloc (below2' HN.out hb2) (.cells #[.int .i64 x, .int .i64 y, .int .i64 z, .string ⟨st.toArray⟩] 23))
          clear hb2
          go_wp2_with fail
          go_ret3
          exact ⟨_, by rw [HR.out]; rfl, by rw [HR.out]; exact ownR_nil _ _, N2.out⟩
      · rw [diComb_err acc (taker_id hi h0) h0] at hc
        have HR := Lib.hid (HE.out e0 h0 hc)
        have t1 : ((e0 : Int) != 0) = true := by simp; omega
        clear hi hc h0
        go_wp2_with fail
        refine (HI.out _).mono ?_
        rintro e w1 ⟨rfl, rfl⟩
        go_wp2_with fail
        go_ret3
        exact ⟨_, by rw [HR.out]; rfl, by rw [HR.out]; exact ownR_nil _ _, HN.out⟩
    · obtain rfl : k = n := by omega
      have hc := HC.out
      rw [Nat.sub_self, diComb_end] at hc
      obtain ⟨e1, e2, e3⟩ := HEnd.out acc pl hc
      have HTb := Lib.hid HO.out.tab
      clear hc
      cases hm : diMay acc with
      | false =>
        have HR := Lib.hid (e1 hm)
        have HM := Lib.hid (rdimay_eq HTb.out e3 (Lib.hid hm))
        clear hm e1 e2 e3
        go_wp2_with fail
        refine HM.out.mono ?_
        rintro e w2 ⟨rfl, hb2⟩
        have N2 := Lib.hid (below2' HN.out hb2)
        clear hb2
        go_wp2_with fail
        go_ret3
        exact ⟨_, by rw [HR.out]; rfl, by rw [HR.out]; exact ownR_nil _ _, N2.out⟩
      | true =>
        have HR := Lib.hid (e2 hm)
        have HM := Lib.hid (rdimay_eq HTb.out e3 (Lib.hid hm))
        clear hm e1 e2 e3
        go_wp2_with fail
        refine HM.out.mono ?_
        rintro e w2 ⟨rfl, hb2⟩
        have N2 := Lib.hid (below2' HN.out hb2)
        have T2 := Lib.hid (HO.out.later hb2)
        clear hb2
        go_wp2_with fail
        go_ret3
        exact ⟨_, by rw [HR.out]; rfl, by rw [HR.out]; exact T2.out, N2.out⟩

theorem rditakeO_any (l : List UInt8) (hl : l.length ≤ 4294967296) (p : Int) (w : World) :
    Calls Try.prog 82 #[.string ⟨l.toArray⟩, .int .i64 p] w (TookO (diTake l p) w) := by
  obtain ⟨n, f, er, h⟩ : ∃ n f er, vget l p = (n, f, er) := ⟨_, _, _, rfl⟩
  by_cases he : er = 0
  · subst he
    by_cases hn : 32 < n
    · exact rditakeO_many l hl p h hn w
    · obtain ⟨T, g, es, h2⟩ : ∃ T g es, diRows n l f = (T, g, es) := ⟨_, _, _, rfl⟩
      exact rditakeO_rows l hl p h hn h2 w
  · exact rditakeO_get l hl p h he w

end Go.Proofs.Ytohfhphiofobcaa
