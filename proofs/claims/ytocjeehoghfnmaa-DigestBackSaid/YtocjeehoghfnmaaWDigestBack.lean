/-
  THE WALK OF DigestBack, out of the contracts.
-/
import Derived.Test.YtocjeehoghfnmaaDigLive
import Derived.Test.YtocjeehoghfnmaaDigRput
import Derived.Test.YtocjeehoghfnmaaDigRtake
namespace Go.Proofs.Ytocjeehoghfnmaa
open Go.RowKit
attribute [local go_sem] ByteArray.mk_append_mk

set_option maxHeartbeats 1600000 in
set_option maxRecDepth 1000000 in
theorem digestBack_out {w : World} {vt vu : Value} {t u : List Row} (ht : Tab w vt t) (hu : Tab w vu u) (s : List UInt8) (h : fewT t = false ∨ (fewT t = true ∧ fewT u = false) ∨ (fewT t = true ∧ fewT u = true ∧ 300 < s.length)) :
    Calls Try.prog 6 #[vt, vu, .string ⟨s.toArray⟩] w fun e w' => e = .returned (.bool true) ∧ Below w.heap.size w w' := by
  have HT := Lib.hid ht
  have HU := Lib.hid hu
  clear ht hu
  rcases h with h | ⟨h1, h⟩ | ⟨h1, h2, h⟩
  · have H1 := Lib.hid h
    clear h
    go_enter Try.func6, Try.ntmps6
    go_wp2_with fail
    refine (fewt_eq HT.out H1).mono ?_
    rintro e w1 ⟨rfl, rfl⟩
    go_wp2_with fail
    refine (live5 _).mono ?_
    rintro e w1 ⟨rfl, b⟩
    go_wp2_with fail
    go_ret
    exact ⟨rfl, b⟩
  · have H1 := Lib.hid h1
    have H2 := Lib.hid h
    clear h1 h
    go_enter Try.func6, Try.ntmps6
    go_wp2_with fail
    refine (fewt_eq HT.out H1).mono ?_
    rintro e w1 ⟨rfl, rfl⟩
    go_wp2_with fail
    refine (fewt_eq HU.out H2).mono ?_
    rintro e w1 ⟨rfl, rfl⟩
    go_wp2_with fail
    refine (live5 _).mono ?_
    rintro e w1 ⟨rfl, b⟩
    go_wp2_with fail
    go_ret
    exact ⟨rfl, b⟩
  · have H1 := Lib.hid h1
    have H2 := Lib.hid h2
    clear h1 h2
    go_enter Try.func6, Try.ntmps6
    go_wp2_with fail
    refine (fewt_eq HT.out H1).mono ?_
    rintro e w1 ⟨rfl, rfl⟩
    go_wp2_with fail
    refine (fewt_eq HU.out H2).mono ?_
    rintro e w1 ⟨rfl, rfl⟩
    go_wp2_with fail
    refine (live5 _).mono ?_
    rintro e w1 ⟨rfl, b⟩
    go_wp2_with fail
    go_ret
    exact ⟨rfl, b⟩


set_option maxHeartbeats 3200000 in
set_option maxRecDepth 1000000 in
theorem digestBack_in {w : World} {vt vu : Value} {t u : List Row} (ht : Tab w vt t) (hu : Tab w vu u) (s : List UInt8) (h1 : fewT t = true) (h2 : fewT u = true) (h3 : s.length ≤ 300) :
    Calls Try.prog 6 #[vt, vu, .string ⟨s.toArray⟩] w fun e w' => e = .returned (.bool true) ∧ Below w.heap.size w w' := by
  have HT := Lib.hid ht
  have HU := Lib.hid hu
  have H1 := Lib.hid h1
  have H2 := Lib.hid h2
  have ST := Lib.hid (fewT_short h1)
  have SU := Lib.hid (fewT_short h2)
  have HK := Lib.hid (ditake_any s (by omega) 0)
  have hz := diTake_err s 0
  have hb : ∀ {T f}, diTake s 0 = (T, f, 0) → _ := fun h => diTake_bytes h
  obtain ⟨⟨T, f, er⟩, hR⟩ : ∃ R, diTake s 0 = R := ⟨_, rfl⟩
  rw [hR] at HK hz
  simp only at hz
  have hbb : er = 0 → Short T ∧ diPut T = (s.take f, true) ∧ f ≤ s.length := by
    intro e0
    subst e0
    obtain ⟨a1, _, _, a4, a5⟩ := diTake_bytes hR
    refine ⟨ok_short (diMay_iff.1 a1).2.1, ?_, a4⟩
    rw [diPut_yes a1, a5]
    simp
  clear ht hu hb hR
  cases hm : diMay t with
  | false =>
    have HM := Lib.hid hm
    have HP1 := Lib.hid (diPut_no hm)
    obtain ⟨l2, r2, HP2⟩ : ∃ l r, Hid (diPut u = (l, r)) := ⟨_, _, rfl⟩
    clear hm h1 h2
    go_enter Try.func6, Try.ntmps6
    go_wp2_with fail
    refine (fewt_eq HT.out H1).mono ?_
    rintro e w1 ⟨rfl, rfl⟩
    go_wp2_with fail
    refine (fewt_eq HU.out H2).mono ?_
    rintro e w1 ⟨rfl, rfl⟩
    go_wp2_with fail
    refine (diput_eq HT.out ST.out HP1).mono ?_
    rintro e w1 ⟨rfl, b⟩
    have B1 := Lib.hid b
    clear b
    go_wp2_with fail
    refine (dimay_eq (HT.out.later B1.out) ST.out HM).mono ?_
    rintro e w2 ⟨rfl, b⟩
    have B2 := Lib.hid (below2' B1.out b)
    clear b B1
    go_wp2_with fail
    refine (diput_eq (HU.out.later B2.out) SU.out HP2).mono ?_
    rintro e w3 ⟨rfl, b⟩
    have Bn := Lib.hid (below2' B2.out b)
    clear b B2
    go_wp2_with fail
    refine (HK.out _).mono ?_
    rintro e w8 ⟨v8, rfl, t8, b8⟩
    have B8 := Lib.hid (below2' Bn.out b8)
    have T8 := Lib.hid t8
    have hT8 := t8.open'
    obtain ⟨a8, c8, rfl, hm8⟩ := hT8
    clear b8 t8 Bn
    by_cases he : er = 0
    · subst he
      obtain ⟨s1, s2, s3⟩ := hbb rfl
      have hsl := fun w => run_slice_bytes_to (P := Try.prog) w 9 s f f rfl Try.underlying9 s3
      have HS := Lib.hid s1
      have HP := Lib.hid s2
      clear s1 s2 hz hbb
      go_wp2_with fail
      refine (diput_eq T8.out HS.out HP).mono ?_
      rintro e w9 ⟨rfl, b9⟩
      have B9 := Lib.hid (below2' B8.out b9)
      clear b9 B8
      go_wp2_with fail
      refine (live5 _).mono ?_
      rintro e w10 ⟨rfl, b10⟩
      have B10 := Lib.hid (below2' B9.out b10)
      clear b10 B9
      go_wp2_with fail
      go_ret
      exact ⟨rfl, B10.out⟩
    · obtain ⟨rfl, rfl⟩ := hz.resolve_left he
      have te : ((er : Int) != 0) = true := by simp; omega
      clear hz hbb
      go_wp2_with fail
      refine (live5 _).mono ?_
      rintro e w10 ⟨rfl, b10⟩
      have B10 := Lib.hid (below2' B8.out b10)
      clear b10 B8
      go_wp2_with fail
      go_ret
      exact ⟨rfl, B10.out⟩
  | true =>
    have HM := Lib.hid hm
    have HP1 := Lib.hid (diPut_yes hm)
    have hpl := diBytes_len hm
    have HTK := Lib.hid (ditake_any (diBytes t ++ s) (by rw [List.length_append]; omega) 0)
    have hTP := diTake_put hm [] s
    simp only [List.nil_append, List.length_nil, Nat.zero_add] at hTP
    have hTP' : diTake (diBytes t ++ s) 0 = (t, (diBytes t).length, 0) := hTP
    rw [hTP'] at HTK
    have hsm : tSame t t = true := tSame_iff.2 rfl
    have HSm := Lib.hid hsm
    have hEq : (diMay u = true ∧ t = u) ∨ (diMay u = true ∧ ¬ t = u ∧ ¬ diBytes t = diBytes u) ∨ diMay u = false := by
      cases hmu : diMay u with
      | false => exact .inr (.inr rfl)
      | true =>
        by_cases htu : t = u
        · exact .inl ⟨rfl, htu⟩
        · exact .inr (.inl ⟨rfl, htu, fun e => htu (diBytes_inj hm hmu e)⟩)
    obtain ⟨p, hp⟩ : ∃ p, diBytes t = p := ⟨_, rfl⟩
    rw [hp] at HP1 hpl HTK hEq
    clear hm h1 h2 hTP hTP' hsm
    go_enter Try.func6, Try.ntmps6
    go_wp2_with fail
    refine (fewt_eq HT.out H1).mono ?_
    rintro e w1 ⟨rfl, rfl⟩
    go_wp2_with fail
    refine (fewt_eq HU.out H2).mono ?_
    rintro e w1 ⟨rfl, rfl⟩
    go_wp2_with fail
    refine (diput_eq HT.out ST.out HP1).mono ?_
    rintro e w1 ⟨rfl, b⟩
    have B1 := Lib.hid b
    clear b
    go_wp2_with fail
    refine (dimay_eq (HT.out.later B1.out) ST.out HM).mono ?_
    rintro e w2 ⟨rfl, b⟩
    have B2 := Lib.hid (below2' B1.out b)
    clear b B1
    go_wp2_with fail
    refine (HTK.out _).mono ?_
    rintro e w3 ⟨v3, rfl, t3, b⟩
    have B3 := Lib.hid (below2' B2.out b)
    have T3 := Lib.hid t3
    clear b t3 B2
    go_wp2_with fail
    refine (tsame_eq T3.out (HT.out.later B3.out) HSm).mono ?_
    rintro e w4 ⟨rfl, b⟩
    have B4 := Lib.hid (below2' B3.out b)
    clear b B3 T3
    rcases hEq with ⟨hmu, htu⟩ | ⟨hmu, htu, hne⟩ | hmu
    · have HP2 : Hid (diPut u = (p, true)) := Lib.hid (by rw [diPut_yes hmu, ← htu, hp])
      have HSa : Hid (tSame t u = true) := Lib.hid (tSame_iff.2 htu)
      clear hmu htu hp
      go_wp2_with fail
      refine (diput_eq (HU.out.later B4.out) SU.out HP2).mono ?_
      rintro e w5 ⟨rfl, b⟩
      have B5 := Lib.hid (below2' B4.out b)
      clear b B4
      go_wp2_with fail
      refine (tsame_eq (HT.out.later B5.out) (HU.out.later B5.out) HSa).mono ?_
      rintro e w6 ⟨rfl, b⟩
      have Bn := Lib.hid (below2' B5.out b)
      clear b B5
      go_wp2_with fail
      refine (HK.out _).mono ?_
      rintro e w8 ⟨v8, rfl, t8, b8⟩
      have B8 := Lib.hid (below2' Bn.out b8)
      have T8 := Lib.hid t8
      have hT8 := t8.open'
      obtain ⟨a8, c8, rfl, hm8⟩ := hT8
      clear b8 t8 Bn
      by_cases he : er = 0
      · subst he
        obtain ⟨s1, s2, s3⟩ := hbb rfl
        have hsl := fun w => run_slice_bytes_to (P := Try.prog) w 9 s f f rfl Try.underlying9 s3
        have HS := Lib.hid s1
        have HP := Lib.hid s2
        clear s1 s2 hz hbb
        go_wp2_with fail
        refine (diput_eq T8.out HS.out HP).mono ?_
        rintro e w9 ⟨rfl, b9⟩
        have B9 := Lib.hid (below2' B8.out b9)
        clear b9 B8
        go_wp2_with fail
        refine (live5 _).mono ?_
        rintro e w10 ⟨rfl, b10⟩
        have B10 := Lib.hid (below2' B9.out b10)
        clear b10 B9
        go_wp2_with fail
        go_ret
        exact ⟨rfl, B10.out⟩
      · obtain ⟨rfl, rfl⟩ := hz.resolve_left he
        have te : ((er : Int) != 0) = true := by simp; omega
        clear hz hbb
        go_wp2_with fail
        refine (live5 _).mono ?_
        rintro e w10 ⟨rfl, b10⟩
        have B10 := Lib.hid (below2' B8.out b10)
        clear b10 B8
        go_wp2_with fail
        go_ret
        exact ⟨rfl, B10.out⟩
    · have HP2 := Lib.hid (diPut_yes hmu)
      obtain ⟨q, hq⟩ : ∃ q, diBytes u = q := ⟨_, rfl⟩
      rw [hq] at HP2 hne
      have t1 : (p == q) = false := by simpa using hne
      have HSa : Hid (tSame t u = false) := Lib.hid (by rw [Bool.eq_false_iff]; intro e; exact htu (tSame_iff.1 e))
      clear hmu htu hp hq hne
      go_wp2_with fail
      refine (diput_eq (HU.out.later B4.out) SU.out HP2).mono ?_
      rintro e w5 ⟨rfl, b⟩
      have B5 := Lib.hid (below2' B4.out b)
      clear b B4
      go_wp2_with fail
      refine (tsame_eq (HT.out.later B5.out) (HU.out.later B5.out) HSa).mono ?_
      rintro e w6 ⟨rfl, b⟩
      have Bn := Lib.hid (below2' B5.out b)
      clear b B5
      go_wp2_with fail
      refine (HK.out _).mono ?_
      rintro e w8 ⟨v8, rfl, t8, b8⟩
      have B8 := Lib.hid (below2' Bn.out b8)
      have T8 := Lib.hid t8
      have hT8 := t8.open'
      obtain ⟨a8, c8, rfl, hm8⟩ := hT8
      clear b8 t8 Bn
      by_cases he : er = 0
      · subst he
        obtain ⟨s1, s2, s3⟩ := hbb rfl
        have hsl := fun w => run_slice_bytes_to (P := Try.prog) w 9 s f f rfl Try.underlying9 s3
        have HS := Lib.hid s1
        have HP := Lib.hid s2
        clear s1 s2 hz hbb
        go_wp2_with fail
        refine (diput_eq T8.out HS.out HP).mono ?_
        rintro e w9 ⟨rfl, b9⟩
        have B9 := Lib.hid (below2' B8.out b9)
        clear b9 B8
        go_wp2_with fail
        refine (live5 _).mono ?_
        rintro e w10 ⟨rfl, b10⟩
        have B10 := Lib.hid (below2' B9.out b10)
        clear b10 B9
        go_wp2_with fail
        go_ret
        exact ⟨rfl, B10.out⟩
      · obtain ⟨rfl, rfl⟩ := hz.resolve_left he
        have te : ((er : Int) != 0) = true := by simp; omega
        clear hz hbb
        go_wp2_with fail
        refine (live5 _).mono ?_
        rintro e w10 ⟨rfl, b10⟩
        have B10 := Lib.hid (below2' B8.out b10)
        clear b10 B8
        go_wp2_with fail
        go_ret
        exact ⟨rfl, B10.out⟩
    · have HP2 := Lib.hid (diPut_no hmu)
      clear hmu hp
      go_wp2_with fail
      refine (diput_eq (HU.out.later B4.out) SU.out HP2).mono ?_
      rintro e w5 ⟨rfl, b⟩
      have Bn := Lib.hid (below2' B4.out b)
      clear b B4
      go_wp2_with fail
      refine (HK.out _).mono ?_
      rintro e w8 ⟨v8, rfl, t8, b8⟩
      have B8 := Lib.hid (below2' Bn.out b8)
      have T8 := Lib.hid t8
      have hT8 := t8.open'
      obtain ⟨a8, c8, rfl, hm8⟩ := hT8
      clear b8 t8 Bn
      by_cases he : er = 0
      · subst he
        obtain ⟨s1, s2, s3⟩ := hbb rfl
        have hsl := fun w => run_slice_bytes_to (P := Try.prog) w 9 s f f rfl Try.underlying9 s3
        have HS := Lib.hid s1
        have HP := Lib.hid s2
        clear s1 s2 hz hbb
        go_wp2_with fail
        refine (diput_eq T8.out HS.out HP).mono ?_
        rintro e w9 ⟨rfl, b9⟩
        have B9 := Lib.hid (below2' B8.out b9)
        clear b9 B8
        go_wp2_with fail
        refine (live5 _).mono ?_
        rintro e w10 ⟨rfl, b10⟩
        have B10 := Lib.hid (below2' B9.out b10)
        clear b10 B9
        go_wp2_with fail
        go_ret
        exact ⟨rfl, B10.out⟩
      · obtain ⟨rfl, rfl⟩ := hz.resolve_left he
        have te : ((er : Int) != 0) = true := by simp; omega
        clear hz hbb
        go_wp2_with fail
        refine (live5 _).mono ?_
        rintro e w10 ⟨rfl, b10⟩
        have B10 := Lib.hid (below2' B8.out b10)
        clear b10 B8
        go_wp2_with fail
        go_ret
        exact ⟨rfl, B10.out⟩

theorem walkDigestBack {w : World} (vt : Value) (t : List Row) (ht : Tab w vt t) (_ : ∀ r ∈ t, r.c.length ≤ maxLen ∧ r.v.st.length ≤ maxLen) (vu : Value) (u : List Row) (hu : Tab w vu u) (_ : ∀ r ∈ u, r.c.length ≤ maxLen ∧ r.v.st.length ≤ maxLen) (s : List UInt8) (_ : s.length ≤ maxLen) :
    Calls Try.prog 6 #[vt, vu, .string ⟨s.toArray⟩] w fun e w' => e = .returned (.bool true) ∧ Below w.heap.size w w' := by
  cases h1 : fewT t with
  | false => exact digestBack_out ht hu s (.inl h1)
  | true =>
    cases h2 : fewT u with
    | false => exact digestBack_out ht hu s (.inr (.inl ⟨h1, h2⟩))
    | true =>
      by_cases h3 : 300 < s.length
      · exact digestBack_out ht hu s (.inr (.inr ⟨h1, h2, h3⟩))
      · exact digestBack_in ht hu s h1 h2 (by omega)

end Go.Proofs.Ytocjeehoghfnmaa
