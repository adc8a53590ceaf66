/-
  LAYER 9: One, Ahead (the document's); May, the code's and the document's.
-/
import Derived.Test.YtkmbnpjnjlcjmaaSesFind
import Derived.Test.YtkmbnpjnjlcjmaaSesSame
import Derived.Test.YtkmbnpjnjlcjmaaValMay
namespace Go.Proofs.Ytkmbnpjnjlcjmaa
open Go.RowKit

/-- Texts of no more bytes than a walk can count. -/
def ShortS (l : List Ses) : Prop := ∀ s ∈ l, s.u.length ≤ 4294967296 ∧ s.v.st.length ≤ 4294967296

theorem ShortS.get {l : List Ses} (h : ShortS l) {k : Nat} (hk : k < l.length) : (l.getD k Ses.zero).u.length ≤ 4294967296 ∧ (l.getD k Ses.zero).v.st.length ≤ 4294967296 := by
  rw [sgetD hk]
  exact h _ (List.getElem_mem hk)

set_option maxHeartbeats 1600000 in
set_option maxRecDepth 100000 in
theorem rone_any (u st : List UInt8) (id a b c : Int) (hu : u.length ≤ 4294967296) (hst : st.length ≤ 4294967296) {r : Bool} (h : Hid (seOne ⟨u, id, ⟨a, b, c, st⟩⟩ = r)) (w : World) :
    Calls Try.prog 30 #[.agg #[.string ⟨u.toArray⟩, .int .i64 id, .int .i64 a, .int .i64 b, .int .i64 c, .string ⟨st.toArray⟩]] w fun e w' => e = .returned (.bool r) ∧ Below w.heap.size w w' := by
  have B0 := Lib.hid (bl_newZ w (.cells #[.string ⟨u.toArray⟩, .int .i64 id, .int .i64 a, .int .i64 b, .int .i64 c, .string ⟨st.toArray⟩] 34))
  rcases seOne_cases u st id a b c with ⟨h1, h2⟩ | ⟨h1, h3, h2⟩ | ⟨h1, h3, h4, h2⟩ | ⟨h1, h3, h4, h2⟩
  · have hI := Lib.hid (ris_any u hu)
    rw [h1] at hI
    rw [h.out] at h2
    subst h2
    clear h h1
    go_enter Try.func30, Try.ntmps30
    go_wp2_with fail
    refine (hI.out _).mono ?_
    rintro e w1 ⟨rfl, rfl⟩
    go_wp2_with fail
    go_ret
    exact ⟨rfl, B0.out⟩
  · have hI := Lib.hid (ris_any u hu)
    rw [h1] at hI
    rw [h.out] at h2
    subst h2
    have t1 : decide (0 ≤ id) = false := by simpa using h3
    clear h h1
    go_enter Try.func30, Try.ntmps30
    go_wp2_with fail
    refine (hI.out _).mono ?_
    rintro e w1 ⟨rfl, rfl⟩
    go_wp2_with fail
    go_ret
    exact ⟨rfl, B0.out⟩
  · have hI := Lib.hid (ris_any u hu)
    rw [h1] at hI
    rw [h.out] at h2
    subst h2
    have t1 : decide (0 ≤ id) = true := by simpa using h3
    have t2 : decide (id < 4) = false := by simpa using h4
    clear h h1
    go_enter Try.func30, Try.ntmps30
    go_wp2_with fail
    refine (hI.out _).mono ?_
    rintro e w1 ⟨rfl, rfl⟩
    go_wp2_with fail
    go_ret
    exact ⟨rfl, B0.out⟩
  · have hI := Lib.hid (ris_any u hu)
    rw [h1] at hI
    rw [h.out] at h2
    have hV := Lib.hid (rmay_any a b c st hst)
    rw [← h2] at hV
    have t1 : decide (0 ≤ id) = true := by simpa using h3
    have t2 : decide (id < 4) = true := by simpa using h4
    clear h h1 h2
    go_enter Try.func30, Try.ntmps30
    go_wp2_with fail
    refine (hI.out _).mono ?_
    rintro e w1 ⟨rfl, rfl⟩
    go_wp2_with fail
    refine (hV.out _).mono ?_
    rintro e w2 ⟨rfl, b⟩
    have B2 := Lib.hid (below2Z B0.out b)
    clear b
    go_wp2_with fail
    go_ret
    exact ⟨rfl, B2.out⟩

theorem seLt_cases (eu fu : List UInt8) (ei fi : Int) (v v' : Val) :
    (idLess eu fu = true ∧ seLt ⟨eu, ei, v⟩ ⟨fu, fi, v'⟩ = true) ∨ (idLess eu fu = false ∧ (eu == fu) = false ∧ seLt ⟨eu, ei, v⟩ ⟨fu, fi, v'⟩ = false) ∨ (idLess eu fu = false ∧ (eu == fu) = true ∧ seLt ⟨eu, ei, v⟩ ⟨fu, fi, v'⟩ = decide (ei < fi)) := by
  unfold seLt
  cases h : idLess eu fu with
  | true => exact .inl ⟨rfl, rfl⟩
  | false =>
    by_cases he : eu = fu
    · exact .inr (.inr ⟨rfl, by simpa using he, by simp [he]⟩)
    · exact .inr (.inl ⟨rfl, by rw [beq_eq_false_iff_ne]; exact he, by simp [he]⟩)

set_option maxHeartbeats 1600000 in
set_option maxRecDepth 100000 in
theorem rahead_any (eu es fu fs : List UInt8) (ei ea eb ec fi fa fb fc : Int) {r : Bool} (h : Hid (seLt ⟨eu, ei, ⟨ea, eb, ec, es⟩⟩ ⟨fu, fi, ⟨fa, fb, fc, fs⟩⟩ = r)) (w : World) :
    Calls Try.prog 53 #[.agg #[.string ⟨eu.toArray⟩, .int .i64 ei, .int .i64 ea, .int .i64 eb, .int .i64 ec, .string ⟨es.toArray⟩], .agg #[.string ⟨fu.toArray⟩, .int .i64 fi, .int .i64 fa, .int .i64 fb, .int .i64 fc, .string ⟨fs.toArray⟩]] w fun e w' => e = .returned (.bool r) ∧ Below w.heap.size w w' := by
  have B0 : Hid (Below w.heap.size w ((w.alloc (.cells #[.string ⟨eu.toArray⟩, .int .i64 ei, .int .i64 ea, .int .i64 eb, .int .i64 ec, .string ⟨es.toArray⟩] 34)).alloc (.cells #[.string ⟨fu.toArray⟩, .int .i64 fi, .int .i64 fa, .int .i64 fb, .int .i64 fc, .string ⟨fs.toArray⟩] 34))) := Lib.hid (((Below.refl _ _).alloc (Nat.le_refl _) _).alloc (by simp) _)
  rcases seLt_cases eu fu ei fi ⟨ea, eb, ec, es⟩ ⟨fa, fb, fc, fs⟩ with ⟨h1, h2⟩ | ⟨h1, t1, h2⟩ | ⟨h1, t1, h2⟩
  · have HL : Hid (∀ w, Calls Try.prog 29 #[.string ⟨eu.toArray⟩, .string ⟨fu.toArray⟩] w fun e w' => e = .returned (.bool true) ∧ w = w') := Lib.hid (rless_eq eu fu (Lib.hid h1))
    rw [h.out] at h2
    subst h2
    clear h h1
    go_enter Try.func53, Try.ntmps53
    go_wp2_with fail
    refine (HL.out _).mono ?_
    rintro e w1 ⟨rfl, rfl⟩
    go_wp2_with fail
    go_ret
    exact ⟨rfl, B0.out⟩
  · have HL : Hid (∀ w, Calls Try.prog 29 #[.string ⟨eu.toArray⟩, .string ⟨fu.toArray⟩] w fun e w' => e = .returned (.bool false) ∧ w = w') := Lib.hid (rless_eq eu fu (Lib.hid h1))
    rw [h.out] at h2
    subst h2
    clear h h1
    go_enter Try.func53, Try.ntmps53
    go_wp2_with fail
    refine (HL.out _).mono ?_
    rintro e w1 ⟨rfl, rfl⟩
    go_wp2_with fail
    go_ret
    exact ⟨rfl, B0.out⟩
  · have HL : Hid (∀ w, Calls Try.prog 29 #[.string ⟨eu.toArray⟩, .string ⟨fu.toArray⟩] w fun e w' => e = .returned (.bool false) ∧ w = w') := Lib.hid (rless_eq eu fu (Lib.hid h1))
    rw [h.out] at h2
    subst h2
    clear h h1
    go_enter Try.func53, Try.ntmps53
    go_wp2_with fail
    refine (HL.out _).mono ?_
    rintro e w1 ⟨rfl, rfl⟩
    go_wp2_with fail
    go_ret
    exact ⟨rfl, B0.out⟩

set_option maxHeartbeats 3200000 in
set_option maxRecDepth 100000 in
theorem smay9_any {w : World} {v : Value} {l : List Ses} (hv : Sess w v l) (hs : ShortS l) {r : Bool} (h : Hid (seMay l = r)) :
    Calls Try.prog 17 #[v] w fun e w' => e = .returned (.bool r) ∧ Below w.heap.size w w' := by
  have HV := Lib.hid hv
  have HS := Lib.hid hs
  obtain ⟨a, cap, rfl, hm⟩ := hv.open'
  clear hv hs
  by_cases h32 : l.length ≤ 32
  · have t0 : decide (32 < (l.length : Int)) = false := by simp; omega
    go_enter Try.func17, Try.ntmps17
    go_wp2_with fail
    go_loopw [10] (fun i wr => ∃ k : Nat, k ≤ l.length ∧ i = .int .i64 k ∧ Hid (Below w.heap.size w wr) ∧ Hid ((List.range k).all (seAt l) = true)) (fun i _ => l.length - (intOf i).toNat)
    case atStart => exact ⟨0, by omega, rfl, Below.refl _ _, rfl⟩
    case round =>
      obtain ⟨k, hk, rfl, HB, HA⟩ := hrel
      by_cases hlt : k < l.length
      · obtain ⟨bk, off, rfl, hc⟩ := HV.out.row HB.out k hlt
        obtain ⟨hl1, hl2⟩ := HS.out.get hlt
        obtain ⟨⟨eu, ei, ⟨ea, eb, ec, es⟩⟩, hr⟩ : ∃ r, l.getD k Ses.zero = r := ⟨_, rfl⟩
        rw [hr] at hc hl1 hl2
        try simp only at hl1 hl2
        have HC := Lib.hid hc
        obtain ⟨q, hq⟩ : ∃ q, seOne ⟨eu, ei, ⟨ea, eb, ec, es⟩⟩ = q := ⟨_, rfl⟩
        have HI := Lib.hid (mayBe_any eu es ei ea eb ec hl1 hl2 (Lib.hid hq))
        have hnn : (0 : Int) ≤ (k : Int) := by omega
        have hli : (k : Int) < (l.length : Int) := by omega
        have t1 : decide ((k : Int) < (l.length : Int)) = true := by simpa using hli
        obtain ⟨h0, h1, h2, h3, h4, h5⟩ := cells6 hc
        try simp only at h0 h1 h2 h3 h4 h5
        have C1 := Lib.hid (cellsAt_made (w := wr) (cs := #[.string ⟨eu.toArray⟩, .int .i64 ei, .int .i64 ea, .int .i64 eb, .int .i64 ec, .string ⟨es.toArray⟩]) (vs := sesVals ⟨eu, ei, ⟨ea, eb, ec, es⟩⟩) rfl 34 rfl)
        have bn := bl_newZ wr (.cells #[.string ⟨eu.toArray⟩, .int .i64 ei, .int .i64 ea, .int .i64 eb, .int .i64 ec, .string ⟨es.toArray⟩] 34)
        have B1 := Lib.hid (below2Z HB.out bn)
        clear hc bn
        cases q with
        | false =>
          have HR : seMay l = false := seMay_off hlt (by unfold seAt; rw [hr, hq]; rfl)
          rw [h.out] at HR
          subst HR
          clear hr hq
          go_wp2_with fail
          refine (HI.out _).mono ?_
          rintro e w2 ⟨rfl, b2⟩
          have B2 := Lib.hid (below2Z B1.out b2)
          clear b2 h0 h1 h2 h3 h4 h5
          go_wp2_with fail
          go_ret
          exact ⟨rfl, B2.out⟩
        | true =>
          rcases Nat.eq_zero_or_pos k with rfl | hpos
          · have HA2 : Hid ((List.range (0 + 1)).all (seAt l) = true) := all_next HA.out (by unfold seAt; rw [hr, hq]; rfl)
            simp only [Nat.zero_mul, Nat.add_zero] at h0 h1 h2 h3 h4 h5
            clear hr hq
            go_wp2_with fail
            refine (HI.out _).mono ?_
            rintro e w2 ⟨rfl, b2⟩
            have B2 := Lib.hid (below2Z B1.out b2)
            clear b2 h0 h1 h2 h3 h4 h5
            go_wp2_with fail
            refine wp_region_quiet_below (by kernel_rfl) (by kernel_rfl) ?_
            repeat (go_big_quiet_step (fail))
            refine wpQuiet_nil ?_
            intro w5 hw5
            have B5 := Lib.hid (below2Z B2.out (regrownZ hw5))
            clear hw5
            go_wp2_with fail
            go_roundw
            case rel => exact ⟨1, by omega, by go_num, B5, HA2⟩
            case measure => simp [intOf]; omega
          · obtain ⟨j, rfl⟩ : ∃ j, k = j + 1 := ⟨k - 1, by omega⟩
            obtain ⟨b2, off2, e2, hP⟩ := HV.out.row HB.out j (by omega)
            injection e2 with e2
            injection e2 with e3 e4 _
            subst e3 e4
            obtain ⟨⟨fu, fi, ⟨fa, fb, fc, fs⟩⟩, hr2⟩ : ∃ r, l.getD j Ses.zero = r := ⟨_, rfl⟩
            rw [hr2] at hP
            have HP := Lib.hid (hP.later (bl_newZ wr (.cells #[.string ⟨eu.toArray⟩, .int .i64 ei, .int .i64 ea, .int .i64 eb, .int .i64 ec, .string ⟨es.toArray⟩] 34)))
            obtain ⟨p, hp⟩ : ∃ p, seLt ⟨fu, fi, ⟨fa, fb, fc, fs⟩⟩ ⟨eu, ei, ⟨ea, eb, ec, es⟩⟩ = p := ⟨_, rfl⟩
            have HK1 := Lib.hid (keyOf_any fu fs fi fa fb fc)
            have HK2 := Lib.hid (keyOf_any eu es ei ea eb ec)
            have HL := Lib.hid (isAhead_any fu eu fi ei (r := p) (Lib.hid (by rw [← hp]; rfl)))
            have hAt : seAt l (j + 1) = p := by
              unfold seAt
              rw [hr, show j + 1 - 1 = j by omega, hr2, hq, hp]
              simp
            have em : ((j + 1 : Nat) : Int) - 1 = (j : Int) := by omega
            have t6 : (0 : Int) ≤ (j : Int) := by omega
            have t7 : (j : Int) < (l.length : Int) := by omega
            have t8 : decide ((0 : Int) < ((j + 1 : Nat) : Int)) = true := by rw [decide_eq_true_eq]; omega
            have HAt := Lib.hid hAt
            clear hr hq hr2 hp hP hAt
            go_wp2_with fail
            refine (HI.out _).mono ?_
            rintro e w2 ⟨rfl, b2⟩
            have B2 := Lib.hid (below2Z B1.out b2)
            have C2 := Lib.hid (C1.out.later b2)
            have P2 := Lib.hid (HP.out.later b2)
            clear b2 h0 h1 h2 h3 h4 h5
            go_wp2_with fail
            obtain ⟨q0, q1, q2, q3, q4, q5⟩ := cells6_regrown C2.out
            obtain ⟨p0, p1, p2, p3, p4, p5⟩ := cells6_regrown P2.out
            simp only [Nat.zero_add] at q0 q1 q2 q3 q4 q5
            try simp only at p0 p1 p2 p3 p4 p5
            refine wp_region_quiet_below (by kernel_rfl) (by kernel_rfl) ?_
            repeat (go_big_quiet_step (first | with_reducible exact rgB HK1.out _ _ _ | with_reducible exact rgB HK2.out _ _ _ | with_reducible exact rgB HL.out _ _ _))
            refine wpQuiet_nil ?_
            intro w5 hw5
            have B5 := Lib.hid (below2Z B2.out (regrownZ hw5))
            clear hw5 p0 p1 p2 p3 p4 p5 q0 q1 q2 q3 q4 q5
            cases p with
            | true =>
              have HA2 : Hid ((List.range (j + 1 + 1)).all (seAt l) = true) := all_next HA.out HAt.out
              go_wp2_with fail
              go_roundw
              case rel => exact ⟨j + 1 + 1, by omega, by go_num, B5, HA2⟩
              case measure => simp [intOf]; omega
            | false =>
              have HR : seMay l = false := seMay_off hlt HAt.out
              rw [h.out] at HR
              subst HR
              go_wp2_with fail
              go_ret
              exact ⟨rfl, B5.out⟩
      · obtain rfl : k = l.length := by omega
        have HR : seMay l = true := seMay_all h32 HA.out
        rw [h.out] at HR
        subst HR
        go_wp2_with fail
        go_ret
        exact ⟨rfl, HB.out⟩
  · have t0 : decide (32 < (l.length : Int)) = true := by simp; omega
    have HR : seMay l = false := seMay_long h32
    rw [h.out] at HR
    subst HR
    go_enter Try.func17, Try.ntmps17
    go_wp2_with fail
    go_ret
    exact ⟨rfl, Below.refl _ _⟩

set_option maxHeartbeats 3200000 in
set_option maxRecDepth 100000 in
theorem rsmay9_any {w : World} {v : Value} {l : List Ses} (hv : Sess w v l) (hs : ShortS l) {r : Bool} (h : Hid (seMay l = r)) :
    Calls Try.prog 18 #[v] w fun e w' => e = .returned (.bool r) ∧ Below w.heap.size w w' := by
  have HV := Lib.hid hv
  have HS := Lib.hid hs
  obtain ⟨a, cap, rfl, hm⟩ := hv.open'
  clear hv hs
  by_cases h32 : l.length ≤ 32
  · have t0 : decide (32 < (l.length : Int)) = false := by simp; omega
    go_enter Try.func18, Try.ntmps18
    go_wp2_with fail
    go_loopw [3] (fun i wr => ∃ k : Nat, k ≤ l.length ∧ i = .int .i64 k ∧ Hid (Below w.heap.size w wr) ∧ Hid ((List.range k).all (seAt l) = true)) (fun i _ => l.length - (intOf i).toNat)
    case atStart => exact ⟨0, by omega, rfl, Below.refl _ _, rfl⟩
    case round =>
      obtain ⟨k, hk, rfl, HB, HA⟩ := hrel
      by_cases hlt : k < l.length
      · obtain ⟨bk, off, rfl, hc⟩ := HV.out.row HB.out k hlt
        obtain ⟨hl1, hl2⟩ := HS.out.get hlt
        obtain ⟨⟨eu, ei, ⟨ea, eb, ec, es⟩⟩, hr⟩ : ∃ r, l.getD k Ses.zero = r := ⟨_, rfl⟩
        rw [hr] at hc hl1 hl2
        try simp only at hl1 hl2
        have HC := Lib.hid hc
        obtain ⟨q, hq⟩ : ∃ q, seOne ⟨eu, ei, ⟨ea, eb, ec, es⟩⟩ = q := ⟨_, rfl⟩
        have HI := Lib.hid (rone_any eu es ei ea eb ec hl1 hl2 (Lib.hid hq))
        have hnn : (0 : Int) ≤ (k : Int) := by omega
        have hli : (k : Int) < (l.length : Int) := by omega
        have t1 : decide ((k : Int) < (l.length : Int)) = true := by simpa using hli
        obtain ⟨h0, h1, h2, h3, h4, h5⟩ := cells6_regrown hc
        try simp only at h0 h1 h2 h3 h4 h5
        clear hc
        cases q with
        | false =>
          have HR : seMay l = false := seMay_off hlt (by unfold seAt; rw [hr, hq]; rfl)
          rw [h.out] at HR
          subst HR
          clear hr hq
          go_wp2_with fail
          refine wp_region_quiet_below (by kernel_rfl) (by kernel_rfl) ?_
          repeat (go_big_quiet_step (with_reducible exact rgB HI.out _ _ _))
          refine wpQuiet_nil ?_
          intro w5 hw5
          have B5 := Lib.hid (below2Z HB.out (regrownZ hw5))
          clear hw5 h0 h1 h2 h3 h4 h5
          go_wp2_with fail
          go_ret
          exact ⟨rfl, B5.out⟩
        | true =>
          rcases Nat.eq_zero_or_pos k with rfl | hpos
          · have HA2 : Hid ((List.range (0 + 1)).all (seAt l) = true) := all_next HA.out (by unfold seAt; rw [hr, hq]; rfl)
            simp only [Nat.zero_mul, Nat.add_zero] at h0 h1 h2 h3 h4 h5
            clear hr hq
            go_wp2_with fail
            refine wp_region_quiet_below (by kernel_rfl) (by kernel_rfl) ?_
            repeat (go_big_quiet_step (with_reducible exact rgB HI.out _ _ _))
            refine wpQuiet_nil ?_
            intro w5 hw5
            have B5 := Lib.hid (below2Z HB.out (regrownZ hw5))
            clear hw5 h0 h1 h2 h3 h4 h5
            go_wp2_with fail
            go_roundw
            case rel => exact ⟨1, by omega, by go_num, B5, HA2⟩
            case measure => simp [intOf]; omega
          · obtain ⟨j, rfl⟩ : ∃ j, k = j + 1 := ⟨k - 1, by omega⟩
            obtain ⟨b2, off2, e2, hP⟩ := HV.out.row HB.out j (by omega)
            injection e2 with e2
            injection e2 with e3 e4 _
            subst e3 e4
            obtain ⟨⟨fu, fi, ⟨fa, fb, fc, fs⟩⟩, hr2⟩ : ∃ r, l.getD j Ses.zero = r := ⟨_, rfl⟩
            rw [hr2] at hP
            obtain ⟨p0, p1, p2, p3, p4, p5⟩ := cells6_regrown hP
            try simp only at p0 p1 p2 p3 p4 p5
            obtain ⟨p, hp⟩ : ∃ p, seLt ⟨fu, fi, ⟨fa, fb, fc, fs⟩⟩ ⟨eu, ei, ⟨ea, eb, ec, es⟩⟩ = p := ⟨_, rfl⟩
            have HL := Lib.hid (rahead_any fu fs eu es fi fa fb fc ei ea eb ec (r := p) (Lib.hid hp))
            have hAt : seAt l (j + 1) = p := by
              unfold seAt
              rw [hr, show j + 1 - 1 = j by omega, hr2, hq, hp]
              simp
            have em : ((j + 1 : Nat) : Int) - 1 = (j : Int) := by omega
            have t6 : (0 : Int) ≤ (j : Int) := by omega
            have t7 : (j : Int) < (l.length : Int) := by omega
            have t8 : decide ((0 : Int) < ((j + 1 : Nat) : Int)) = true := by rw [decide_eq_true_eq]; omega
            have HAt := Lib.hid hAt
            clear hr hq hr2 hp hP hAt
            go_wp2_with fail
            refine wp_region_quiet_below (by kernel_rfl) (by kernel_rfl) ?_
            repeat (go_big_quiet_step (first | with_reducible exact rgB HI.out _ _ _ | with_reducible exact rgB HL.out _ _ _))
            refine wpQuiet_nil ?_
            intro w5 hw5
            have B5 := Lib.hid (below2Z HB.out (regrownZ hw5))
            clear hw5 p0 p1 p2 p3 p4 p5 h0 h1 h2 h3 h4 h5
            cases p with
            | true =>
              have HA2 : Hid ((List.range (j + 1 + 1)).all (seAt l) = true) := all_next HA.out HAt.out
              go_wp2_with fail
              go_roundw
              case rel => exact ⟨j + 1 + 1, by omega, by go_num, B5, HA2⟩
              case measure => simp [intOf]; omega
            | false =>
              have HR : seMay l = false := seMay_off hlt HAt.out
              rw [h.out] at HR
              subst HR
              go_wp2_with fail
              go_ret
              exact ⟨rfl, B5.out⟩
      · obtain rfl : k = l.length := by omega
        have HR : seMay l = true := seMay_all h32 HA.out
        rw [h.out] at HR
        subst HR
        go_wp2_with fail
        go_ret
        exact ⟨rfl, HB.out⟩
  · have t0 : decide (32 < (l.length : Int)) = true := by simp; omega
    have HR : seMay l = false := seMay_long h32
    rw [h.out] at HR
    subst HR
    go_enter Try.func18, Try.ntmps18
    go_wp2_with fail
    go_ret
    exact ⟨rfl, Below.refl _ _⟩

end Go.Proofs.Ytkmbnpjnjlcjmaa
