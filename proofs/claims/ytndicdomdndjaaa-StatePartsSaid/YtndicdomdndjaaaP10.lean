/-
  TEXTS OF THE PROOF, one behind the other: ValMay, SesKey, SesFind, SesIns, SesSame, SesMayC, StaMay.
-/
import Derived.Test.YtndicdomdndjaaaP01
import Derived.Test.YtndicdomdndjaaaP07
import Derived.Lib.Hide
import Derived.Maps.OwnSet
import Derived.Deep.RegionHeld
import Derived.Deep.AppendLies
import Derived.WalkSpells
import Derived.StillTailTactics
import Derived.Deep.QuietTactic
import Derived.BigQuiet
import Derived.Test.YtndicdomdndjaaaP08
import Derived.Test.YtndicdomdndjaaaP09

section

/-
  THE CONTRACTS OF value.May (with mayBeStatus) AND OF THE DOCUMENT'S ANSWER TO IT.
-/
namespace Go.Proofs.Ytndicdomdndjaaa
open Go.RowKit

theorem chOk_lo {b : UInt8} (h : b.toNat < 32) : chOk b = false := by unfold chOk; simp; omega
theorem chOk_hi {b : UInt8} (h : 126 < b.toNat) : chOk b = false := by unfold chOk; simp; omega
theorem chOk_yes {b : UInt8} (h : ¬ b.toNat < 32) (h' : ¬ 126 < b.toNat) : chOk b = true := by unfold chOk; simp; omega

theorem all_take_succ {l : List UInt8} {k : Nat} {b : UInt8} (hb : l[k]? = some b) (p : UInt8 → Bool) : (l.take (k + 1)).all p = ((l.take k).all p && p b) := by
  obtain ⟨h1, h2⟩ := List.getElem?_eq_some_iff.1 hb
  rw [List.take_succ_eq_append_getElem h1, h2, List.all_append]
  simp

theorem all_no {l : List UInt8} {k : Nat} {b : UInt8} (hb : l[k]? = some b) {p : UInt8 → Bool} (h : p b = false) : l.all p = false := by
  obtain ⟨h1, h2⟩ := List.getElem?_eq_some_iff.1 hb
  rw [Bool.eq_false_iff]
  intro h'
  have := List.all_eq_true.1 h' l[k] (List.getElem_mem h1)
  rw [h2, h] at this
  cases this

set_option maxHeartbeats 400000 in
set_option maxRecDepth 100000 in
theorem stat_any (l : List UInt8) (hl : l.length ≤ 4294967296) (w : World) :
    Calls Try.prog 87 #[.string ⟨l.toArray⟩] w fun e w' => e = .returned (.bool (stOk l)) ∧ w = w' := by
  by_cases h : 32 < l.length
  · have HR : Hid (stOk l = false) := by show _ = _; unfold stOk; simp; omega
    go_enter Try.func87, Try.ntmps87
    go_wp2_with fail
    go_ret
    exact ⟨by rw [HR.out]; rfl, rfl⟩
  · have h32 : decide (l.length ≤ 32) = true := by simp; omega
    have H32 := Lib.hid h32
    clear h32
    go_enter Try.func87, Try.ntmps87
    go_wp2_with fail
    go_loop [9] (fun i => ∃ k : Nat, k ≤ l.length ∧ i = .int .i64 k ∧ Hid ((l.take k).all chOk = true)) (fun i => l.length - (intOf i).toNat)
    case atStart => exact ⟨0, by omega, rfl, by show _ = _; simp⟩
    case round =>
      obtain ⟨k, hk, rfl, HA⟩ := hrel
      by_cases hlt : k < l.length
      · have hlt' : k < (⟨l.toArray⟩ : ByteArray).size := by rw [size_bytes]; exact hlt
        obtain ⟨b, hb⟩ : ∃ b : UInt8, (⟨l.toArray⟩ : ByteArray)[k]'hlt' = b := ⟨_, rfl⟩
        have HB : Hid (l[k]? = some b) := by rw [← hb]; exact bytes_at l k hlt'
        have h256 := b.toNat_lt
        by_cases h1 : b.toNat < 32
        · have HN : Hid (stOk l = false) := by show _ = _; unfold stOk; rw [all_no HB.out (chOk_lo h1)]; simp
          go_wp2_with fail
          go_ret
          exact ⟨by rw [HN.out]; rfl, rfl⟩
        · by_cases h2 : 126 < b.toNat
          · have HN : Hid (stOk l = false) := by show _ = _; unfold stOk; rw [all_no HB.out (chOk_hi h2)]; simp
            go_wp2_with fail
            go_ret
            exact ⟨by rw [HN.out]; rfl, rfl⟩
          · have HN : Hid ((l.take (k + 1)).all chOk = true) := by show _ = _; rw [all_take_succ HB.out, HA.out, chOk_yes h1 h2]; rfl
            go_wp2_with fail
            go_round
            case rel => exact ⟨k + 1, by omega, by go_num, HN⟩
            case measure => simp [intOf]; omega
      · obtain rfl : k = l.length := by omega
        have HR : Hid (stOk l = true) := by
          show _ = _
          have := HA.out
          rw [List.take_length] at this
          unfold stOk
          rw [this, H32.out]
          rfl
        go_wp2_with fail
        go_ret
        exact ⟨by rw [HR.out]; rfl, rfl⟩

/-- A value as the model lays it. -/
def numsV (a b c : Int) (l : List UInt8) : Value := .agg #[.int .i64 a, .int .i64 b, .int .i64 c, .string ⟨l.toArray⟩]

theorem numsOk_cases (a b c : Int) : (numsOk a b c = true ∧ 1 ≤ a ∧ a ≤ 4 ∧ -128 ≤ b ∧ b ≤ 127 ∧ 0 ≤ c ∧ c ≤ 1099511627776) ∨
    (numsOk a b c = false ∧ (a < 1 ∨ (1 ≤ a ∧ 4 < a) ∨ (1 ≤ a ∧ a ≤ 4 ∧ b < -128) ∨ (1 ≤ a ∧ a ≤ 4 ∧ -128 ≤ b ∧ 127 < b) ∨ (1 ≤ a ∧ a ≤ 4 ∧ -128 ≤ b ∧ b ≤ 127 ∧ c < 0) ∨ (1 ≤ a ∧ a ≤ 4 ∧ -128 ≤ b ∧ b ≤ 127 ∧ 0 ≤ c ∧ 1099511627776 < c))) := by
  unfold numsOk
  by_cases h : 1 ≤ a ∧ a ≤ 4 ∧ -128 ≤ b ∧ b ≤ 127 ∧ 0 ≤ c ∧ c ≤ 1099511627776
  · exact .inl ⟨by simpa using h, h⟩
  · exact .inr ⟨by simpa using h, by omega⟩

set_option maxHeartbeats 800000 in
set_option maxRecDepth 100000 in
theorem may_any (a b c : Int) (l : List UInt8) (hl : l.length ≤ 4294967296) (w : World) :
    Calls Try.prog 48 #[.agg #[.int .i64 a, .int .i64 b, .int .i64 c, .string ⟨l.toArray⟩]] w fun e w' => e = .returned (.bool (vaMay ⟨a, b, c, l⟩)) ∧ Below w.heap.size w w' := by
  rcases numsOk_cases a b c with ⟨h, h1, h2, h3, h4, h5, h6⟩ | ⟨h, hor⟩
  · have HR : Hid (vaMay ⟨a, b, c, l⟩ = stOk l) := by show _ = _; unfold vaMay; simp only; rw [h]; rfl
    clear h
    go_enter Try.func48, Try.ntmps48
    go_wp2_with fail
    refine (stat_any l hl _).mono ?_
    rintro e w' ⟨rfl, rfl⟩
    go_wp2_with fail
    go_ret
    exact ⟨by rw [HR.out]; rfl, (Below.refl _ _).alloc (Nat.le_refl _) _⟩
  · have HR : Hid (vaMay ⟨a, b, c, l⟩ = false) := by show _ = _; unfold vaMay; simp only; rw [h]; rfl
    clear h
    rcases hor with h1 | ⟨h1, h2⟩ | ⟨h1, h2, h3⟩ | ⟨h1, h2, h3, h4⟩ | ⟨h1, h2, h3, h4, h5⟩ | ⟨h1, h2, h3, h4, h5, h6⟩
    all_goals
      go_enter Try.func48, Try.ntmps48
      go_wp2_with fail
      go_ret
      exact ⟨by rw [HR.out]; rfl, (Below.refl _ _).alloc (Nat.le_refl _) _⟩

end Go.Proofs.Ytndicdomdndjaaa

end

section

/-
  LAYER 9: the key of a session; whether one stands ahead; whether one may be: the code's, and the document's.
-/
namespace Go.Proofs.Ytndicdomdndjaaa
open Go.RowKit

set_option maxHeartbeats 800000 in
set_option maxRecDepth 100000 in
theorem keyOf_any (u st : List UInt8) (id a b c : Int) (w : World) :
    Calls Try.prog 71 #[.agg #[.string ⟨u.toArray⟩, .int .i64 id, .int .i64 a, .int .i64 b, .int .i64 c, .string ⟨st.toArray⟩]] w fun e w' => e = .returned (.agg #[.string ⟨u.toArray⟩, .int .i64 id]) ∧ Below w.heap.size w w' := by
  go_enter Try.func71, Try.ntmps71
  go_wp2_with fail
  refine bodyPost_ret (v := .agg #[.string ⟨u.toArray⟩, .int .i64 id]) (by simp [results, Try.results71, go_sem]) rfl ⟨rfl, ?_⟩
  repeat (first | exact Below.refl _ _ | refine Below.setCell ?_ (by first | (simp; done) | (simp; omega)) _ | refine Below.alloc ?_ (by first | (simp; done) | (simp; omega)) _)

set_option maxHeartbeats 800000 in
set_option maxRecDepth 100000 in
theorem isAhead_any (u u' : List UInt8) (i i' : Int) {r : Bool} (h : Hid (seLt ⟨u, i, Val.zero⟩ ⟨u', i', Val.zero⟩ = r)) (w : World) :
    Calls Try.prog 79 #[.agg #[.string ⟨u.toArray⟩, .int .i64 i], .agg #[.string ⟨u'.toArray⟩, .int .i64 i']] w fun e w' => e = .returned (.bool r) ∧ Below w.heap.size w w' := by
  have B0 : Hid (Below w.heap.size w ((w.alloc (.cells #[.string ⟨u.toArray⟩, .int .i64 i] 135)).alloc (.cells #[.string ⟨u'.toArray⟩, .int .i64 i'] 135))) := Lib.hid (((Below.refl _ _).alloc (Nat.le_refl _) _).alloc (by simp) _)
  by_cases hu : u = u'
  · subst hu
    have hr : decide (i < i') = r := by
      rw [← h.out]
      unfold seLt
      simp [idLess_irrefl]
    clear h
    go_enter Try.func79, Try.ntmps79
    go_wp2_with fail
    go_ret
    exact ⟨rfl, B0.out⟩
  · have t1 : (u != u') = true := by rw [bne_iff_ne]; exact hu
    have t2 : (u == u') = false := by rw [beq_eq_false_iff_ne]; exact hu
    have HL : Hid (idLess u u' = r) := by
      show _ = _
      rw [← h.out]
      unfold seLt
      simp [hu]
    clear h hu
    go_enter Try.func79, Try.ntmps79
    go_wp2_with fail
    refine (less_eq u u' HL _).mono ?_
    rintro e w1 ⟨rfl, b⟩
    have B1 := Lib.hid (below2Z B0.out b)
    clear b
    go_wp2_with fail
    go_ret
    exact ⟨rfl, B1.out⟩

/-- What a session may be, part by part. -/
theorem seOne_cases (u st : List UInt8) (id a b c : Int) :
    (idIs u = false ∧ seOne ⟨u, id, ⟨a, b, c, st⟩⟩ = false) ∨ (idIs u = true ∧ id < 0 ∧ seOne ⟨u, id, ⟨a, b, c, st⟩⟩ = false) ∨ (idIs u = true ∧ 0 ≤ id ∧ 4 ≤ id ∧ seOne ⟨u, id, ⟨a, b, c, st⟩⟩ = false) ∨
    (idIs u = true ∧ 0 ≤ id ∧ id < 4 ∧ seOne ⟨u, id, ⟨a, b, c, st⟩⟩ = vaMay ⟨a, b, c, st⟩) := by
  unfold seOne
  cases hu : idIs u with
  | false => exact .inl ⟨rfl, by simp⟩
  | true =>
    by_cases h0 : 0 ≤ id
    · by_cases h4 : id < 4
      · exact .inr (.inr (.inr ⟨rfl, h0, h4, by simp [h0, h4]⟩))
      · exact .inr (.inr (.inl ⟨rfl, h0, by omega, by simp [h4]⟩))
    · exact .inr (.inl ⟨rfl, by omega, by simp [h0]⟩)

set_option maxHeartbeats 1600000 in
set_option maxRecDepth 100000 in
theorem mayBe_any (u st : List UInt8) (id a b c : Int) (hu : u.length ≤ 4294967296) (hst : st.length ≤ 4294967296) {r : Bool} (h : Hid (seOne ⟨u, id, ⟨a, b, c, st⟩⟩ = r)) (w : World) :
    Calls Try.prog 69 #[.agg #[.string ⟨u.toArray⟩, .int .i64 id, .int .i64 a, .int .i64 b, .int .i64 c, .string ⟨st.toArray⟩]] w fun e w' => e = .returned (.bool r) ∧ Below w.heap.size w w' := by
  have B0 := Lib.hid (bl_newZ w (.cells #[.string ⟨u.toArray⟩, .int .i64 id, .int .i64 a, .int .i64 b, .int .i64 c, .string ⟨st.toArray⟩] 81))
  have HC := Lib.hid (cellsAt_made (w := w) (cs := #[.string ⟨u.toArray⟩, .int .i64 id, .int .i64 a, .int .i64 b, .int .i64 c, .string ⟨st.toArray⟩]) (vs := sesVals ⟨u, id, ⟨a, b, c, st⟩⟩) rfl 81 rfl)
  rcases seOne_cases u st id a b c with ⟨h1, h2⟩ | ⟨h1, h3, h2⟩ | ⟨h1, h3, h4, h2⟩ | ⟨h1, h3, h4, h2⟩
  · have hI := Lib.hid (is_any u hu)
    rw [h1] at hI
    rw [h.out] at h2
    subst h2
    clear h h1
    go_enter Try.func69, Try.ntmps69
    go_wp2_with fail
    refine (hI.out _).mono ?_
    rintro e w1 ⟨rfl, b⟩
    have B1 := Lib.hid (below2Z B0.out b)
    obtain ⟨c0, c1, c2, c3, c4, c5⟩ := cells6 (HC.out.later b)
    simp only [Nat.zero_add] at c0 c1 c2 c3 c4 c5
    clear b
    go_wp2_with fail
    go_ret
    exact ⟨rfl, B1.out⟩
  · have hI := Lib.hid (is_any u hu)
    rw [h1] at hI
    rw [h.out] at h2
    subst h2
    have t1 : decide (0 ≤ id) = false := by simpa using h3
    clear h h1
    go_enter Try.func69, Try.ntmps69
    go_wp2_with fail
    refine (hI.out _).mono ?_
    rintro e w1 ⟨rfl, b⟩
    have B1 := Lib.hid (below2Z B0.out b)
    obtain ⟨c0, c1, c2, c3, c4, c5⟩ := cells6 (HC.out.later b)
    simp only [Nat.zero_add] at c0 c1 c2 c3 c4 c5
    clear b
    go_wp2_with fail
    go_ret
    exact ⟨rfl, B1.out⟩
  · have hI := Lib.hid (is_any u hu)
    rw [h1] at hI
    rw [h.out] at h2
    subst h2
    have t1 : decide (0 ≤ id) = true := by simpa using h3
    have t2 : decide (id < 4) = false := by simpa using h4
    clear h h1
    go_enter Try.func69, Try.ntmps69
    go_wp2_with fail
    refine (hI.out _).mono ?_
    rintro e w1 ⟨rfl, b⟩
    have B1 := Lib.hid (below2Z B0.out b)
    obtain ⟨c0, c1, c2, c3, c4, c5⟩ := cells6 (HC.out.later b)
    simp only [Nat.zero_add] at c0 c1 c2 c3 c4 c5
    clear b
    go_wp2_with fail
    go_ret
    exact ⟨rfl, B1.out⟩
  · have hI := Lib.hid (is_any u hu)
    rw [h1] at hI
    rw [h.out] at h2
    have hV := Lib.hid (may_any a b c st hst)
    rw [← h2] at hV
    have t1 : decide (0 ≤ id) = true := by simpa using h3
    have t2 : decide (id < 4) = true := by simpa using h4
    clear h h1 h2
    go_enter Try.func69, Try.ntmps69
    go_wp2_with fail
    refine (hI.out _).mono ?_
    rintro e w1 ⟨rfl, b⟩
    have B1 := Lib.hid (below2Z B0.out b)
    obtain ⟨c0, c1, c2, c3, c4, c5⟩ := cells6 (HC.out.later b)
    simp only [Nat.zero_add] at c0 c1 c2 c3 c4 c5
    clear b
    go_wp2_with fail
    refine (hV.out _).mono ?_
    rintro e w2 ⟨rfl, b⟩
    have B2 := Lib.hid (below2Z B1.out b)
    clear b
    go_wp2_with fail
    go_ret
    exact ⟨rfl, B2.out⟩

end Go.Proofs.Ytndicdomdndjaaa

end

section

/-
  LAYER 9, THE CODE: find, and place.
-/
namespace Go.Proofs.Ytndicdomdndjaaa
open Go.RowKit

/-- What find tells. -/
def seFind (l : List Ses) (x : Ses) : Nat × Bool := match findO seIs l x with | some i => (i, true) | none => (0, false)

theorem seFind_yes {l : List Ses} {x : Ses} {k : Nat} (hk : k < l.length) (hn : ∀ j, j < k → seIs (l.getD j Ses.zero) x = false) (hs : seIs (l.getD k Ses.zero) x = true) : seFind l x = (k, true) := by
  unfold seFind
  rw [findO_of hk (by rw [← sgetD hk]; exact hs) (fun j hj => by rw [← sgetD (by omega : j < l.length)]; exact hn j hj)]

theorem seFind_no {l : List Ses} {x : Ses} (hn : ∀ j, j < l.length → seIs (l.getD j Ses.zero) x = false) : seFind l x = (0, false) := by
  unfold seFind
  rw [findO_of_none (fun y hy => by obtain ⟨i, hi, rfl⟩ := List.getElem_of_mem hy; rw [← sgetD hi]; exact hn i hi)]

theorem seFind_some {l : List Ses} {x : Ses} {k : Nat} (h : findO seIs l x = some k) : seFind l x = (k, true) := by unfold seFind; rw [h]
theorem seFind_none {l : List Ses} {x : Ses} (h : findO seIs l x = none) : seFind l x = (0, false) := by unfold seFind; rw [h]

/-- Two cells of a block. -/
theorem cells2k {w : World} {b o : Nat} {x y : Value} (h : CellsAt w b o [x, y]) : w.cell? ⟨b, o, none⟩ = some x ∧ w.cell? ⟨b, o + 1, none⟩ = some y := ⟨h 0 _ rfl, h 1 _ rfl⟩

set_option maxHeartbeats 1600000 in
set_option maxRecDepth 100000 in
theorem sefind_any {w : World} {v : Value} {l : List Ses} (hv : Sess w v l) (u : List UInt8) (id : Int) {i : Nat} {b : Bool} (h : Hid (seFind l (keyS u id) = (i, b))) :
    Calls Try.prog 70 #[v, .agg #[.string ⟨u.toArray⟩, .int .i64 id]] w fun e w' => e = .returned (.tuple #[.int .i64 i, .bool b]) ∧ Below w.heap.size w w' := by
  have HV := Lib.hid hv
  obtain ⟨a, cap, rfl, hm⟩ := hv.open'
  have HX := Lib.hid (cellsAt_made (w := w) (cs := #[.string ⟨u.toArray⟩, .int .i64 id]) (vs := [.string ⟨u.toArray⟩, .int .i64 id]) rfl 135 rfl)
  have B0 := Lib.hid (bl_newZ w (.cells #[.string ⟨u.toArray⟩, .int .i64 id] 135))
  clear hv
  go_enter Try.func70, Try.ntmps70
  go_wp2_with fail
  go_loopw [10] (fun i wr => ∃ k : Nat, k ≤ l.length ∧ i = .int .i64 k ∧ Hid (Below w.heap.size w wr) ∧ Hid (CellsAt wr w.heap.size 0 [.string ⟨u.toArray⟩, .int .i64 id]) ∧ Hid (∀ j, j < k → seIs (l.getD j Ses.zero) (keyS u id) = false)) (fun i _ => l.length - (intOf i).toNat)
  case atStart => exact ⟨0, by omega, rfl, B0, HX, by show ∀ _, _; intro j hj; omega⟩
  case round =>
    obtain ⟨k, hk, rfl, HB, HC, HN⟩ := hrel
    by_cases hlt : k < l.length
    · obtain ⟨bk, off, rfl, hc⟩ := HV.out.row HB.out k hlt
      obtain ⟨⟨eu, ei, ⟨ea, eb, ec, es⟩⟩, hr⟩ : ∃ r, l.getD k Ses.zero = r := ⟨_, rfl⟩
      rw [hr] at hc
      obtain ⟨h0, h1, h2, h3, h4, h5⟩ := cells6 hc
      try simp only at h0 h1 h2 h3 h4 h5
      have bn := bl_newZ wr (.cells #[.string ⟨eu.toArray⟩, .int .i64 ei, .int .i64 ea, .int .i64 eb, .int .i64 ec, .string ⟨es.toArray⟩] 81)
      have C1 := Lib.hid (cellsAt_made (w := wr) (cs := #[.string ⟨eu.toArray⟩, .int .i64 ei, .int .i64 ea, .int .i64 eb, .int .i64 ec, .string ⟨es.toArray⟩]) (vs := sesVals ⟨eu, ei, ⟨ea, eb, ec, es⟩⟩) rfl 81 rfl)
      have B1 := Lib.hid (below2Z HB.out bn)
      have HC1 := Lib.hid (HC.out.later bn)
      have HK := Lib.hid (keyOf_any eu es ei ea eb ec)
      obtain ⟨q, hq⟩ : ∃ q, seIs ⟨eu, ei, ⟨ea, eb, ec, es⟩⟩ (keyS u id) = q := ⟨_, rfl⟩
      have he : ∀ w, (binOp .eql 135 (.agg #[.string ⟨eu.toArray⟩, .int .i64 ei]) (.agg #[.string ⟨u.toArray⟩, .int .i64 id])).run Try.prog w = .ok (.bool q) w := fun w => by rw [key_eql, ← hq]; rfl
      have HQ : Hid (seIs (l.getD k Ses.zero) (keyS u id) = q) := by show _ = _; rw [hr]; exact hq
      clear hr hq hc bn
      go_wp2_with fail
      obtain ⟨q0, q1, q2, q3, q4, q5⟩ := cells6_regrown C1.out
      obtain ⟨y0, y1⟩ := cells2k HC1.out
      simp only [Nat.zero_add] at q0 q1 q2 q3 q4 q5 y0 y1
      replace y0 := cell_regrown y0
      replace y1 := cell_regrown y1
      clear h0 h1 h2 h3 h4 h5
      refine wp_region_quiet_below (by kernel_rfl) (by kernel_rfl) ?_
      repeat (go_big_quiet_step (with_reducible exact rgB HK.out _ _ _))
      refine wpQuiet_nil ?_
      intro w5 hw5
      have b5 := regrownZ hw5
      have B5 := Lib.hid (below2Z B1.out b5)
      have HC5 := Lib.hid (HC1.out.later b5)
      clear hw5 b5 q0 q1 q2 q3 q4 q5 y0 y1
      cases q with
      | true =>
        have HR := seFind_yes hlt HN.out HQ.out
        rw [h.out] at HR
        simp only [Prod.mk.injEq] at HR
        obtain ⟨rfl, rfl⟩ := HR
        go_wp2_with fail
        go_ret2
        exact ⟨rfl, B5.out⟩
      | false =>
        have HN2 : Hid (∀ j, j < k + 1 → seIs (l.getD j Ses.zero) (keyS u id) = false) := by
          show ∀ _, _
          intro j hj
          by_cases e : j = k
          · rw [e]; exact HQ.out
          · exact HN.out j (by omega)
        clear HQ
        go_wp2_with fail
        go_roundw
        case rel => exact ⟨k + 1, by omega, by go_num, B5, HC5, HN2⟩
        case measure => simp [intOf]; omega
    · obtain rfl : k = l.length := by omega
      have HR := seFind_no HN.out
      rw [h.out] at HR
      simp only [Prod.mk.injEq] at HR
      obtain ⟨rfl, rfl⟩ := HR
      go_wp2_with fail
      go_ret2
      exact ⟨rfl, HB.out⟩

theorem place_on {l : List Ses} {x : Ses} {k : Nat} (hr : RiseO seLt l) (hn : ∀ j, j < k → seLt (l.getD j Ses.zero) x = true) (hk : k < l.length) (hs : seLt (l.getD k Ses.zero) x = false) : placeO seLt l x = k := by
  rcases Nat.lt_trichotomy (placeO seLt l x) k with h | h | h
  · have h1 := hn _ h
    rw [sgetD (by omega)] at h1
    have h2 := placeO_behind seOrd hr (x := x) (k := placeO seLt l x) (by omega) (Nat.le_refl _)
    rw [h1] at h2; cases h2
  · exact h
  · have h1 := placeO_ahead h
    rw [← sgetD hk, hs] at h1; cases h1

theorem place_end {l : List Ses} {x : Ses} (hr : RiseO seLt l) (hn : ∀ j, j < l.length → seLt (l.getD j Ses.zero) x = true) : placeO seLt l x = l.length := by
  have hle := placeO_le (lt := seLt) l x
  rcases Nat.lt_or_ge (placeO seLt l x) l.length with h | h
  · have h1 := hn _ h
    rw [sgetD h] at h1
    have h2 := placeO_behind seOrd hr (x := x) h (Nat.le_refl _)
    rw [h1] at h2; cases h2
  · omega

set_option maxHeartbeats 1600000 in
set_option maxRecDepth 100000 in
theorem seplace_any {w : World} {v : Value} {l : List Ses} (hv : Sess w v l) (hr : RiseO seLt l) (u : List UInt8) (id : Int) {i : Nat} (h : Hid (placeO seLt l (keyS u id) = i)) :
    Calls Try.prog 74 #[v, .agg #[.string ⟨u.toArray⟩, .int .i64 id]] w fun e w' => e = .returned (.int .i64 i) ∧ Below w.heap.size w w' := by
  have HV := Lib.hid hv
  have HO := Lib.hid hr
  obtain ⟨a, cap, rfl, hm⟩ := hv.open'
  have HX := Lib.hid (cellsAt_made (w := w) (cs := #[.string ⟨u.toArray⟩, .int .i64 id]) (vs := [.string ⟨u.toArray⟩, .int .i64 id]) rfl 135 rfl)
  have B0 := Lib.hid (bl_newZ w (.cells #[.string ⟨u.toArray⟩, .int .i64 id] 135))
  clear hv hr
  go_enter Try.func74, Try.ntmps74
  go_wp2_with fail
  go_loopw [5] (fun i wr => ∃ k : Nat, k ≤ l.length ∧ i = .int .i64 k ∧ Hid (Below w.heap.size w wr) ∧ Hid (CellsAt wr w.heap.size 0 [.string ⟨u.toArray⟩, .int .i64 id]) ∧ Hid (∀ j, j < k → seLt (l.getD j Ses.zero) (keyS u id) = true)) (fun i _ => l.length - (intOf i).toNat)
  case atStart => exact ⟨0, by omega, rfl, B0, HX, by show ∀ _, _; intro j hj; omega⟩
  case round =>
    obtain ⟨k, hk, rfl, HB, HC, HN⟩ := hrel
    by_cases hlt : k < l.length
    · obtain ⟨bk, off, rfl, hc⟩ := HV.out.row HB.out k hlt
      obtain ⟨⟨eu, ei, ⟨ea, eb, ec, es⟩⟩, hr⟩ : ∃ r, l.getD k Ses.zero = r := ⟨_, rfl⟩
      rw [hr] at hc
      obtain ⟨q0, q1, q2, q3, q4, q5⟩ := cells6_regrown hc
      try simp only at q0 q1 q2 q3 q4 q5
      obtain ⟨y0, y1⟩ := cells2k HC.out
      simp only [Nat.zero_add] at y0 y1
      replace y0 := cell_regrown y0
      replace y1 := cell_regrown y1
      have HK := Lib.hid (keyOf_any eu es ei ea eb ec)
      obtain ⟨q, hq⟩ : ∃ q, seLt ⟨eu, ei, ⟨ea, eb, ec, es⟩⟩ (keyS u id) = q := ⟨_, rfl⟩
      have HA := Lib.hid (isAhead_any eu u ei id (r := q) (Lib.hid (by rw [← hq]; rfl)))
      have HQ : Hid (seLt (l.getD k Ses.zero) (keyS u id) = q) := by show _ = _; rw [hr]; exact hq
      have t0 : decide ((k : Int) < (l.length : Int)) = true := by simp; omega
      have t1 : (0 : Int) ≤ (k : Int) := by omega
      have t2 : (k : Int) < (l.length : Int) := by omega
      clear hr hq hc
      go_wp2_with fail
      refine wp_region_quiet_below (by kernel_rfl) (by kernel_rfl) ?_
      repeat (go_big_quiet_step (first | with_reducible exact rgB HK.out _ _ _ | with_reducible exact rgB HA.out _ _ _))
      refine wpQuiet_nil ?_
      intro w5 hw5
      have b5 := regrownZ hw5
      have B5 := Lib.hid (below2Z HB.out b5)
      have HC5 := Lib.hid (HC.out.later b5)
      clear hw5 b5 q0 q1 q2 q3 q4 q5 y0 y1
      cases q with
      | true =>
        have HN2 : Hid (∀ j, j < k + 1 → seLt (l.getD j Ses.zero) (keyS u id) = true) := by
          show ∀ _, _
          intro j hj
          by_cases e : j = k
          · rw [e]; exact HQ.out
          · exact HN.out j (by omega)
        clear HQ
        go_wp2_with fail
        go_roundw
        case rel => exact ⟨k + 1, by omega, by go_num, B5, HC5, HN2⟩
        case measure => simp [intOf]; omega
      | false =>
        have HR := place_on HO.out HN.out hlt HQ.out
        rw [h.out] at HR
        subst HR
        go_wp2_with fail
        go_ret
        exact ⟨rfl, B5.out⟩
    · obtain rfl : k = l.length := by omega
      have HR := place_end HO.out HN.out
      rw [h.out] at HR
      subst HR
      have t0 : decide ((l.length : Int) < (l.length : Int)) = false := by simp
      go_wp2_with fail
      refine wp_region_quiet_below (by kernel_rfl) (by kernel_rfl) ?_
      repeat (go_big_quiet_step (fail))
      refine wpQuiet_nil ?_
      intro w5 hw5
      have B5 := Lib.hid (below2Z HB.out (regrownZ hw5))
      clear hw5
      go_wp2_with fail
      go_ret
      exact ⟨rfl, B5.out⟩

end Go.Proofs.Ytndicdomdndjaaa

end

section

/-
  slices.Clone, slices.Insert AND slices.Delete of one element, at elements of 6 cells.
-/
namespace Go.Proofs.Ytndicdomdndjaaa
open Go.RowKit

set_option maxHeartbeats 800000 in
set_option maxRecDepth 100000 in
theorem ses_clone {w : World} {v : Value} {t : List Ses} (hv : RdS sesVals 6 Ses.zero w v t) (hl : t.length ≤ 4294967) :
    Calls Try.prog 72 #[v] w fun e w' => ∃ u, e = .returned u ∧ OwnS sesVals 6 81 w' w.heap.size u t ∧ Below w.heap.size w w' := by
  have HV := Lib.hid hv
  obtain ⟨a, cap, rfl, h1, h2, h3, h4⟩ := hv
  cases a with
  | none =>
    obtain rfl : cap = 0 := h3 rfl
    obtain rfl : t = [] := List.length_eq_zero_iff.1 (by omega)
    have heq := fun w => eqlS_nil_nil sesOK w 0 0
    clear h4
    go_enter Try.func72, Try.ntmps72
    go_wp2_with fail
    go_ret
    exact ⟨_, rfl, ownS_nil _ _, Below.refl _ _⟩
  | some x =>
    have HS := Lib.hid ((HV.out.later ((Below.refl _ _).alloc (Nat.le_refl _) (.cells #[] 81))).src sesOK)
    have heq := fun w => eqlS_nil_some sesOK w x t.length cap
    clear h4 h3
    go_enter Try.func72, Try.ntmps72
    go_wp2_with (at_builtin; go_must (refine wpList_append_S sesOK rfl _ _ rfl w.heap.size _ [] rfl (by exact ownS_made w) (some x) t.length cap t rfl rfl (fun e => nomatch e) ?c1 (by simp only [List.length_nil]; omega) (by simp) ?_))
    case c1 => intro ad had; obtain rfl := Option.some.inj had; exact HS.out
    intro v' w' ho' hb'
    have O := Lib.hid ho'
    have hbB : Hid (Below w.heap.size w w') := ((Below.refl w.heap.size w).alloc (Nat.le_refl _) _).trans hb'
    clear ho' hb'
    go_wp2_with fail
    go_ret
    exact ⟨_, rfl, by have := O.out; simpa using this, hbB.out⟩

theorem putS_last {β : Type} (t : List β) (r : β) : putS t t.length r = t ++ [r] := by simp [putS]

set_option maxHeartbeats 1600000 in
set_option maxRecDepth 100000 in
theorem ses_ins_end {w : World} {base : Nat} {v : Value} {t : List Ses} (ho : OwnS sesVals 6 81 w base v t) (hbase : base ≤ w.heap.size) (hl : t.length ≤ 1000) {B : Nat} {r : Ses} (hr : LoneS sesVals 81 w B r) :
    Calls Try.prog 73 #[v, .int .i64 t.length, .slice (some ⟨B, 0, none⟩) 1 1] w fun e w' => ∃ u, e = .returned u ∧ OwnS sesVals 6 81 w' base u (putS t t.length r) ∧ Below base w w' := by
  have HO := Lib.hid ho
  have HS := Lib.hid hr.src
  have HE := Lib.hid (putS_last t r)
  have t0 : ((t.length : Int) == (t.length : Int)) = true := by simp
  rcases ho.2 with ⟨rfl, h0⟩ | ⟨g, cap, cur, rfl, _, _, hnc, hcm, _⟩
  · obtain rfl : t = [] := List.length_eq_zero_iff.1 h0
    clear ho hr h0
    go_enter Try.func73, Try.ntmps73
    go_wp2_with (at_builtin; go_must (refine wpList_append_S sesOK rfl _ _ rfl base _ [] rfl (by exact HO.out) (some ⟨B, 0, none⟩) 1 1 [r] rfl rfl (fun e => nomatch e) ?c1 (by simp) hbase ?_))
    case c1 => intro ad had; obtain rfl := Option.some.inj had; exact HS.out
    intro v' w' ho' hb'
    have O := Lib.hid ho'
    have HB := Lib.hid hb'
    clear ho' hb'
    go_wp2_with fail
    go_ret
    exact ⟨_, rfl, O.out, HB.out⟩
  · unfold maxLen at hcm
    clear ho hr
    by_cases hc : cap = t.length
    · subst hc
      go_enter Try.func73, Try.ntmps73
      go_wp2_with (at_builtin; go_must (refine wpList_append_S sesOK rfl _ _ rfl base _ t rfl (by exact HO.out) (some ⟨B, 0, none⟩) 1 1 [r] rfl rfl (fun e => nomatch e) ?c1 (by simp only [List.length_cons, List.length_nil]; omega) hbase ?_))
      case c1 => intro ad had; obtain rfl := Option.some.inj had; exact HS.out
      intro v' w' ho' hb'
      have O := Lib.hid ho'
      have HB := Lib.hid hb'
      clear ho' hb'
      go_wp2_with fail
      go_ret
      exact ⟨_, rfl, by rw [HE.out]; exact O.out, HB.out⟩
    · go_enter Try.func73, Try.ntmps73
      go_wp2_with (at_builtin; go_must (refine wpList_append_S sesOK rfl _ _ rfl base _ t rfl (by exact HO.out) (some ⟨B, 0, none⟩) 1 1 [r] rfl rfl (fun e => nomatch e) ?c1 (by simp only [List.length_cons, List.length_nil]; omega) hbase ?_))
      case c1 => intro ad had; obtain rfl := Option.some.inj had; exact HS.out
      intro v' w' ho' hb'
      have O := Lib.hid ho'
      have HB := Lib.hid hb'
      clear ho' hb'
      go_wp2_with fail
      go_ret
      exact ⟨_, rfl, by rw [HE.out]; exact O.out, HB.out⟩

set_option maxHeartbeats 3200000 in
set_option maxRecDepth 100000 in
theorem ses_ins_grow {w : World} {base g cap : Nat} {t : List Ses} (ho : OwnS sesVals 6 81 w base (.slice (some ⟨g, 0, none⟩) t.length cap) t) (hbase : base ≤ w.heap.size) (hl : t.length ≤ 1000) {i : Nat} (hi : i < t.length) (hc : cap = t.length) {B : Nat} {r : Ses} (hr : LoneS sesVals 81 w B r) :
    Calls Try.prog 73 #[.slice (some ⟨g, 0, none⟩) t.length cap, .int .i64 i, .slice (some ⟨B, 0, none⟩) 1 1] w fun e w' => ∃ u, e = .returned u ∧ OwnS sesVals 6 81 w' base u (putS t i r) ∧ Below base w w' := by
  subst hc
  have HO := Lib.hid ho
  have HR := Lib.hid hr
  have HE := Lib.hid (layS_grow Ses.zero hi r)
  have t0 : ((i : Int) == (t.length : Int)) = false := by simp; omega
  have t1 : ¬ t.length = i := by omega
  have hw1 : IntKind.i64.wrap ((i : Int) + 1) = (i : Int) + 1 := IntWalk.i64_in _ (by omega)
  have htn : ((i : Int) + 1).toNat = i + 1 := by omega
  have hb0 : (0 : Int) ≤ (i : Int) + 1 := by omega
  have hin : i ≤ t.length := by omega
  have hgw := ho.head.2.2.1
  have hBw := hr.lt
  clear ho hr
  go_enter Try.func73, Try.ntmps73
  go_wp2_with (with_reducible refine wpList_append_zero_S sesOK Try.underlying3 rfl (.tmp 34) (.tmp 39) rfl base g t.length t.length t HO.out i (t.length + 1 - i) (t.length + 1) ((t.length : Int) + 1 - (i : Int)) rfl rfl (by omega) (by omega) (by omega) (by omega) (by omega) (by omega) ?_)
  intro w1 G h1 hG hGm hb1
  have O1 := Lib.hid h1
  have B1 := Lib.hid hb1
  have S1 := Lib.hid (HR.out.later hb1).src
  have P1 := Lib.hid (HO.out.later hb1)
  have hsz := hb1.size
  have hlen : (t.take i ++ List.replicate (t.length + 1 - i) Ses.zero).length = t.length + 1 := by rw [List.length_append, List.length_take, List.length_replicate]; omega
  have t2 : ¬ G = i := by omega
  have t3 : ¬ G = i + 1 := by omega
  have O1r : Hid (OwnCS 6 81 w1 w.heap.size w.heap.size (t.length + 1) G (cellsS sesVals (t.take i ++ List.replicate (t.length + 1 - i) Ses.zero))) := h1.raw
  clear h1 hb1
  go_wp2_with (with_reducible refine wpList_copy_C sesOK rfl (.tmp 43) (.tmp 44) rfl w.heap.size w.heap.size (t.length + 1) G _ O1r.out i (t.length + 1 - i) (G - i) ⟨B, 0, none⟩ 1 1 rfl rfl [r] (by simp only [List.length_singleton, Nat.min_def]; split <;> omega) S1.out (by simp only [List.length_singleton]; omega) ?_)
  intro w2 h2 hb2 hk2
  rw [cellsS_lay sesOK.len] at h2
  have O2 := Lib.hid h2
  have B2 := Lib.hid (B1.out.trans (hb2.mono (Nat.le_refl _)))
  have P2 : Hid (SrcS sesVals w2.drew ⟨g, i * 6, none⟩ (t.drop i)) := by
    show SrcS sesVals _ _ _
    intro j x hx
    have := P1.out.src sesOK i (t.length - i) (by omega) j x (by rw [List.take_of_length_le (by rw [List.length_drop]; omega)]; exact hx)
    exact (hk2 _ (by rw [Addr.add_lit]; show g ≠ w.heap.size; omega)).trans this
  clear h2 hb2 hk2 O1 O1r B1 S1
  go_wp2_with fail
  go_region_law (refine step_copy_C sesOK rfl (.tmp 50) (.tmp 53) rfl w.heap.size w.heap.size (t.length + 1) G _ O2.out.drew (i + 1) (t.length - i) (G - (i + 1)) ⟨g, i * 6, none⟩ (t.length - i) (t.length - i) (by simp [Act.eval, Act.put]) (by simp [Act.eval, Act.put]) (t.drop i) (by simp only [List.length_drop, Nat.min_def]; split <;> omega) P2.out (by rw [List.length_drop]; omega) ?_; intro w3 h3 hb3 hk3)
  all_goals
    rw [cellsS_lay sesOK.len, HE.out] at h3
    have O3 := Lib.hid (h3.rows (putS_len t i r).symm)
    have B3 := Lib.hid ((B2.out.mono hbase).drew.trans (hb3.mono hbase))
    clear h3 hb3 hk3
    go_wp2_with fail
    go_ret
    exact ⟨_, rfl, ownS_low O3.out hbase, B3.out⟩

set_option maxHeartbeats 3200000 in
set_option maxRecDepth 100000 in
theorem ses_ins_room {w : World} {base g cap : Nat} {t : List Ses} (ho : OwnS sesVals 6 81 w base (.slice (some ⟨g, 0, none⟩) t.length cap) t) (hl : t.length ≤ 1000) {i : Nat} (hi : i < t.length) (hc : t.length < cap) (hcm : cap ≤ 9223372036854775807) {B : Nat} {r : Ses} (hr : LoneS sesVals 81 w B r) (hne : B ≠ g) :
    Calls Try.prog 73 #[.slice (some ⟨g, 0, none⟩) t.length cap, .int .i64 i, .slice (some ⟨B, 0, none⟩) 1 1] w fun e w' => ∃ u, e = .returned u ∧ OwnS sesVals 6 81 w' base u (putS t i r) ∧ Below base w w' := by
  obtain ⟨z, hz, hw⟩ := ownS_wider ho hc
  have HO := Lib.hid hw
  have HS := Lib.hid hr.src
  have hin2 : (i : Int) ≤ (t.length : Int) + 1 := by omega
  have S0 : Hid (SrcS sesVals w.drew ⟨g, i * 6, none⟩ (t.drop i)) := by
    show SrcS sesVals _ _ _
    intro j x hx
    exact ho.src sesOK i (t.length - i) (by omega) j x (by rw [List.take_of_length_le (by rw [List.length_drop]; omega)]; exact hx)
  have HE := Lib.hid (layS_room sesOK.len hi r z hz)
  have HG := Lib.hid ho.head.2.1
  have t0 : ((i : Int) == (t.length : Int)) = false := by simp; omega
  have t1 : ¬ cap = i := by omega
  have t2 : ¬ cap = i + 1 := by omega
  have hw1 : IntKind.i64.wrap ((i : Int) + 1) = (i : Int) + 1 := IntWalk.i64_in _ (by omega)
  have htn : ((i : Int) + 1).toNat = i + 1 := by omega
  have hb0 : (0 : Int) ≤ (i : Int) + 1 := by omega
  have hin : i ≤ t.length := by omega
  have hov : ∀ lb cb, (callFunc 102 #[.slice (some ⟨B, 0, none⟩) 1 1, .slice (some ⟨g, (i + 1) * 6, none⟩) lb cb]).run Try.prog w = .ok (.value (.bool false)) w := fun lb cb => by
    obtain ⟨_, _, _, _, _, cur, hg, hcs⟩ := ho.head
    rw [run_callFunc_extern Try.func102 (by kernel_rfl) (by kernel_rfl) (by kernel_rfl) (e := Extern.SlicesOverlaps.overlaps #[26, 26] #[4]) (by kernel_rfl),
      Lib.run_overlaps_apart w 26 4 81 Try.underlying26 6 (sizeS sesOK) ⟨B, 0, none⟩ ⟨g, (i + 1) * 6, none⟩ 1 1 lb cb hne _ _ _ _ (hr.shape sesOK.len) (ownS_shape hg) (by omega) (hr.free _) (hr.free _)]
    rfl
  clear ho hr hw
  go_enter Try.func73, Try.ntmps73
  go_wp2_with (simp only [hov])
  go_region_law (refine step_copy_C sesOK rfl (.tmp 73) (.tmp 76) rfl base g (t.length + 1) cap _ HO.out.drew (i + 1) (t.length - i) (cap - (i + 1)) ⟨g, i * 6, none⟩ (t.length + 1 - i) (cap - i) (by simp [Act.eval, Act.put]) (by simp [Act.eval, Act.put]) (t.drop i) (by simp only [List.length_drop, Nat.min_def]; split <;> omega) S0.out (by rw [List.length_drop]; omega) ?_; intro w1 h1 hb1 hk1)
  all_goals
    have O1 := Lib.hid h1
    have B1 := Lib.hid ((Below.refl base w).drew.trans (hb1.mono HG.out))
    have S1 : Hid (SrcS sesVals w1 ⟨B, 0, none⟩ [r]) := by
      show SrcS sesVals _ _ _
      intro j x hx
      exact (hk1 _ (by rw [Addr.add_lit]; exact hne)).trans (HS.out j x hx)
    clear h1 hb1 hk1
    go_wp2_with (with_reducible refine wpList_copy_C sesOK rfl (.tmp 80) (.tmp 81) rfl base g (t.length + 1) cap _ O1.out i (t.length + 1 - i) (cap - i) ⟨B, 0, none⟩ 1 1 rfl rfl [r] (by simp only [List.length_singleton, Nat.min_def]; split <;> omega) S1.out (by simp only [List.length_singleton]; omega) ?_)
    intro w2 h2 hb2 hk2
    rw [HE.out] at h2
    have O2 := Lib.hid (h2.rows (putS_len t i r).symm)
    have B2 := Lib.hid (B1.out.trans (hb2.mono HG.out))
    clear h2 hb2 hk2
    go_wp2_with fail
    go_ret
    exact ⟨_, rfl, O2.out, B2.out⟩

theorem ses_insert {w : World} {base : Nat} {v : Value} {t : List Ses} (ho : OwnS sesVals 6 81 w base v t) (hbase : base ≤ w.heap.size) (hl : t.length ≤ 1000) {i : Nat} (hi : i ≤ t.length) {B : Nat} {r : Ses} (hr : LoneS sesVals 81 w B r) (hne : ∀ g n c, v = .slice (some ⟨g, 0, none⟩) n c → B ≠ g) :
    Calls Try.prog 73 #[v, .int .i64 i, .slice (some ⟨B, 0, none⟩) 1 1] w fun e w' => ∃ u, e = .returned u ∧ OwnS sesVals 6 81 w' base u (putS t i r) ∧ Below base w w' := by
  by_cases h : i = t.length
  · subst h
    exact ses_ins_end ho hbase hl hr
  · have hi' : i < t.length := by omega
    rcases ho.2 with ⟨rfl, h0⟩ | ⟨g, cap, cur, rfl, _, _, hnc, hcm, _⟩
    · omega
    · by_cases hc : cap = t.length
      · exact ses_ins_grow ho hbase hl hi' hc hr
      · unfold maxLen at hcm
        exact ses_ins_room ho hl hi' (by omega) (by omega) hr (hne _ _ _ rfl)

theorem layS_del {β : Type} {t : List β} {i : Nat} (hi : i < t.length) : (layS t i (t.drop (i + 1))).take (i + (t.length - (i + 1))) = t.take i ++ t.drop (i + 1) := by
  unfold layS
  rw [← List.append_assoc]
  exact List.take_left' (by rw [List.length_append, List.length_take, List.length_drop]; omega)

set_option maxHeartbeats 3200000 in
set_option maxRecDepth 100000 in
theorem ses_delete {w : World} {base g cap : Nat} {t : List Ses} (ho : OwnS sesVals 6 81 w base (.slice (some ⟨g, 0, none⟩) t.length cap) t) (hcm : cap ≤ 9223372036854775807) {i : Nat} (hi : i < t.length) (hl : t.length ≤ 1000) :
    Calls Try.prog 75 #[.slice (some ⟨g, 0, none⟩) t.length cap, .int .i64 i, .int .i64 ((i : Int) + 1)] w fun e w' => ∃ u, e = .returned u ∧ OwnS sesVals 6 81 w' base u (t.take i ++ t.drop (i + 1)) ∧ Below base w w' := by
  have HO := Lib.hid ho
  have hcap := ho.head.2.2.2.1
  have HG := Lib.hid ho.head.2.1
  have t0 : ((i : Int) == (i : Int) + 1) = false := by simp; omega
  have hw1 : IntKind.i64.wrap ((i : Int) + 1) = (i : Int) + 1 := IntWalk.i64_in _ (by omega)
  have htn : ((i : Int) + 1).toNat = i + 1 := by omega
  have hb0 : (0 : Int) ≤ (i : Int) + 1 := by omega
  have hin : i ≤ t.length := by omega
  have hin2 : (i : Int) + 1 ≤ (t.length : Int) := by omega
  have HE := Lib.hid (layS_del hi)
  have hii : (i : Int) ≤ (i : Int) + 1 := by omega
  have hic : i ≤ cap := by omega
  have HSL : Hid ((layS t i (t.drop (i + 1))).length = t.length) := by show _ = _; exact layS_len (by rw [List.length_drop]; omega)
  have z1 : i + (t.length - (i + 1)) ≤ t.length := by omega
  have z2 : i + (t.length - (i + 1)) + (t.length - (i + (t.length - (i + 1)))) = t.length := by omega
  have t4 : ¬ cap = i + (t.length - (i + 1)) := by omega
  by_cases hc : cap = i + 1
  · subst hc
    have hlen : t.length = i + 1 := by omega
    have HN : Hid (t.take i ++ t.drop (i + 1) = t.take i) := by
      show _ = _
      rw [List.drop_of_length_le (by omega), List.append_nil]
    have HL := Lib.hid hlen
    clear z1 z2 t4 HSL HE hin hin2 hcap ho hi hl
    rw [hlen] at HO
    rw [hlen]
    clear hlen
    have t1 : ¬ i + 1 = i := by omega
    have t3 : (i : Int) ≤ ((i + 1 : Nat) : Int) := by omega
    have t5 : (i : Int) + 1 ≤ ((i + 1 : Nat) : Int) := by omega
    have t6 : i ≤ i + 1 := by omega
    have HT := Lib.hid (World.ownsRow.drew HO.out)
    go_enter Try.func75, Try.ntmps75
    go_wp2_with fail
    go_region_law (refine step_append_in_S sesOK rfl (.tmp 22) (.tmp 25) rfl base g (i + 1) (i + 1) t HO.out.drew i 0 0 ⟨g, 0, none⟩ (by simp [Act.eval, Act.put]) (by simp [Act.eval, Act.put]) [] rfl (fun j x hx => by simp [cellsS] at hx) (by simp) ?_; intro w1 h1 hb1 hk1)
    all_goals
      rw [layS_nil] at h1
      have O1 := Lib.hid h1
      have B1 := Lib.hid ((Below.refl base w).drew.trans (hb1.mono HG.out))
      clear h1 hb1 hk1
      go_wp2_with (with_reducible refine wpList_clear_S sesOK rfl (.tmp 31) rfl base g (i + 1) (i + 1) _ O1.out i (some ⟨g, i * 6, none⟩) 1 1 rfl (fun _ => rfl) HL.out.symm ?_)
      intro w2 h2 hb2
      have O2 := Lib.hid (ownS_cut sesOK h2 (i := i) (by simp [HL.out]))
      have B2 := Lib.hid (B1.out.trans (hb2.mono HG.out))
      clear h2 hb2
      go_wp2_with fail
      go_ret
      refine ⟨_, rfl, ?_, B2.out⟩
      have := O2.out
      rw [List.take_append_of_le_length (by rw [List.length_take, HL.out]; omega), List.take_take, Nat.min_self] at this
      rw [HN.out]
      exact this
  · have HS : Hid (SrcS sesVals w.drew ⟨g, (i + 1) * 6, none⟩ (t.drop (i + 1))) := by
      show SrcS sesVals _ _ _
      intro j x hx
      exact ho.src sesOK (i + 1) (t.length - (i + 1)) (by omega) j x (by rw [List.take_of_length_le (by rw [List.length_drop]; omega)]; exact hx)
    have t1 : ¬ cap = i := by omega
    clear ho
    go_enter Try.func75, Try.ntmps75
    go_wp2_with fail
    go_region_law (refine step_append_in_S sesOK rfl (.tmp 22) (.tmp 25) rfl base g t.length cap t HO.out.drew i (t.length - (i + 1)) (cap - (i + 1)) ⟨g, (i + 1) * 6, none⟩ (by simp [Act.eval, Act.put]) (by simp [Act.eval, Act.put]) (t.drop (i + 1)) (by rw [List.length_drop]) HS.out (by rw [List.length_drop]; omega) ?_; intro w1 h1 hb1 hk1)
    all_goals
      have O1 := Lib.hid h1
      have B1 := Lib.hid ((Below.refl base w).drew.trans (hb1.mono HG.out))
      clear h1 hb1 hk1
      go_wp2_with (with_reducible refine wpList_clear_S sesOK rfl (.tmp 31) rfl base g t.length cap _ O1.out (i + (t.length - (i + 1))) (some ⟨g, (i + (t.length - (i + 1))) * 6, none⟩) (t.length - (i + (t.length - (i + 1)))) (cap - (i + (t.length - (i + 1)))) rfl (fun _ => rfl) (z2.trans HSL.out.symm) ?_)
      intro w2 h2 hb2
      have O2 := Lib.hid (ownS_cut sesOK h2 (i := i + (t.length - (i + 1))) (by rw [List.length_append, List.length_take, List.length_replicate, HSL.out]; omega))
      have B2 := Lib.hid (B1.out.trans (hb2.mono HG.out))
      clear h2 hb2
      go_wp2_with fail
      go_ret
      refine ⟨_, rfl, ?_, B2.out⟩
      have := O2.out
      rw [List.take_append_of_le_length (by rw [List.length_take, HSL.out]; omega), List.take_take, Nat.min_self, HE.out] at this
      exact this

end Go.Proofs.Ytndicdomdndjaaa

end

section

/-
  LAYER 9: the document's Same; its place.
-/
namespace Go.Proofs.Ytndicdomdndjaaa
open Go.RowKit

/-- Two lists of sessions are the same. -/
def sessSame (a b : List Ses) : Bool := decide (a.length = b.length) && (List.range a.length).all fun i => sesSame (a.getD i Ses.zero) (b.getD i Ses.zero)

theorem sessSame_self (a : List Ses) : sessSame a a = true := by
  unfold sessSame
  simp [sesSame_self]

end Go.Proofs.Ytndicdomdndjaaa

end

section

/-
  LAYER 9: One, Ahead (the document's); May, the code's and the document's.
-/
namespace Go.Proofs.Ytndicdomdndjaaa
open Go.RowKit

/-- Texts of no more bytes than a walk can count. -/
def ShortS (l : List Ses) : Prop := ∀ s ∈ l, s.u.length ≤ 4294967296 ∧ s.v.st.length ≤ 4294967296

theorem ShortS.get {l : List Ses} (h : ShortS l) {k : Nat} (hk : k < l.length) : (l.getD k Ses.zero).u.length ≤ 4294967296 ∧ (l.getD k Ses.zero).v.st.length ≤ 4294967296 := by
  rw [sgetD hk]
  exact h _ (List.getElem_mem hk)

set_option maxHeartbeats 3200000 in
set_option maxRecDepth 100000 in
theorem smay9_any {w : World} {v : Value} {l : List Ses} (hv : Sess w v l) (hs : ShortS l) {r : Bool} (h : Hid (seMay l = r)) :
    Calls Try.prog 42 #[v] w fun e w' => e = .returned (.bool r) ∧ Below w.heap.size w w' := by
  have HV := Lib.hid hv
  have HS := Lib.hid hs
  obtain ⟨a, cap, rfl, hm⟩ := hv.open'
  clear hv hs
  by_cases h32 : l.length ≤ 32
  · have t0 : decide (32 < (l.length : Int)) = false := by simp; omega
    go_enter Try.func42, Try.ntmps42
    go_wp2_with fail
    go_loopw [10] (fun i wr => ∃ k : Nat, k ≤ l.length ∧ i = .int .i64 k ∧ Hid (Below w.heap.size w wr) ∧ Hid ((List.range k).all (seAt l) = true)) (fun i _ => l.length - (intOf i).toNat)
    case atStart => exact ⟨0, by omega, rfl, Below.refl _ _, rfl⟩
    case round =>
      obtain ⟨k, hk, rfl, HB, HA⟩ := hrel
      by_cases hlt : k < l.length
      · obtain ⟨bk, off, rfl, hc⟩ := HV.out.row HB.out k hlt
        obtain ⟨hl1, hl2⟩ := HS.out.get hlt
        obtain ⟨⟨eu, ei, ⟨ea, eb, ec, es⟩⟩, hr⟩ : ∃ r, l.getD k Ses.zero = r := ⟨_, rfl⟩
        rw [hr] at hc hl1 hl2
        try simp only at hl1 hl2
        have HC := Lib.hid hc
        obtain ⟨q, hq⟩ : ∃ q, seOne ⟨eu, ei, ⟨ea, eb, ec, es⟩⟩ = q := ⟨_, rfl⟩
        have HI := Lib.hid (mayBe_any eu es ei ea eb ec hl1 hl2 (Lib.hid hq))
        have hnn : (0 : Int) ≤ (k : Int) := by omega
        have hli : (k : Int) < (l.length : Int) := by omega
        have t1 : decide ((k : Int) < (l.length : Int)) = true := by simpa using hli
        obtain ⟨h0, h1, h2, h3, h4, h5⟩ := cells6 hc
        try simp only at h0 h1 h2 h3 h4 h5
        have C1 := Lib.hid (cellsAt_made (w := wr) (cs := #[.string ⟨eu.toArray⟩, .int .i64 ei, .int .i64 ea, .int .i64 eb, .int .i64 ec, .string ⟨es.toArray⟩]) (vs := sesVals ⟨eu, ei, ⟨ea, eb, ec, es⟩⟩) rfl 81 rfl)
        have bn := bl_newZ wr (.cells #[.string ⟨eu.toArray⟩, .int .i64 ei, .int .i64 ea, .int .i64 eb, .int .i64 ec, .string ⟨es.toArray⟩] 81)
        have B1 := Lib.hid (below2Z HB.out bn)
        clear hc bn
        cases q with
        | false =>
          have HR : seMay l = false := seMay_off hlt (by unfold seAt; rw [hr, hq]; rfl)
          rw [h.out] at HR
          subst HR
          clear hr hq
          go_wp2_with fail
          refine (HI.out _).mono ?_
          rintro e w2 ⟨rfl, b2⟩
          have B2 := Lib.hid (below2Z B1.out b2)
          clear b2 h0 h1 h2 h3 h4 h5
          go_wp2_with fail
          go_ret
          exact ⟨rfl, B2.out⟩
        | true =>
          rcases Nat.eq_zero_or_pos k with rfl | hpos
          · have HA2 : Hid ((List.range (0 + 1)).all (seAt l) = true) := all_next HA.out (by unfold seAt; rw [hr, hq]; rfl)
            simp only [Nat.zero_mul, Nat.add_zero] at h0 h1 h2 h3 h4 h5
            clear hr hq
            go_wp2_with fail
            refine (HI.out _).mono ?_
            rintro e w2 ⟨rfl, b2⟩
            have B2 := Lib.hid (below2Z B1.out b2)
            clear b2 h0 h1 h2 h3 h4 h5
            go_wp2_with fail
            refine wp_region_quiet_below (by kernel_rfl) (by kernel_rfl) ?_
            repeat (go_big_quiet_step (fail))
            refine wpQuiet_nil ?_
            intro w5 hw5
            have B5 := Lib.hid (below2Z B2.out (regrownZ hw5))
            clear hw5
            go_wp2_with fail
            go_roundw
            case rel => exact ⟨1, by omega, by go_num, B5, HA2⟩
            case measure => simp [intOf]; omega
          · obtain ⟨j, rfl⟩ : ∃ j, k = j + 1 := ⟨k - 1, by omega⟩
            obtain ⟨b2, off2, e2, hP⟩ := HV.out.row HB.out j (by omega)
            injection e2 with e2
            injection e2 with e3 e4 _
            subst e3 e4
            obtain ⟨⟨fu, fi, ⟨fa, fb, fc, fs⟩⟩, hr2⟩ : ∃ r, l.getD j Ses.zero = r := ⟨_, rfl⟩
            rw [hr2] at hP
            have HP := Lib.hid (hP.later (bl_newZ wr (.cells #[.string ⟨eu.toArray⟩, .int .i64 ei, .int .i64 ea, .int .i64 eb, .int .i64 ec, .string ⟨es.toArray⟩] 81)))
            obtain ⟨p, hp⟩ : ∃ p, seLt ⟨fu, fi, ⟨fa, fb, fc, fs⟩⟩ ⟨eu, ei, ⟨ea, eb, ec, es⟩⟩ = p := ⟨_, rfl⟩
            have HK1 := Lib.hid (keyOf_any fu fs fi fa fb fc)
            have HK2 := Lib.hid (keyOf_any eu es ei ea eb ec)
            have HL := Lib.hid (isAhead_any fu eu fi ei (r := p) (Lib.hid (by rw [← hp]; rfl)))
            have hAt : seAt l (j + 1) = p := by
              unfold seAt
              rw [hr, show j + 1 - 1 = j by omega, hr2, hq, hp]
              simp
            have em : ((j + 1 : Nat) : Int) - 1 = (j : Int) := by omega
            have t6 : (0 : Int) ≤ (j : Int) := by omega
            have t7 : (j : Int) < (l.length : Int) := by omega
            have t8 : decide ((0 : Int) < ((j + 1 : Nat) : Int)) = true := by rw [decide_eq_true_eq]; omega
            have HAt := Lib.hid hAt
            clear hr hq hr2 hp hP hAt
            go_wp2_with fail
            refine (HI.out _).mono ?_
            rintro e w2 ⟨rfl, b2⟩
            have B2 := Lib.hid (below2Z B1.out b2)
            have C2 := Lib.hid (C1.out.later b2)
            have P2 := Lib.hid (HP.out.later b2)
            clear b2 h0 h1 h2 h3 h4 h5
            go_wp2_with fail
            obtain ⟨q0, q1, q2, q3, q4, q5⟩ := cells6_regrown C2.out
            obtain ⟨p0, p1, p2, p3, p4, p5⟩ := cells6_regrown P2.out
            simp only [Nat.zero_add] at q0 q1 q2 q3 q4 q5
            try simp only at p0 p1 p2 p3 p4 p5
            refine wp_region_quiet_below (by kernel_rfl) (by kernel_rfl) ?_
            repeat (go_big_quiet_step (first | with_reducible exact rgB HK1.out _ _ _ | with_reducible exact rgB HK2.out _ _ _ | with_reducible exact rgB HL.out _ _ _))
            refine wpQuiet_nil ?_
            intro w5 hw5
            have B5 := Lib.hid (below2Z B2.out (regrownZ hw5))
            clear hw5 p0 p1 p2 p3 p4 p5 q0 q1 q2 q3 q4 q5
            cases p with
            | true =>
              have HA2 : Hid ((List.range (j + 1 + 1)).all (seAt l) = true) := all_next HA.out HAt.out
              go_wp2_with fail
              go_roundw
              case rel => exact ⟨j + 1 + 1, by omega, by go_num, B5, HA2⟩
              case measure => simp [intOf]; omega
            | false =>
              have HR : seMay l = false := seMay_off hlt HAt.out
              rw [h.out] at HR
              subst HR
              go_wp2_with fail
              go_ret
              exact ⟨rfl, B5.out⟩
      · obtain rfl : k = l.length := by omega
        have HR : seMay l = true := seMay_all h32 HA.out
        rw [h.out] at HR
        subst HR
        go_wp2_with fail
        go_ret
        exact ⟨rfl, HB.out⟩
  · have t0 : decide (32 < (l.length : Int)) = true := by simp; omega
    have HR : seMay l = false := seMay_long h32
    rw [h.out] at HR
    subst HR
    go_enter Try.func42, Try.ntmps42
    go_wp2_with fail
    go_ret
    exact ⟨rfl, Below.refl _ _⟩

end Go.Proofs.Ytndicdomdndjaaa

end

section

/-
  LAYER 14: May of the code and of the document; a block of slices, written, leaves rows alone.
-/
namespace Go.Proofs.Ytndicdomdndjaaa
open Go.RowKit

theorem upT {w w' : World} {b : Nat} {o : Obj} (h : w.heap[b]? = some o) (hb : Below w.heap.size w w') : w'.heap[b]? = some o :=
  (hb.block b (Array.getElem?_eq_some_iff.1 h).1).trans h

theorem heap_newT (w : World) (o : Obj) : (w.alloc o).heap[w.heap.size]? = some o := (MapKept.heap_alloc w o).1

theorem two_T {w : World} {b : Nat} {x0 x1 : Value} {T : TypeId} (h : w.heap[b]? = some (.cells #[x0, x1] T (0, 0))) : w.cell? ⟨b, 0, none⟩ = some x0 ∧ w.cell? ⟨b, 1, none⟩ = some x1 ∧ w.frozen? ⟨b, 0, none⟩ = false ∧ w.frozen? ⟨b, 1, none⟩ = false :=
  ⟨cell_of_row w b 0 _ _ (0, 0) h, cell_of_row w b 1 _ _ (0, 0) h, frozen_of_row w b 0 _ _ h, frozen_of_row w b 1 _ _ h⟩

/-- Cells that are slices, all of them. -/
def AllSl (cs : Array Value) : Prop := ∀ (j : Nat) (u : Value), cs[j]? = some u → ∃ a n c, u = Value.slice a n c

theorem AllSl.no {cs : Array Value} (h : AllSl cs) : ∀ (j : Nat) (s : ByteArray), cs[j]? ≠ some (Value.string s) := by
  intro j s e
  obtain ⟨_, _, _, hx⟩ := h _ _ e
  cases hx

theorem rdS_keep {α : Type} {vals : α → List Value} {sz : Nat} {zero : α} {w : World} {v : Value} {t : List α} (h : RdS vals sz zero w v t) (hf : ∀ r, ∃ s, (vals r)[0]? = some (.string s)) {S : Nat} {cs : Array Value} {T : TypeId} {m : Nat × Nat} (hb : w.heap[S]? = some (.cells cs T m)) (hs : ∀ (j : Nat) (s : ByteArray), cs[j]? ≠ some (Value.string s)) (j : Nat) (u : Value) :
    RdS vals sz zero (w.setCell ⟨S, j, none⟩ u) v t := by
  obtain ⟨a, cap, h1, h2, h3, h4, h5⟩ := h
  refine ⟨a, cap, h1, h2, h3, h4, ?_⟩
  rcases h5 with h5 | ⟨b, off, e, hlt, hc⟩
  · exact .inl h5
  · by_cases ht : t = []
    · exact .inl ht
    · have hpos : 0 < t.length := List.length_pos_iff.2 ht
      have hne : b ≠ S := by
        rintro rfl
        obtain ⟨s, hs0⟩ := hf (t.getD 0 zero)
        have h0 := hc 0 hpos 0 _ hs0
        simp only [World.cell?, hb] at h0
        have h0' : cs[off + 0 * sz + 0]? = some (.string s) := by simpa using h0
        exact hs _ _ h0'
      refine .inr ⟨b, off, e, by simpa [World.setCell] using hlt, fun i hi => ?_⟩
      intro k x hx
      rw [World.cell?_setCell_other _ _ _ _ (by simp)]
      exact hc i hi k x hx

theorem StAt.keep {w : World} {x y : Value} {t : Sta} (h : StAt w x y t) {S : Nat} {cs : Array Value} {T : TypeId} {m : Nat × Nat} (hb : w.heap[S]? = some (.cells cs T m)) (hs : ∀ (j : Nat) (s : ByteArray), cs[j]? ≠ some (Value.string s)) (j : Nat) (u : Value) : StAt (w.setCell ⟨S, j, none⟩ u) x y t :=
  ⟨(rdS_keep h.1.rdS (fun _ => ⟨_, rfl⟩) hb hs j u).ents, rdS_keep h.2 (fun _ => ⟨_, rfl⟩) hb hs j u⟩

set_option maxHeartbeats 1600000 in
set_option maxRecDepth 100000 in
theorem stmay_any {w : World} {x y : Value} {t : Sta} (h : StAt w x y t) (he : ShortE t.e) (hs : ShortS t.s) {r : Bool} (hr : Hid (stMay t = r)) :
    Calls Try.prog 19 #[.agg #[x, y]] w fun e w' => e = .returned (.bool r) ∧ Below w.heap.size w w' := by
  have hr := hr.out
  unfold stMay at hr
  have b0 := bl_newZ w (.cells #[x, y] 28)
  have HB := Lib.hid b0
  have H := Lib.hid (h.later b0)
  have F := Lib.hid (heap_newT w (.cells #[x, y] 28))
  have HE := Lib.hid he
  have HS := Lib.hid hs
  obtain ⟨c0, c1, -, -⟩ := two_T F.out
  obtain ⟨a, ha⟩ : ∃ a, roMayC t.e = a := ⟨_, rfl⟩
  obtain ⟨b, hb⟩ : ∃ b, seMay t.s = b := ⟨_, rfl⟩
  rw [ha, hb] at hr
  have HA := Lib.hid ha
  have HC := Lib.hid hb
  clear ha hb b0 h he hs
  cases a with
  | false =>
    rw [Bool.false_and] at hr
    subst hr
    go_enter Try.func19, Try.ntmps19
    go_wp2_with fail
    refine (romay_any H.out.1 HE.out HA).mono ?_
    rintro e w1 ⟨rfl, b1⟩
    replace HB := Lib.hid (below2Z HB.out b1)
    clear b1 c0 c1
    go_wp2_with fail
    go_ret
    exact ⟨rfl, HB.out⟩
  | true =>
    rw [Bool.true_and] at hr
    subst hr
    go_enter Try.func19, Try.ntmps19
    go_wp2_with fail
    refine (romay_any H.out.1 HE.out HA).mono ?_
    rintro e w1 ⟨rfl, b1⟩
    replace HB := Lib.hid (below2Z HB.out b1)
    replace H := Lib.hid (H.out.later b1)
    replace F := Lib.hid (upT F.out b1)
    clear b1 c0 c1
    obtain ⟨c0, c1, -, -⟩ := two_T F.out
    go_wp2_with fail
    refine (smay9_any H.out.2 HS.out HC).mono ?_
    rintro e w2 ⟨rfl, b2⟩
    replace HB := Lib.hid (below2Z HB.out b2)
    clear b2 c0 c1
    go_wp2_with fail
    go_ret
    exact ⟨rfl, HB.out⟩

end Go.Proofs.Ytndicdomdndjaaa

end
