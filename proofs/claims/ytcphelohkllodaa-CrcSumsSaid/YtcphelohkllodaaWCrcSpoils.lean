/-
  THE WALK OF CrcSpoils, out of the contracts.
-/
import Derived.Test.YtcphelohkllodaaCrcLive
import Derived.Test.YtcphelohkllodaaCrcSpoil
import Derived.Test.YtcphelohkllodaaBytes
import Derived.OpenShut
namespace Go.Proofs.Ytcphelohkllodaa
open Go.RowKit

/-- A row of bytes in memory that may be written. -/
def RowIs (w : World) (B : Nat) (u : List UInt8) : Prop := ∀ j, j < u.length → w.cell? ⟨B, j, none⟩ = some (.int .u8 (u.getD j 0).toNat) ∧ w.frozen? ⟨B, j, none⟩ = false

/-- Bytes that are only read. -/
def BytesAt (w : World) (M : Nat) (ms : List UInt8) : Prop := ∀ j, j < ms.length → w.cell? ⟨M, j, none⟩ = some (.int .u8 (ms.getD j 0).toNat)

theorem RowIs.set {w : World} {B : Nat} {u : List UInt8} (h : RowIs w B u) (j : Nat) (b : UInt8) (hj : j < u.length) : RowIs (w.setCell ⟨B, j, none⟩ (.int .u8 b.toNat)).drew B (u.set j b) := by
  intro i hi
  have hi' : i < u.length := by simpa using hi
  refine ⟨?_, (World.frozen?_setCell w _ _ _).trans (h i hi').2⟩
  show (w.setCell ⟨B, j, none⟩ (.int .u8 b.toNat)).cell? ⟨B, i, none⟩ = _
  by_cases hij : i = j
  · subst hij
    rw [World.cell?_setCell_same _ _ _ (h i hj).1]
    simp [List.getD, hj]
  · rw [World.cell?_setCell_other _ _ _ _ (by simp), (h i hi').1]
    simp [List.getD, show ¬ j = i by omega]

theorem BytesAt.set {w : World} {M B : Nat} {ms : List UInt8} (h : BytesAt w M ms) (hMB : ¬ M = B) (j : Nat) (v : Value) : BytesAt (w.setCell ⟨B, j, none⟩ v).drew M ms := by
  intro i hi
  show (w.setCell ⟨B, j, none⟩ v).cell? ⟨M, i, none⟩ = _
  rw [World.cell?_setCell_other _ _ _ _ (by simp), h i hi]

set_option maxHeartbeats 1600000 in
set_option maxRecDepth 1000000 in
theorem spoils_in {w : World} (l : List UInt8) (hl : l.length ≤ 300) (p : Nat) (hp : p < l.length + 4) (m0 m1 m2 m3 : UInt8) :
    Calls Try.prog 11 #[.string ⟨l.toArray⟩, .int .i64 p, .agg #[.int .u8 m0.toNat, .int .u8 m1.toNat, .int .u8 m2.toNat, .int .u8 m3.toNat]] w fun e w' => e = .returned (.bool true) ∧ Below w.heap.size w w' := by
  have hlen : (cseal l).length = l.length + 4 := by simp [cseal, low4]
  have HS := Lib.hid (seal_any l (by omega))
  obtain ⟨t, ht⟩ : ∃ t, t = cseal l := ⟨_, rfl⟩
  rw [← ht] at hlen HS
  have HT := Lib.hid ht
  clear ht
  have hcv := fun w => Lib.run_convert_string_bytes (P := Try.prog) w 9 48 5 ⟨t.toArray⟩ Try.underlying9 Try.underlying48 Try.underlying5
  have g1 : decide ((300 : Int) < (l.length : Int)) = false := by simp; omega
  have g2 : decide ((p : Int) < 0) = false := by simp
  have g3 : decide ((l.length : Int) + 4 ≤ (p : Int)) = false := by simp; omega
  have hM0 : BytesAt (w.alloc (.cells #[.int .u8 m0.toNat, .int .u8 m1.toNat, .int .u8 m2.toNat, .int .u8 m3.toNat] 47)) w.heap.size [m0, m1, m2, m3] := by
    intro j hj
    simp only [List.length_cons, List.length_nil] at hj
    rw [World.cell?_alloc_at _ _ _ _ rfl]
    match j, hj with
    | 0, _ => rfl
    | 1, _ => rfl
    | 2, _ => rfl
    | 3, _ => rfl
  have HM0 := Lib.hid hM0
  clear hM0
  obtain ⟨ms, hms⟩ : ∃ ms, ms = [m0, m1, m2, m3] := ⟨_, rfl⟩
  have hml : ms.length = 4 := by rw [hms]; rfl
  rw [← hms] at HM0
  clear hms
  go_enter Try.func11, Try.ntmps11
  go_wp2_with fail
  refine (HS.out _).mono ?_
  rintro e w1 ⟨rfl, hb1⟩
  go_wp2_with fail
  have hsz1 : w.heap.size + 1 ≤ w1.heap.size := by have := hb1.size; simpa using this
  have hR0 : Hid (RowIs (Lib.bytesWorld w1 5 ⟨t.toArray⟩) w1.heap.size t) := fun j hj => ⟨bytesWorld_list w1 5 t j hj, bytesWorld_frozen w1 5 _ j (by rw [size_bytes]; exact hj)⟩
  have hM1 : Hid (BytesAt (Lib.bytesWorld w1 5 ⟨t.toArray⟩) w.heap.size ms) := fun j hj => by
    rw [Lib.bytesWorld_old _ _ _ _ (by show w.heap.size < w1.heap.size; omega), hb1.cell (p := ⟨w.heap.size, j, none⟩) (by simp), HM0.out j hj]
  have hB1 : Below w.heap.size w (Lib.bytesWorld w1 5 ⟨t.toArray⟩) := below3 ((Below.refl _ _).alloc (Nat.le_refl _) _) hb1 (bytesWorld_below w1 _ _)
  have hne : ¬ w.heap.size = w1.heap.size := by omega
  clear hb1 HM0 hcv
  go_loopw [9, 10] (fun ch i wr => ∃ (k : Nat) (c : Bool) (u : List UInt8) (V : Nat), k ≤ 4 ∧ i = .int .i64 k ∧ ch = .bool c ∧ Hid (SpoilAt t p k u V) ∧ Hid (c = true ↔ V ≠ 0) ∧ Hid (RowIs wr w1.heap.size u) ∧ Hid (BytesAt wr w.heap.size ms) ∧ Below w.heap.size w wr)
    (fun _ i _ => 4 - (intOf i).toNat)
  case atStart => exact ⟨0, false, t, 0, by omega, rfl, rfl, spoil_start t p, by show _ ↔ _; simp, hR0, hM1, hB1⟩
  case round =>
    obtain ⟨k, c, u, V, hk, rfl, rfl, HSp, HC, HR, HM, hnx⟩ := hrel
    have hul : u.length = l.length + 4 := by have := HSp.out.1; omega
    by_cases hgo : k < 4 ∧ p + k < l.length + 4
    · obtain ⟨h1, h2⟩ := hgo
      have h2' : (p : Int) + k < (l.length : Int) + 4 := by omega
      have hcell := (HR.out (p + k) (by omega)).1
      have hfr := (HR.out (p + k) (by omega)).2
      have hm := HM.out k (by omega)
      have hux : u[p + k]'(by omega) = u.getD (p + k) 0 := by simp [List.getD, List.getElem?_eq_getElem (show p + k < u.length by omega)]
      have HN := spoil_next (ms.getD k 0) HSp.out (show p + k < u.length by omega)
      rw [hux] at HN
      obtain ⟨x, hx⟩ : ∃ x, x = u.getD (p + k) 0 := ⟨_, rfl⟩
      obtain ⟨m, hm'⟩ : ∃ m, m = ms.getD k 0 := ⟨_, rfl⟩
      rw [← hx] at hcell HN
      rw [← hm'] at hm HN
      have hxor : bits .xor .u8 (x.toNat : Int) (m.toNat : Int) = ((x ^^^ m).toNat : Int) := by
        rw [u8_xor_nat _ _ x.toNat_lt m.toNat_lt, UInt8.toNat_xor]
      have HX := Lib.hid hx
      have HN' := Lib.hid HN
      have hR2 := Lib.hid (HR.out.set (p + k) (x ^^^ m) (by omega))
      have hM2 := Lib.hid (HM.out.set hne (p + k) (.int .u8 (x ^^^ m).toNat))
      clear hx hm' hux HN
      have hbel : Below w.heap.size w (wr.setCell ⟨w1.heap.size, p + k, none⟩ (.int .u8 (x ^^^ m).toNat)).drew := (hnx.setCell (show w.heap.size ≤ w1.heap.size by omega) _).drew
      have HBel := Lib.hid hbel
      have HIff : Hid (∀ b : Bool, (b = true ↔ m.toNat ≠ 0) → ((c || b) = true ↔ V ^^^ m.toNat * 2 ^ (8 * k) ≠ 0)) := by
        show ∀ b : Bool, _ → _
        intro b hb
        have h3 := HN'.out.2
        rw [ne_eq, h3, Bool.or_eq_true, HC.out, hb]
        by_cases hV : V = 0 <;> simp [hV]
      have h0 : (((m.toNat : Int) != 0) = true ∧ m.toNat ≠ 0) ∨ (((m.toNat : Int) != 0) = false ∧ m.toNat = 0) := by
        by_cases h : m.toNat = 0
        · exact .inr ⟨by simp [h], h⟩
        · exact .inl ⟨by simp; omega, h⟩
      have H0 := Lib.hid h0
      clear hbel h0 hul
      cases c with
      | true =>
        go_wp2_with fail
        go_region
        go_wp2_with fail
        go_roundw
        case rel => exact ⟨k + 1, true, _, _, by omega, by go_num, rfl, HN'.out.1, by show _ ↔ _; have := HIff.out (decide (m.toNat ≠ 0)) (by simp); simpa using this, hR2, hM2, HBel.out⟩
        case measure => simp [intOf]; omega
      | false =>
        rcases H0.out with ⟨g4, g5⟩ | ⟨g4, g5⟩
        · have G5 := Lib.hid g5
          clear g5 H0
          go_wp2_with fail
          go_region
          go_wp2_with fail
          go_roundw
          case rel => exact ⟨k + 1, true, _, _, by omega, by go_num, rfl, HN'.out.1, HIff.out true (by simp [G5.out]), hR2, hM2, HBel.out⟩
          case measure => simp [intOf]; omega
        · have G5 := Lib.hid g5
          clear g5 H0
          go_wp2_with fail
          go_region
          go_wp2_with fail
          go_roundw
          case rel => exact ⟨k + 1, false, _, _, by omega, by go_num, rfl, HN'.out.1, HIff.out false (by simp [G5.out]), hR2, hM2, HBel.out⟩
          case measure => simp [intOf]; omega
    · have hcb := fun cap => run_convert_bytes_back (P := Try.prog) wr 48 9 5 ⟨w1.heap.size, 0, none⟩ cap u Try.underlying48 Try.underlying5 Try.underlying9 (fun j hj => by
        have := (HR.out j hj).1
        rw [Addr.add_lit, Nat.zero_add, this]
        simp [List.getD, List.getElem?_eq_getElem hj])
      rw [hul] at hcb
      have HE := spoil_end (s := l) (by rw [← HT.out]; exact HSp.out) hk
      have HL : Hid (u.length ≤ 4294967296) := by show _ ≤ _; omega
      have hgo' : (k < 4 ∧ (l.length : Int) + 4 ≤ (p : Int) + k) ∨ k = 4 := by omega
      have HGo := Lib.hid hgo'
      clear hul hgo hgo'
      cases c with
      | true =>
        have HO := Lib.hid (HE.2 (HC.out.1 rfl))
        clear HE
        rcases HGo.out with ⟨h1, h2⟩ | rfl
        all_goals
          clear HGo
          go_wp2_with fail
          refine (open_eq HL.out HO _).mono ?_
          rintro e w2 ⟨rfl, hb2⟩
          go_wp2_with fail
          refine (live2 _).mono ?_
          rintro e w3 ⟨rfl, hb3⟩
          go_wp2_with fail
          go_ret
          exact ⟨rfl, below3 hnx hb2 hb3⟩
      | false =>
        have HO := Lib.hid (HE.1 (by
          have := HC.out
          by_cases hV : V = 0
          · exact hV
          · simp [hV] at this))
        clear HE
        rcases HGo.out with ⟨h1, h2⟩ | rfl
        all_goals
          clear HGo
          go_wp2_with fail
          refine (open_eq HL.out HO _).mono ?_
          rintro e w2 ⟨rfl, hb2⟩
          go_wp2_with fail
          refine (live2 _).mono ?_
          rintro e w3 ⟨rfl, hb3⟩
          go_wp2_with fail
          go_ret
          exact ⟨rfl, below3 hnx hb2 hb3⟩

set_option maxHeartbeats 800000 in
set_option maxRecDepth 1000000 in
theorem spoils_out {w : World} (l : List UInt8) (_hl : l.length ≤ 9223372036854775807) (p : Int) (h : 300 < l.length ∨ p < 0 ∨ (l.length : Int) + 4 ≤ p) (m0 m1 m2 m3 : UInt8) :
    Calls Try.prog 11 #[.string ⟨l.toArray⟩, .int .i64 p, .agg #[.int .u8 m0.toNat, .int .u8 m1.toNat, .int .u8 m2.toNat, .int .u8 m3.toNat]] w fun e w' => e = .returned (.bool true) ∧ Below w.heap.size w w' := by
  by_cases h1 : 300 < l.length
  · clear h
    go_enter Try.func11, Try.ntmps11
    go_wp2_with fail
    refine (live2 _).mono ?_
    rintro e w3 ⟨rfl, hb3⟩
    go_wp2_with fail
    go_ret
    exact ⟨rfl, below2' ((Below.refl _ _).alloc (Nat.le_refl _) _) hb3⟩
  · have hlen : (cseal l).length = l.length + 4 := by simp [cseal, low4]
    have HS := Lib.hid (seal_any l (by omega))
    obtain ⟨t, ht⟩ : ∃ t, t = cseal l := ⟨_, rfl⟩
    rw [← ht] at hlen HS
    clear ht
    by_cases h2 : p < 0
    · clear h
      go_enter Try.func11, Try.ntmps11
      go_wp2_with fail
      refine (HS.out _).mono ?_
      rintro e w1 ⟨rfl, hb1⟩
      go_wp2_with fail
      refine (live2 _).mono ?_
      rintro e w3 ⟨rfl, hb3⟩
      go_wp2_with fail
      go_ret
      exact ⟨rfl, below3 ((Below.refl _ _).alloc (Nat.le_refl _) _) hb1 hb3⟩
    · have h3 : (l.length : Int) + 4 ≤ p := by omega
      clear h
      go_enter Try.func11, Try.ntmps11
      go_wp2_with fail
      refine (HS.out _).mono ?_
      rintro e w1 ⟨rfl, hb1⟩
      go_wp2_with fail
      refine (live2 _).mono ?_
      rintro e w3 ⟨rfl, hb3⟩
      go_wp2_with fail
      go_ret
      exact ⟨rfl, below3 ((Below.refl _ _).alloc (Nat.le_refl _) _) hb1 hb3⟩

theorem byte_of_wf {z : Int} (h : (Lit.int .u8 z).wf = true) : ∃ b : UInt8, z = b.toNat := by
  have hb := bounds_u8 h
  refine ⟨u8of z.toNat, ?_⟩
  rw [u8of_toNat (by omega)]
  omega

theorem four_bytes (zs : List Int) (h : zs.length = 4 ∧ ∀ z ∈ zs, (Lit.int .u8 z).wf = true) :
    ∃ m0 m1 m2 m3 : UInt8, (zs.map (Value.int .u8)).toArray = #[.int .u8 m0.toNat, .int .u8 m1.toNat, .int .u8 m2.toNat, .int .u8 m3.toNat] := by
  match zs, h with
  | [a, b, c, d], ⟨_, h⟩ =>
    obtain ⟨m0, rfl⟩ := byte_of_wf (h a (by simp))
    obtain ⟨m1, rfl⟩ := byte_of_wf (h b (by simp))
    obtain ⟨m2, rfl⟩ := byte_of_wf (h c (by simp))
    obtain ⟨m3, rfl⟩ := byte_of_wf (h d (by simp))
    exact ⟨m0, m1, m2, m3, rfl⟩

theorem walkCrcSpoils {w : World} (l : List UInt8) (hl : l.length ≤ maxLen) (p : Int) (_ : (Lit.int .i64 p).wf = true) (zs : List Int) (hz : zs.length = 4 ∧ ∀ z ∈ zs, (Lit.int .u8 z).wf = true) :
    Calls Try.prog 11 #[.string ⟨l.toArray⟩, .int .i64 p, .agg (zs.map (Value.int .u8)).toArray] w fun e w' => e = .returned (.bool true) ∧ Below w.heap.size w w' := by
  obtain ⟨m0, m1, m2, m3, hm⟩ := four_bytes zs hz
  rw [hm]
  by_cases h : 300 < l.length ∨ p < 0 ∨ (l.length : Int) + 4 ≤ p
  · exact spoils_out l (by unfold maxLen at hl; omega) p h m0 m1 m2 m3
  · obtain ⟨q, rfl⟩ := Int.eq_ofNat_of_zero_le (show 0 ≤ p by omega)
    exact spoils_in l (by omega) q (by omega) m0 m1 m2 m3

end Go.Proofs.Ytcphelohkllodaa
