/-
  THE CONTRACTS OF digest.place, digest.contacts AND OF THE DOCUMENT'S contacts.
-/
import Derived.Test.YtocjeehoghfnmaaDigGet
import Derived.Test.YtocjeehoghfnmaaIdMerge
namespace Go.Proofs.Ytocjeehoghfnmaa
open Go.RowKit

set_option maxHeartbeats 1600000 in
set_option maxRecDepth 100000 in
theorem place_any {w : World} {v : Value} {t : List Row} (hv : Tab w v t) (key : List UInt8) :
    Calls Try.prog 66 #[v, .string ⟨key.toArray⟩] w fun e w' => e = .returned (.int .i64 (diPlace t key)) ∧ Below w.heap.size w w' := by
  have HV := Lib.hid hv
  obtain ⟨a, cap, rfl, hm⟩ := hv.open'
  clear hv
  go_enter Try.func66, Try.ntmps66
  go_wp2_with fail
  go_loopw [5] (fun i wr => ∃ k : Nat, k ≤ t.length ∧ i = .int .i64 k ∧ Hid (Below w.heap.size w wr) ∧ Hid (plc t key k = diPlace t key)) (fun i _ => (intOf i).toNat)
  case atStart => exact ⟨t.length, by omega, rfl, Below.refl _ _, rfl⟩
  case round =>
    obtain ⟨k, hk, rfl, HN, HA⟩ := hrel
    rcases Nat.eq_zero_or_pos k with rfl | hpos
    · have HR : Hid (diPlace t key = 0) := by show _ = _; rw [← HA.out]; rfl
      go_wp2_with fail
      go_ret
      exact ⟨by rw [HR.out]; rfl, HN.out⟩
    · obtain ⟨j, rfl⟩ : ∃ j, k = j + 1 := ⟨k - 1, by omega⟩
      obtain ⟨b, off, rfl, h0, _, _, _, _⟩ := HV.out.row HN.out j (by omega)
      obtain ⟨yy, hy⟩ : ∃ yy, (t.getD j Row.zero).c = yy := ⟨_, rfl⟩
      rw [hy] at h0
      have ha := HA.out
      unfold plc at ha
      rw [hy] at ha
      cases hle : idLess yy key with
      | true =>
        rw [if_pos hle] at ha
        have HR := Lib.hid ha
        have HLe := Lib.hid (less_eq yy key (r := true) (Lib.hid hle))
        clear hle ha hy hpos
        go_wp2_with fail
        refine (HLe.out _).mono ?_
        rintro e w1 ⟨rfl, hb1⟩
        have N1 := Lib.hid (below2' HN.out hb1)
        clear hb1 h0
        go_wp2_with fail
        go_ret
        exact ⟨by rw [← HR.out]; rfl, N1.out⟩
      | false =>
        rw [if_neg (by rw [hle]; decide)] at ha
        have HA2 := Lib.hid ha
        have HLe := Lib.hid (less_eq yy key (r := false) (Lib.hid hle))
        clear hle ha hy hpos
        go_wp2_with fail
        refine (HLe.out _).mono ?_
        rintro e w1 ⟨rfl, hb1⟩
        have N1 := Lib.hid (below2' HN.out hb1)
        clear hb1 h0
        go_wp2_with fail
        go_roundw
        case rel => exact ⟨j, by omega, by go_num, N1, HA2⟩
        case measure => first | (simp [intOf]; done) | (simp [intOf]; omega)

/-- A row of texts that may be written. -/
def RowT (w : World) (B : Nat) (u : List (List UInt8)) : Prop := ∀ j, j < u.length → w.cell? ⟨B, j, none⟩ = some (encS (u.getD j [])) ∧ w.frozen? ⟨B, j, none⟩ = false

theorem RowT.set {w : World} {B : Nat} {u : List (List UInt8)} (h : RowT w B u) (j : Nat) (x : List UInt8) (hj : j < u.length) : RowT (w.setCell ⟨B, j, none⟩ (encS x)) B (u.set j x) := by
  intro i hi
  have hi' : i < u.length := by simpa using hi
  refine ⟨?_, (World.frozen?_setCell w _ _ _).trans (h i hi').2⟩
  by_cases hij : i = j
  · subst hij
    rw [World.cell?_setCell_same _ _ _ (h i hj).1]
    simp [List.getD, hj]
  · rw [World.cell?_setCell_other _ _ _ _ (by simp), (h i hi').1]
    simp [List.getD, show ¬ j = i by omega]

theorem RowT.later {w w' : World} {B : Nat} {u : List (List UInt8)} (h : RowT w B u) (hB : B < w.heap.size) (hb : Below w.heap.size w w') : RowT w' B u := fun j hj =>
  ⟨(hb.cell (p := ⟨B, j, none⟩) hB).trans (h j hj).1, (hb.frozen (p := ⟨B, j, none⟩) hB).trans (h j hj).2⟩

theorem RowT.texts {w : World} {B : Nat} {u : List (List UInt8)} (h : RowT w B u) (hB : B < w.heap.size) (hl : u.length ≤ 4294967296) : Texts w (.slice (some ⟨B, 0, none⟩) u.length u.length) u :=
  ⟨_, u.length, rfl, Nat.le_refl _, by unfold maxLen; omega, (fun e => by cases e), .inr ⟨B, 0, rfl, hB, fun i hi => by rw [Nat.zero_add]; exact (h i hi).1⟩⟩

/-- The contacts up to k, and nothing yet behind. -/
def ctsAt (t : List Row) (k : Nat) : List (List UInt8) := (cts t).take k ++ List.replicate (t.length - k) []

theorem cts_len (t : List Row) : (cts t).length = t.length := by simp [cts]
theorem ctsAt_len {t : List Row} {k : Nat} (h : k ≤ t.length) : (ctsAt t k).length = t.length := by unfold ctsAt; rw [List.length_append, List.length_take, cts_len, List.length_replicate]; omega
theorem cts_at {t : List Row} {k : Nat} (hk : k < t.length) : (cts t)[k]? = some (t.getD k Row.zero).c := by
  unfold cts
  rw [List.getElem?_map, row_at hk]
  rfl

theorem ctsAt_set {t : List Row} {k : Nat} (hk : k < t.length) : (ctsAt t k).set k (t.getD k Row.zero).c = ctsAt t (k + 1) := by
  unfold ctsAt
  have h1 : ((cts t).take k).length = k := by rw [List.length_take, cts_len]; omega
  have hk2 : k < (cts t).length := by rw [cts_len]; exact hk
  rw [List.set_append_right _ _ (by omega), h1, Nat.sub_self, show t.length - k = (t.length - (k + 1)) + 1 by omega, List.replicate_succ, List.set_cons_zero, List.take_succ_eq_append_getElem hk2]
  have : (cts t)[k] = (t.getD k Row.zero).c := by
    have := cts_at hk
    rw [List.getElem?_eq_getElem hk2] at this
    exact Option.some.inj this
  rw [this]
  simp

theorem ctsAt_end (t : List Row) : ctsAt t t.length = cts t := by
  unfold ctsAt
  rw [Nat.sub_self, List.take_of_length_le (by rw [cts_len]; omega)]
  simp

theorem madeTexts (n : Nat) : (madeCells (Value.string ⟨#[]⟩).cells (n * 1)).toList = List.replicate n (encS []) := by
  rw [Nat.mul_one]
  exact toList_madeCells_one _ n

/-- 'make([]string, n)'. -/
theorem wpList_make_texts {w : World} {ops : Array Oper} {rest : List Oper} {o : Oper} {a : Act} {Q : Exit → Act → World → Prop}
    (hg : o.guard = none) (l c : Operand) (hop : o.op = Op.makeSlice 93 l c)
    (L C : Int) (n : Nat) (hl : a.eval l = .int .i64 L) (hc : a.eval c = .int .i64 C) (hL : L = (n : Int)) (hC : C = (n : Int)) (hn : n ≤ 4294967296)
    (hK : ∀ w', RowT w' w.heap.size (List.replicate n []) → Below w.heap.size w w' → w.heap.size < w'.heap.size → wpList Try.prog ops Q rest (a.put o.dst (.slice (some ⟨w.heap.size, 0, none⟩) n n)) w') :
    wpList Try.prog ops Q (o :: rest) a w := by
  obtain ⟨i, hi, hz, hsize, hby⟩ := info_parts Try.infoStr
  refine wpList_make_full w hg l c _ hop w.heap.size 9 i _ 1 Try.underlying93 hi hz hsize .i64 .i64 L C n hl hc hL hC (by rw [hby]; omega) (by unfold maxLen; omega) (Nat.le_refl _) ?_
  intro w' hown hgrow
  refine hK w' (fun j hj => ?_) ((Below.refl _ _).grown hgrow (Nat.le_refl _) (fun k hk => by simp at hk)) (hown.lt w.heap.size rfl).2
  have hj' : j < n := by simpa using hj
  refine ⟨?_, hown.frozenAt j⟩
  rw [hown.cellAt j (by omega), madeTexts]
  simp [List.getD, hj']

set_option maxHeartbeats 1600000 in
set_option maxRecDepth 100000 in
theorem contacts_any {w : World} {v : Value} {t : List Row} (hv : Tab w v t) (hl : t.length ≤ 4294967296) :
    Calls Try.prog 69 #[v] w fun e w' => ∃ u, e = .returned u ∧ Texts w' u (cts t) ∧ Below w.heap.size w w' := by
  have HV := Lib.hid hv
  obtain ⟨a, cap, rfl, _⟩ := hv.open'
  clear hv
  go_enter Try.func69, Try.ntmps69
  go_wp2_with (at_make; go_must (refine wpList_make_texts rfl _ _ rfl _ _ t.length rfl rfl (by omega) (by omega) (by omega) ?_))
  intro w1 h1 hb1 hz1
  have R1 : Hid (RowT w1 w.heap.size (ctsAt t 0)) := by show RowT _ _ _; simpa [ctsAt] using h1
  have B1 := Lib.hid hb1
  clear h1 hb1
  go_wp2_with fail
  go_loopw [11] (fun i wr => ∃ k : Nat, k ≤ t.length ∧ i = .int .i64 k ∧ Hid (RowT wr w.heap.size (ctsAt t k)) ∧ Hid (Below w.heap.size w wr) ∧ w.heap.size < wr.heap.size) (fun i _ => t.length - (intOf i).toNat)
  case atStart => exact ⟨0, by omega, rfl, R1, B1, hz1⟩
  case round =>
    clear R1 B1 hz1
    obtain ⟨k, hk, rfl, HR, HN, hz⟩ := hrel
    by_cases hlt : k < t.length
    · obtain ⟨b, off, rfl, h0, h1, h2, h3, h4⟩ := HV.out.row HN.out k hlt
      have HS := HR.out.set k (t.getD k Row.zero).c (by rw [ctsAt_len (by omega)]; exact hlt)
      rw [ctsAt_set hlt] at HS
      have hc0 := (HR.out k (by rw [ctsAt_len (by omega)]; exact hlt)).1
      have hf0 := (HR.out k (by rw [ctsAt_len (by omega)]; exact hlt)).2
      obtain ⟨⟨c, ⟨x, y, z, st⟩⟩, hr⟩ : ∃ r, t.getD k Row.zero = r := ⟨_, rfl⟩
      rw [hr] at h0 h1 h2 h3 h4 HS
      simp only at h0 h1 h2 h3 h4 HS
      unfold encS at HS hc0
      have HS2 := Lib.hid HS
      have HN2 : Hid (Below w.heap.size w (wr.setCell ⟨w.heap.size, k, none⟩ (.string ⟨c.toArray⟩))) := HN.out.setCell (Nat.le_refl _) _
      have hz2 : w.heap.size < (wr.setCell ⟨w.heap.size, k, none⟩ (.string ⟨c.toArray⟩)).heap.size := by simpa using hz
      have HS3 := Lib.hid (HS2.out.later hz2 ((Below.refl _ _).alloc (Nat.le_refl _) (.cells #[.string ⟨c.toArray⟩, .int .i64 x, .int .i64 y, .int .i64 z, .string ⟨st.toArray⟩] 48)))
      have HN3 := Lib.hid (bl_alloc HN2.out (.cells #[.string ⟨c.toArray⟩, .int .i64 x, .int .i64 y, .int .i64 z, .string ⟨st.toArray⟩] 48))
      clear hr HS
      go_wp2_with fail
      go_roundw
      case rel => exact ⟨k + 1, by omega, by go_num, HS3, HN3, by simp; omega⟩
      case measure => simp [intOf]; omega
    · obtain rfl : k = t.length := by omega
      have HT : Hid (Texts wr (.slice (some ⟨w.heap.size, 0, none⟩) t.length t.length) (cts t)) := by
        show Texts _ _ _
        have := HR.out
        rw [ctsAt_end] at this
        have h2 := this.texts hz (by rw [cts_len]; exact hl)
        rwa [cts_len] at h2
      go_wp2_with fail
      go_ret
      exact ⟨_, rfl, HT.out, HN.out⟩

theorem cts_take_succ {t : List Row} {k : Nat} (hk : k < t.length) : cts (t.take (k + 1)) = cts (t.take k) ++ [(t.getD k Row.zero).c] := by
  unfold cts
  rw [List.take_succ_eq_append_getElem hk, row_get hk, List.map_append]
  rfl

set_option maxHeartbeats 1600000 in
set_option maxRecDepth 100000 in
theorem rcontacts_any {w : World} {v : Value} {t : List Row} (hv : Tab w v t) (hl : t.length ≤ 4294967) :
    Calls Try.prog 71 #[v] w fun e w' => ∃ u, e = .returned u ∧ Texts w' u (cts t) ∧ Below w.heap.size w w' := by
  obtain ⟨i0, hi, hz0, hz1, hz2⟩ := info_parts Try.infoStr
  have HV := Lib.hid hv
  obtain ⟨a, cap, rfl, _⟩ := hv.open'
  clear hv
  go_enter Try.func71, Try.ntmps71
  go_wp2_with fail
  go_loopw [3, 4] (fun s i wr => ∃ k : Nat, k ≤ t.length ∧ i = .int .i64 k ∧ Hid (OwnT wr w.heap.size 9 s (cts (t.take k))) ∧ Hid (Below w.heap.size w wr)) (fun _ i _ => t.length - (intOf i).toNat)
  case atStart => exact ⟨0, by omega, rfl, World.ownsRow_nil _ _ _ _, Below.refl _ _⟩
  case round =>
    obtain ⟨k, hk, rfl, HO, HN⟩ := hrel
    by_cases hlt : k < t.length
    · obtain ⟨b, off, rfl, h0, _, _, _, _⟩ := HV.out.row HN.out k hlt
      have HX := Lib.hid (cts_take_succ hlt)
      obtain ⟨c, hc⟩ : ∃ c, (t.getD k Row.zero).c = c := ⟨_, rfl⟩
      rw [hc] at h0 HX
      have O2 := Lib.hid (HO.out.alloc (.cells #[.string ⟨c.toArray⟩] 9))
      have N2 := Lib.hid (bl_alloc HN.out (.cells #[.string ⟨c.toArray⟩] 9))
      have hz3 := N2.out.size
      have hcl : (cts (t.take k)).length ≤ 4294967 := by rw [cts_len, List.length_take]; omega
      clear hc HO
      go_wp2_with (at_builtin; go_must (refine wpList_append_texts rfl _ _ 93 rfl w.heap.size 9 i0 _ 16 Try.underlying93 hi hz0 hz1 hz2 rfl _ (cts (t.take k)) rfl (by exact O2.out) _ 1 1 [c] rfl rfl (fun e => nomatch e) ?c1 (by simp only [List.length_cons, List.length_nil]; omega) (by decide) hz3 ?_))
      case c1 => exact new_cell
      intro v' w' hown' hb'
      rw [← HX.out] at hown'
      have O3 := Lib.hid hown'
      have N3 := Lib.hid (N2.out.trans hb')
      clear hown' hb' O2 h0
      go_wp2_with fail
      go_roundw
      case rel => exact ⟨k + 1, by omega, by go_num, O3, N3⟩
      case measure => simp [intOf]; omega
    · obtain rfl : k = t.length := by omega
      have ht := HO.out.texts
      rw [List.take_length] at ht
      have HT := Lib.hid ht
      clear ht
      go_wp2_with fail
      go_ret
      exact ⟨_, rfl, HT.out, HN.out⟩

end Go.Proofs.Ytocjeehoghfnmaa
