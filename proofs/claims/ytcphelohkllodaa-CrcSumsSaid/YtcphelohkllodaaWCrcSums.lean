/-
  THE WALK OF CrcSums, out of the contracts.
-/
import Derived.Test.YtcphelohkllodaaWCrcSpoils
namespace Go.Proofs.Ytcphelohkllodaa
open Go.RowKit

/-- 'make([]byte, n)': a row of noughts. -/
theorem wpList_make_bytes {P : Program} {w : World} {ops : Array Oper} {rest : List Oper} {o : Oper} {a : Act} {Q : Exit → Act → World → Prop}
    (hg : o.guard = none) (l c : Operand) (t : TypeId) (hop : o.op = Op.makeSlice t l c)
    (e : TypeId) (i : TypeInfo) (h1 : P.underlying t = some (.slice e)) (h2 : P.info? e = some i) (h3 : i.zero = some (.int .u8 0)) (h4 : i.size = 1) (h5 : i.bytes = 1)
    (L C : Int) (n : Nat) (hl : a.eval l = .int .i64 L) (hc : a.eval c = .int .i64 C) (hL : L = (n : Int)) (hC : C = (n : Int)) (hn : n ≤ 4294967296)
    (hK : ∀ w', RowIs w' w.heap.size (List.replicate n 0) → Below w.heap.size w w' → wpList P ops Q rest (a.put o.dst (.slice (some ⟨w.heap.size, 0, none⟩) n n)) w') :
    wpList P ops Q (o :: rest) a w := by
  refine wpList_make_full w hg l c t hop w.heap.size e i (.int .u8 0) 1 h1 h2 h3 h4 .i64 .i64 L C n hl hc hL hC (by rw [h5]; omega) (by unfold maxLen; omega) (Nat.le_refl _) ?_
  intro w' hown hgrow
  refine hK w' (fun j hj => ?_) ((Below.refl _ _).grown hgrow (Nat.le_refl _) (fun k hk => by simp at hk))
  have hj' : j < n := by simpa using hj
  refine ⟨?_, hown.frozenAt j⟩
  rw [hown.cellAt j (by omega)]
  have e1 : (madeCells (Value.int .u8 0).cells (n * 1)).toList = List.replicate n (.int .u8 0) := by
    rw [Nat.mul_one]
    exact toList_madeCells_one _ n
  rw [e1]
  simp [List.getD, hj']

theorem rowIs_string {P : Program} {w : World} {B : Nat} {u : List UInt8} (h : RowIs w B u) (src dst e : TypeId) (hs : P.underlying src = some (.slice e)) (he : P.underlying e = some (.int .u8)) (hd : P.underlying dst = some .string) (n : Nat) (hn : n = u.length) (cap : Nat) :
    (convert src dst (.slice (some ⟨B, 0, none⟩) n cap)).run P w = .ok (.string ⟨u.toArray⟩) w := by
  subst hn
  refine run_convert_bytes_back w src dst e ⟨B, 0, none⟩ cap u hs he hd (fun j hj => ?_)
  have := (h j hj).1
  rw [Addr.add_lit, Nat.zero_add, this]
  simp [List.getD, List.getElem?_eq_getElem hj]

theorem RowIs.below {w w' : World} {B C : Nat} {u : List UInt8} (h : RowIs w B u) (hb : Below C w w') (hB : B < C) : RowIs w' B u := fun j hj =>
  ⟨(hb.cell (p := ⟨B, j, none⟩) hB).trans (h j hj).1, (hb.frozen (p := ⟨B, j, none⟩) hB).trans (h j hj).2⟩

theorem RowIs.later {w w' : World} {B : Nat} {u : List UInt8} (h : RowIs w B u) (hb : Below w.heap.size w w') : RowIs w' B u := fun j hj => by
  have hlt : B < w.heap.size := World.block_lt_of_cell? w _ (h j hj).1
  exact ⟨(hb.cell (p := ⟨B, j, none⟩) hlt).trans (h j hj).1, (hb.frozen (p := ⟨B, j, none⟩) hlt).trans (h j hj).2⟩

theorem cell_later' {w w' : World} {a : Addr} {v : Value} (h : w.cell? a = some v) (hb : Below w.heap.size w w') : w'.cell? a = some v :=
  (hb.cell (World.block_lt_of_cell? w a h)).trans h

theorem regrown_below {w w' : World} (h : ∃ p : Regrown, w' = Sort.grow (redrawn w p.d) p.os) : Below w.heap.size w w' := by
  obtain ⟨p, rfl⟩ := h
  exact below_regrown _ _ _

theorem sums_go (s t : List UInt8) (h : s.length = t.length) : csum s ^^^ csum t = csum (List.zipWith (· ^^^ ·) s t) ^^^ csum (List.replicate s.length 0) := by
  have e1 := cfold_zip s t 4294967295 4294967295 h
  have hz : List.zipWith (· ^^^ ·) (List.zipWith (· ^^^ ·) s t) (List.replicate s.length (0 : UInt8)) = List.zipWith (· ^^^ ·) s t := by
    apply List.ext_getElem
    · simp
    · intro i h1 h2
      simp
  have e2 := cfold_zip (List.zipWith (· ^^^ ·) s t) (List.replicate s.length 0) 4294967295 4294967295 (by simp; omega)
  rw [hz] at e2
  unfold csum
  rw [show cfold 4294967295 s ^^^ 4294967295 ^^^ (cfold 4294967295 t ^^^ 4294967295) = cfold 4294967295 s ^^^ cfold 4294967295 t by
    rw [Nat.xor_comm (cfold 4294967295 t), ← Nat.xor_assoc, xor_cancel]]
  rw [show ∀ a b : Nat, a ^^^ 4294967295 ^^^ (b ^^^ 4294967295) = a ^^^ b from fun a b => by rw [Nat.xor_comm b, ← Nat.xor_assoc, xor_cancel]]
  rw [e1, e2]

theorem cstep0_xor (a b : Nat) : cstep a 0 ^^^ cstep b 0 = cstep (a ^^^ b) 0 := by
  unfold cstep
  rw [← cN_xor, Nat.xor_zero, Nat.xor_zero, Nat.xor_zero]

theorem cstep0_inj {a b : Nat} (ha : a < 4294967296) (hb : b < 4294967296) (h : cstep a 0 = cstep b 0) : a = b := by
  unfold cstep at h
  rw [Nat.xor_zero, Nat.xor_zero] at h
  exact cN_inj 8 ha hb h

theorem Try.infoB8 : (Try.prog.info? 5).map (fun i => (i.zero, i.size, i.bytes)) = some (some (.int .u8 0), 1, 1) := by kernel_rfl

theorem step_nought (c : Nat) (hc : c < 4294967296) (w : World) :
    Calls Try.prog 28 #[.int .u32 c, .int .u8 0] w fun e w' => e = .returned (.int .u32 (cstep c 0)) ∧ w = w' := step_any c 0 hc (by decide) w

set_option maxHeartbeats 3200000 in
set_option maxRecDepth 1000000 in
theorem sums_in {w : World} (s t : List UInt8) (hl : t.length ≤ 300) (hst : s.length = t.length) (c0 c1 : Nat) (h0 : c0 < 4294967296) (h1 : c1 < 4294967296) :
    Calls Try.prog 12 #[.string ⟨s.toArray⟩, .string ⟨t.toArray⟩, .agg #[.int .u32 c0, .int .u32 c1]] w fun e w' => e = .returned (.bool true) ∧ Below w.heap.size w w' := by
  obtain ⟨i0, hi, hz0, hz1, hz2⟩ := info_parts Try.infoB8
  have g1 : decide ((300 : Int) < (t.length : Int)) = false := by simp; omega
  have hc0 : (w.alloc (.cells #[.int .u32 c0, .int .u32 c1] 50)).cell? ⟨w.heap.size, 0, none⟩ = some (.int .u32 c0) := by
    rw [World.cell?_alloc_at _ _ _ _ rfl]; rfl
  have hc1 : (w.alloc (.cells #[.int .u32 c0, .int .u32 c1] 50)).cell? ⟨w.heap.size, 1, none⟩ = some (.int .u32 c1) := by
    rw [World.cell?_alloc_at _ _ _ _ rfl]; rfl
  have HC0 := Lib.hid hc0
  have HC1 := Lib.hid hc1
  clear hc0 hc1
  go_enter Try.func12, Try.ntmps12
  go_wp2_with (at_make; go_must (refine wpList_make_bytes rfl _ _ 48 rfl 5 i0 Try.underlying48 hi hz0 hz1 hz2 _ _ t.length rfl rfl (by omega) (by omega) (by omega) ?_))
  intro w1 hrow hb1
  have HR0 := Lib.hid hrow
  have hsz1 : w.heap.size + 1 ≤ w1.heap.size := by have := hb1.size; simpa using this
  have HB1 : Below (w.heap.size + 1) (w.alloc (.cells #[.int .u32 c0, .int .u32 c1] 50)) w1 := hb1
  clear hrow hb1
  go_wp2_with fail
  go_loopw [8] (fun i wr => ∃ (k : Nat) (u : List UInt8), k ≤ t.length ∧ i = .int .i64 k ∧ Hid (u.length = t.length ∧ ∀ j, j < k → u.getD j 0 = s.getD j 0 ^^^ t.getD j 0) ∧ Hid (RowIs wr (w.heap.size + 1) u) ∧ Below (w.heap.size + 1) (w.alloc (.cells #[.int .u32 c0, .int .u32 c1] 50)) wr)
    (fun i _ => t.length - (intOf i).toNat)
  case atStart => exact ⟨0, List.replicate t.length 0, by omega, rfl, by show _ ∧ _; simp, HR0, HB1⟩
  case round =>
    obtain ⟨k, u, hk, rfl, HU, HR, hnx⟩ := hrel
    by_cases hlt : k < t.length
    · have hlt1 : k < (⟨s.toArray⟩ : ByteArray).size := by rw [size_bytes]; omega
      have hlt2 : k < (⟨t.toArray⟩ : ByteArray).size := by rw [size_bytes]; omega
      obtain ⟨x, hx⟩ : ∃ x : UInt8, (⟨s.toArray⟩ : ByteArray)[k]'hlt1 = x := ⟨_, rfl⟩
      obtain ⟨y, hy⟩ : ∃ y : UInt8, (⟨t.toArray⟩ : ByteArray)[k]'hlt2 = y := ⟨_, rfl⟩
      have HX : Hid (s.getD k 0 = x) := by show _ = _; rw [← hx, List.getD, bytes_at s k hlt1]; rfl
      have HY : Hid (t.getD k 0 = y) := by show _ = _; rw [← hy, List.getD, bytes_at t k hlt2]; rfl
      have hku : k < u.length := by have := HU.out.1; omega
      have hcell := (HR.out k hku).1
      have hfr := (HR.out k hku).2
      have hxor : bits .xor .u8 (x.toNat : Int) (y.toNat : Int) = ((x ^^^ y).toNat : Int) := by
        rw [u8_xor_nat _ _ x.toNat_lt y.toNat_lt, UInt8.toNat_xor]
      have hR2 := Lib.hid (HR.out.set k (x ^^^ y) hku)
      have hU2 : Hid ((u.set k (x ^^^ y)).length = t.length ∧ ∀ j, j < k + 1 → (u.set k (x ^^^ y)).getD j 0 = s.getD j 0 ^^^ t.getD j 0) := by
        show _ ∧ _
        refine ⟨by simpa using HU.out.1, fun j hj => ?_⟩
        by_cases hjk : j = k
        · subst hjk
          rw [HX.out, HY.out]
          simp [List.getD, hku]
        · rw [← HU.out.2 j (by omega)]
          simp [List.getD, show ¬ k = j by omega]
      have HBel := Lib.hid ((hnx.setCell (p := ⟨w.heap.size + 1, k, none⟩) (Nat.le_refl _) (.int .u8 (x ^^^ y).toNat)).drew)
      clear hku
      go_wp2_with fail
      go_region
      go_wp2_with fail
      go_roundw
      case rel => exact ⟨k + 1, u.set k (x ^^^ y), by omega, by go_num, hU2, hR2, HBel.out⟩
      case measure => simp [intOf]; omega
    · obtain rfl : k = t.length := by omega
      have hu : u = List.zipWith (· ^^^ ·) s t := by
        apply List.ext_getElem
        · rw [HU.out.1]; simp; omega
        · intro i h2 h3
          have h4 := HU.out.1
          have h5 := HU.out.2 i (by omega)
          simp only [List.getD, List.getElem?_eq_getElem h2, List.getElem?_eq_getElem (show i < s.length by omega), List.getElem?_eq_getElem (show i < t.length by omega), Option.getD_some] at h5
          simp [h5]
      have hgo := sums_go s t hst
      rw [← hu, hst] at hgo
      clear hlt hk hu
      go_wp2_with (at_make; go_must (refine wpList_make_bytes rfl _ _ 48 rfl 5 i0 Try.underlying48 hi hz0 hz1 hz2 _ _ t.length rfl rfl (by omega) (by omega) (by omega) ?_))
      intro w2 hrow2 hb2
      obtain ⟨z, hz⟩ : ∃ z : List UInt8, z = List.replicate t.length 0 := ⟨_, rfl⟩
      rw [← hz] at hgo hrow2
      have hzl : z.length = t.length := by rw [hz]; simp
      have hcv2 := rowIs_string (P := Try.prog) hrow2 48 9 5 Try.underlying48 Try.underlying5 Try.underlying9 t.length hzl.symm t.length
      have hR2 : RowIs w2 (w.heap.size + 1) u := HR.out.later hb2
      have hcu := fun d os => rowIs_string (P := Try.prog) (hR2.later (below_regrown w2 d os)) 48 9 5 Try.underlying48 Try.underlying5 Try.underlying9 t.length HU.out.1.symm t.length
      have hA : csum s ^^^ csum t = csum s ^^^ csum t := rfl
      obtain ⟨A, hA⟩ : ∃ A, A = csum s ^^^ csum t := ⟨_, rfl⟩
      have x1 : bits .xor .u32 ((csum s : Nat) : Int) ((csum t : Nat) : Int) = (A : Int) := by rw [xor_u32 _ _ (csum_lt s) (csum_lt t), hA]
      have x2 : bits .xor .u32 ((csum u : Nat) : Int) ((csum z : Nat) : Int) = (A : Int) := by rw [xor_u32 _ _ (csum_lt u) (csum_lt z), hA, hgo]
      have HSs := Lib.hid (sum_any s (by omega))
      have HSt := Lib.hid (sum_any t (by omega))
      have HSu := Lib.hid (sum_any u (by have := HU.out.1; omega))
      have HSz := Lib.hid (sum_any z (by omega))
      have HRow2 := Lib.hid hrow2
      have hkeep : Below (w.heap.size + 1) (w.alloc (.cells #[.int .u32 c0, .int .u32 c1] 50)) w2 := hnx.trans (hb2.mono (by have := hnx.size; simpa using this))
      have k0 : w2.cell? ⟨w.heap.size, 0, none⟩ = some (.int .u32 c0) := (hkeep.cell (p := ⟨w.heap.size, 0, none⟩) (by simp)).trans HC0.out
      have k1 : w2.cell? ⟨w.heap.size, 1, none⟩ = some (.int .u32 c1) := (hkeep.cell (p := ⟨w.heap.size, 1, none⟩) (by simp)).trans HC1.out
      have HK0 := Lib.hid k0
      have HK1 := Lib.hid k1
      have HKeep := Lib.hid hkeep
      clear hgo hz hzl hR2 hrow2 hb2 k0 k1 hkeep hA HR HU hnx
      go_wp2_with fail
      refine wp_region_quiet_below (by kernel_rfl) (by kernel_rfl) ?_
      repeat (go_big_quiet_step (first | with_reducible exact rgB HSs.out _ _ _ | with_reducible exact rgB HSt.out _ _ _ | with_reducible exact rgB HSu.out _ _ _ | with_reducible exact rgB HSz.out _ _ _))
      refine wpQuiet_nil ?_
      intro w3 hw3
      have hb3 := regrown_below hw3
      have k0 := cell_later' HK0.out hb3
      have k1 := cell_later' HK1.out hb3
      have HB3 : Hid (Below w.heap.size w w3) := ((Below.refl _ _).alloc (Nat.le_refl _) _).trans ((HKeep.out.mono (Nat.le_succ _)).trans (hb3.mono (by have := HKeep.out.size; simp at this; omega)))
      clear hw3 hb3 x1 x2 hcu hcv2
      go_wp2_with fail
      have kr0 := cell_regrown k0
      have kr1 := cell_regrown k1
      have y1 : bits .xor .u32 ((cstep c0 0 : Nat) : Int) ((cstep c1 0 : Nat) : Int) = ((cstep (c0 ^^^ c1) 0 : Nat) : Int) := by
        rw [xor_u32 _ _ (cstep_lt h0 (by decide)) (cstep_lt h1 (by decide)), cstep0_xor]
      have y2 : bits .xor .u32 (c0 : Int) (c1 : Int) = ((c0 ^^^ c1 : Nat) : Int) := xor_u32 c0 c1 h0 h1
      have hx01 : c0 ^^^ c1 < 4294967296 := Nat.xor_lt_two_pow (n := 32) h0 h1
      have y3 : (((cstep c0 0 : Nat) : Int) == ((cstep c1 0 : Nat) : Int)) = ((c0 : Int) == (c1 : Int)) := by
        by_cases h : c0 = c1
        · rw [h]; simp
        · have h' : ¬ cstep c0 0 = cstep c1 0 := fun e => h (cstep0_inj h0 h1 e)
          have e1 : ((c0 : Int) == (c1 : Int)) = false := by simp; omega
          have e2 : (((cstep c0 0 : Nat) : Int) == ((cstep c1 0 : Nat) : Int)) = false := by simp; omega
          rw [e1, e2]
      have HT0 := Lib.hid (step_nought c0 h0)
      have HT1 := Lib.hid (step_nought c1 h1)
      have HTx := Lib.hid (step_nought (c0 ^^^ c1) hx01)
      obtain ⟨d0, hd0⟩ : ∃ d0, d0 = cstep c0 0 := ⟨_, rfl⟩
      obtain ⟨d1, hd1⟩ : ∃ d1, d1 = cstep c1 0 := ⟨_, rfl⟩
      obtain ⟨c, hc⟩ : ∃ c, c = c0 ^^^ c1 := ⟨_, rfl⟩
      rw [← hc] at y1 y2 HTx
      obtain ⟨dx, hdx⟩ : ∃ dx, dx = cstep c 0 := ⟨_, rfl⟩
      rw [← hdx] at HTx
      rw [← hd0] at HT0
      rw [← hd1] at HT1
      rw [← hd0, ← hd1, ← hdx] at y1
      rw [← hd0, ← hd1] at y3
      clear hd0 hd1 hc hdx hx01 k0 k1
      obtain ⟨q, hq⟩ : ∃ q : Bool, ((c0 : Int) == (c1 : Int)) = q := ⟨_, rfl⟩
      rw [hq] at y3
      refine wp_region_quiet_below (by kernel_rfl) (by kernel_rfl) ?_
      repeat (go_big_quiet_step (first | with_reducible exact rgS HT0.out _ _ _ | with_reducible exact rgS HT1.out _ _ _ | with_reducible exact rgS HTx.out _ _ _ | with_reducible exact rgB live2 _ _ _))
      refine wpQuiet_nil ?_
      intro w4 hw4
      have hb4 := regrown_below hw4
      clear hw4
      go_wp2_with fail
      go_ret
      exact ⟨rfl, below2' HB3.out hb4⟩

set_option maxHeartbeats 800000 in
set_option maxRecDepth 1000000 in
theorem sums_out {w : World} (s t : List UInt8) (_hs : s.length ≤ 9223372036854775807) (_ht : t.length ≤ 9223372036854775807) (h : 300 < s.length ∨ s.length ≠ t.length) (c0 c1 : Nat) :
    Calls Try.prog 12 #[.string ⟨s.toArray⟩, .string ⟨t.toArray⟩, .agg #[.int .u32 c0, .int .u32 c1]] w fun e w' => e = .returned (.bool true) ∧ Below w.heap.size w w' := by
  by_cases h1 : 300 < s.length
  · clear h
    go_enter Try.func12, Try.ntmps12
    go_wp2_with fail
    refine (live2 _).mono ?_
    rintro e w3 ⟨rfl, hb3⟩
    go_wp2_with fail
    go_ret
    exact ⟨rfl, below2' ((Below.refl _ _).alloc (Nat.le_refl _) _) hb3⟩
  · have g2 : ((s.length : Int) != (t.length : Int)) = true := by simp; omega
    clear h
    go_enter Try.func12, Try.ntmps12
    go_wp2_with fail
    refine (live2 _).mono ?_
    rintro e w3 ⟨rfl, hb3⟩
    go_wp2_with fail
    go_ret
    exact ⟨rfl, below2' ((Below.refl _ _).alloc (Nat.le_refl _) _) hb3⟩

theorem two_words (zs : List Int) (h : zs.length = 2 ∧ ∀ z ∈ zs, (Lit.int .u32 z).wf = true) :
    ∃ c0 c1 : Nat, c0 < 4294967296 ∧ c1 < 4294967296 ∧ (zs.map (Value.int .u32)).toArray = #[.int .u32 c0, .int .u32 c1] := by
  match zs, h with
  | [a, b], ⟨_, h⟩ =>
    have ha := bounds_u32 (h a (by simp))
    have hb := bounds_u32 (h b (by simp))
    refine ⟨a.toNat, b.toNat, by omega, by omega, ?_⟩
    rw [Int.toNat_of_nonneg ha.1, Int.toNat_of_nonneg hb.1]
    rfl

theorem walkCrcSums {w : World} (s : List UInt8) (hs : s.length ≤ maxLen) (t : List UInt8) (ht : t.length ≤ maxLen) (zs : List Int) (hz : zs.length = 2 ∧ ∀ z ∈ zs, (Lit.int .u32 z).wf = true) :
    Calls Try.prog 12 #[.string ⟨s.toArray⟩, .string ⟨t.toArray⟩, .agg (zs.map (Value.int .u32)).toArray] w fun e w' => e = .returned (.bool true) ∧ Below w.heap.size w w' := by
  obtain ⟨c0, c1, h0, h1, hm⟩ := two_words zs hz
  rw [hm]
  unfold maxLen at hs ht
  by_cases h : 300 < s.length ∨ s.length ≠ t.length
  · exact sums_out s t (by omega) (by omega) h c0 c1
  · exact sums_in s t (by omega) (by omega) c0 c1 h0 h1

end Go.Proofs.Ytcphelohkllodaa
