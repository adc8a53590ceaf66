/-
  THE CONTRACT OF ident.Fold (with small): a Builder, written in a range over a string.
-/
import Derived.Test.YthfkfonfiejbmaaIdIs
namespace Go.Proofs.Ythfkfonfiejbmaa
open Go.RowKit Go.Lib

def smallR (r : Int) : Int := if 65 ≤ r ∧ r ≤ 90 then r + 32 else r

set_option maxHeartbeats 400000 in
set_option maxRecDepth 100000 in
theorem small_eq (r : Int) (h0 : 0 ≤ r) (h1 : r ≤ 2147483647) {q : Int} (h : Hid (smallR r = q)) (w : World) :
    Calls Try.prog 64 #[.int .i32 r] w fun e w' => e = .returned (.int .i32 q) ∧ w = w' := by
  have h' := h.out
  unfold smallR at h'
  clear h
  by_cases hb : 65 ≤ r ∧ r ≤ 90
  · rw [if_pos hb] at h'
    obtain ⟨h2, h3⟩ := hb
    have HQ : Hid (r - 65 + 97 = q) := by show _ = _; omega
    clear h'
    go_enter Try.func64, Try.ntmps64
    go_wp2_with fail
    go_ret
    exact ⟨by rw [← HQ.out]; first | rfl | exact ret_int (by omega), rfl⟩
  · rw [if_neg hb] at h'
    subst h'
    have hor : r < 65 ∨ (65 ≤ r ∧ 90 < r) := by omega
    clear hb
    rcases hor with h2 | ⟨h2, h3⟩
    all_goals
      go_enter Try.func64, Try.ntmps64
      go_wp2_with fail
      go_ret
      exact ⟨rfl, rfl⟩

/-- Where the folding of l stands: at pos; acc is what is written. -/
def FoldAt (l : List UInt8) (pos : Nat) (acc : List UInt8) : Prop :=
  (pos ≤ l.length ∧ acc = idLow (l.take pos)) ∨ ((∃ b ∈ acc, 128 ≤ b.toNat) ∧ ∃ b ∈ l, 128 ≤ b.toNat)

theorem encode_low {b : UInt8} (h : b.toNat < 128) : encodeRune (smallR (b.toNat : Int)) = [low1 b] := by
  have hs : smallR (b.toNat : Int) = ((low1 b).toNat : Int) := by
    unfold smallR low1
    by_cases hb : 65 ≤ b.toNat ∧ b.toNat ≤ 90
    · rw [if_pos (by omega), if_pos hb, u8of_toNat (by omega)]; omega
    · rw [if_neg (by omega), if_neg hb]
  have hl : (low1 b).toNat < 128 := by
    unfold low1
    by_cases hb : 65 ≤ b.toNat ∧ b.toNat ≤ 90
    · rw [if_pos hb, u8of_toNat (by omega)]; omega
    · rw [if_neg hb]; exact h
  rw [hs]
  unfold encodeRune
  rw [encodeRuneZ_one (by omega) (by omega)]
  simp

theorem encode_high {r : Nat} (h : 128 ≤ r) : ∃ b ∈ encodeRune (smallR (r : Int)), 128 ≤ b.toNat := by
  have hs : smallR (r : Int) = r := by unfold smallR; rw [if_neg (by omega)]
  rw [hs]
  have key : ∀ x, x ∈ encodeRuneZ (r : Int) → 128 ≤ x → x < 256 → ∃ b ∈ encodeRune (r : Int), 128 ≤ b.toNat := by
    intro x hx h1 h2
    refine ⟨x.toNat.toUInt8, List.mem_map.2 ⟨x, hx, rfl⟩, ?_⟩
    have : x.toNat < 256 := by omega
    simp only [Nat.toUInt8_eq, UInt8.toNat_ofNat']
    omega
  by_cases h1 : r ≤ 2047
  · exact key (192 + (r : Int) / 64) (by rw [encodeRuneZ_two (by omega) (by omega)]; simp) (by omega) (by omega)
  · by_cases h2 : (2048 ≤ r ∧ r < 55296) ∨ (57343 < r ∧ r ≤ 65535)
    · exact key (224 + (r : Int) / 4096) (by rw [encodeRuneZ_three (by omega)]; simp) (by omega) (by omega)
    · by_cases h3 : 65536 ≤ r ∧ r ≤ 1114111
      · exact key (240 + (r : Int) / 262144) (by rw [encodeRuneZ_four (by omega) (by omega)]; simp) (by omega) (by omega)
      · exact key 239 (by rw [encodeRuneZ_bad (by omega)]; simp) (by omega) (by omega)

theorem fold_next {l acc : List UInt8} {pos : Nat} (hlt : pos < (⟨l.toArray⟩ : ByteArray).size) (h : FoldAt l pos acc) :
    FoldAt l (pos + (Utf8.decode ⟨l.toArray⟩ pos).2) (acc ++ encodeRune (smallR ((Utf8.decode ⟨l.toArray⟩ pos).1 : Int))) ∧ 1 ≤ (Utf8.decode ⟨l.toArray⟩ pos).2 := by
  obtain ⟨b, hb⟩ : ∃ b : UInt8, (⟨l.toArray⟩ : ByteArray)[pos]'hlt = b := ⟨_, rfl⟩
  have HB : l[pos]? = some b := by rw [← hb]; exact bytes_at l pos hlt
  by_cases ha : b.toNat < 128
  · have hd := decode_ascii ⟨l.toArray⟩ pos hlt (by rw [hb]; exact ha)
    rw [hb] at hd
    rw [hd]
    refine ⟨?_, Nat.le_refl _⟩
    simp only
    rw [encode_low ha]
    rcases h with ⟨h1, h2⟩ | ⟨⟨c, hc, h1⟩, h2⟩
    · obtain ⟨p1, p2⟩ := List.getElem?_eq_some_iff.1 HB
      refine .inl ⟨by omega, ?_⟩
      rw [List.take_succ_eq_append_getElem p1, p2, h2]
      simp [idLow]
    · exact .inr ⟨⟨c, List.mem_append_left _ hc, h1⟩, h2⟩
  · obtain ⟨h1, h2⟩ := decode_high ⟨l.toArray⟩ pos hlt (by rw [hb]; omega)
    refine ⟨.inr ⟨?_, b, List.mem_of_getElem? HB, by omega⟩, h2⟩
    obtain ⟨c, hc, h3⟩ := encode_high h1
    exact ⟨c, List.mem_append_right _ hc, h3⟩

theorem fold_end {l acc : List UInt8} {pos : Nat} (h : FoldAt l pos acc) (hp : l.length ≤ pos) : (idIs acc = true ∧ idFold l = (acc, true)) ∨ (idIs acc = false ∧ idFold l = ([], false)) := by
  rcases h with ⟨h1, h2⟩ | ⟨⟨c, hc, h1⟩, b, hb, h2⟩
  · have : l.take pos = l := List.take_of_length_le hp
    rw [this] at h2
    subst h2
    rcases idFold_cases l with ⟨e, h⟩ | ⟨e, h, _⟩
    · exact .inl ⟨h, e⟩
    · exact .inr ⟨h, e⟩
  · exact .inr ⟨idIs_high hc h1, idFold_high hb h2⟩

theorem decode_width (s : ByteArray) (pos : Nat) : (Utf8.decode s pos).2 ≤ 4 := by
  simp only [Utf8.decode]
  repeat' split
  all_goals (first | decide | (simp; done) | omega)

theorem ownsRowF_later {w w' : World} {base e size : Nat} {v : Value} {n : Nat} {xs : List Value} (h : w.ownsRowF base e size v n xs) (hb : Below w.heap.size w w') : w'.ownsRowF base e size v n xs := by
  refine ⟨h.1, ?_⟩
  rcases h.2 with h' | ⟨g, cap, cur, fz, h1, h2, h3, h4⟩
  · exact .inl h'
  · exact .inr ⟨g, cap, cur, fz, h1, h2, by rw [hb.block g (Array.getElem?_eq_some_iff.1 h3).1]; exact h3, h4⟩

theorem builderAt_later {T e B b : Nat} {p : Value} {bs : List Value} {w w' : World} (h : BuilderAtF T e B b p bs w) (hb : Below w.heap.size w w') : BuilderAtF T e B b p bs w' := by
  obtain ⟨h1, v, h2, h3, h4⟩ := h
  exact ⟨h1, v, by rw [hb.block b (Array.getElem?_eq_some_iff.1 h2).1]; exact h2, ownsRowF_later h3 hb, h4⟩

theorem builder_later {T e B b : Nat} {bs : List Value} {w w' : World} (h : IsBuilderF T e B b bs w) (hb : Below w.heap.size w w') : IsBuilderF T e B b bs w' :=
  h.elim (fun x => .inl (builderAt_later x hb)) (fun x => .inr (builderAt_later x hb))

theorem is_eq (l : List UInt8) (hl : l.length ≤ 4294967296) {r : Bool} (h : Hid (idIs l = r)) (w : World) :
    Calls Try.prog 38 #[.string ⟨l.toArray⟩] w fun e w' => e = .returned (.bool r) ∧ Below w.heap.size w w' := by
  have := is_any l hl w
  rwa [h.out] at this

set_option maxHeartbeats 1600000 in
set_option maxRecDepth 100000 in
theorem fold_eq (l : List UInt8) (hl : l.length ≤ 4294967296) {t : List UInt8} {r : Bool} (h : Hid (idFold l = (t, r))) (w : World) :
    Calls Try.prog 42 #[.string ⟨l.toArray⟩] w fun e w' => e = .returned (.tuple #[.string ⟨t.toArray⟩, .bool r]) ∧ Below w.heap.size w w' := by
  by_cases h16 : 16 < l.length
  · have e := (idFold_long h16).symm.trans h.out
    simp only [Prod.mk.injEq] at e
    obtain ⟨rfl, rfl⟩ := e
    clear h
    go_enter Try.func42, Try.ntmps42
    go_wp2_with fail
    go_ret2
    exact ⟨rfl, Below.refl _ _⟩
  · go_enter Try.func42, Try.ntmps42
    go_wp2_with fail
    go_loopw [] (fun wr => ∃ (pos : Nat) (acc : List UInt8), Hid (IsBuilderF 59 5 w.heap.size w.heap.size (byteCells acc) wr) ∧ Hid (wr.heap[w.heap.size + 1]? = some (.stringIter ⟨l.toArray⟩ pos)) ∧ Below w.heap.size w wr ∧ Hid (FoldAt l pos acc) ∧ acc.length ≤ 4 * pos ∧ pos ≤ 100) (fun wr => l.length - wr.iterPos (w.heap.size + 1))
    case atStart =>
      refine ⟨0, [], (IsBuilderF.of (fresh_isBuilder 59 5 w)).alloc _, ?_, ((Below.refl _ w).alloc (Nat.le_refl _) _).alloc (by simp) _, .inl ⟨by omega, by simp [idLow]⟩, by simp, by omega⟩
      show _ = _
      have := World.iter_heap (w.alloc (.cells #[.pointer none, .slice none 0 0] 59)) ⟨l.toArray⟩ 0
      simpa using this
    case round =>
      obtain ⟨pos, acc, HI, HIt, hbw, HF, hal, hp100⟩ := hrel
      have HBw := Lib.hid hbw
      have hsz : w.heap.size + 1 < wr.heap.size := (Array.getElem?_eq_some_iff.1 HIt.out).1
      have hpi : Hid (wr.iterPos (w.heap.size + 1) = pos) := by show _ = _; simp only [World.iterPos, HIt.out]
      by_cases hlt : pos < l.length
      · have hlt' : pos < (⟨l.toArray⟩ : ByteArray).size := by rw [size_bytes]; exact hlt
        have hnx := fun ty => run_next_any_at (P := Try.prog) wr (w.heap.size + 1) ⟨l.toArray⟩ pos ty HIt.out hlt'
        have hd1 := decode_le ⟨l.toArray⟩ pos
        obtain ⟨hF2, hst⟩ := fold_next hlt' HF.out
        have hI2 := HI.out.iterAt HIt.out (pos + (Utf8.decode ⟨l.toArray⟩ pos).2)
        have hit2 := iterAt_heap wr (w.heap.size + 1) ⟨l.toArray⟩ pos (pos + (Utf8.decode ⟨l.toArray⟩ pos).2) HIt.out
        have hbw2 := below_iterAt hbw (k := w.heap.size + 1) (by omega) ⟨l.toArray⟩ (pos + (Utf8.decode ⟨l.toArray⟩ pos).2)
        have hsz2 : w.heap.size ≤ (wr.iterAt (w.heap.size + 1) ⟨l.toArray⟩ (pos + (Utf8.decode ⟨l.toArray⟩ pos).2)).heap.size := by rw [iterAt_size]; omega
        have hst4 : (Utf8.decode ⟨l.toArray⟩ pos).2 ≤ 4 := decode_width ⟨l.toArray⟩ pos
        obtain ⟨c, hc⟩ : ∃ c, (Utf8.decode ⟨l.toArray⟩ pos).1 = c := ⟨_, rfl⟩
        obtain ⟨q, hq⟩ : ∃ q, pos + (Utf8.decode ⟨l.toArray⟩ pos).2 = q := ⟨_, rfl⟩
        rw [hc, hq] at hF2 hnx
        rw [hq] at hI2 hit2 hbw2 hsz2
        rw [hc] at hd1
        have hq1 : pos < q := by omega
        have hq2 : q ≤ 100 := by omega
        obtain ⟨m, hm⟩ : ∃ m, smallR (c : Int) = m := ⟨_, rfl⟩
        have hm0 : 0 ≤ m ∧ m ≤ 2147483647 := by
          rw [← hm]
          unfold smallR
          split <;> omega
        rw [hm] at hF2
        have HS := Lib.hid (small_eq c (by omega) (by omega) (Lib.hid hm))
        have HW := Lib.hid (fun W h1 h2 h3 => Try.Builder_WriteRune_k w.heap.size w.heap.size (byteCells acc) m (by omega) hm0.2 W h1 h2 h3)
        have HF2 := Lib.hid hF2
        have HI2 := Lib.hid hI2
        have Hit2 := Lib.hid hit2
        have HBw2 := Lib.hid hbw2
        have Hsz2 := Lib.hid hsz2
        have hl4 := runeCells_le m
        rw [runeCells_length] at hl4
        clear hF2 hI2 hit2 hbw2 hsz2 hm hc hq hst hst4 hbw
        go_wp2_with fail
        refine (HS.out _).mono ?_
        rintro e w' ⟨rfl, rfl⟩
        go_wp2_with fail
        refine (HW.out _ HI2.out (by rw [byteCells_length]; omega) Hsz2.out).mono ?_
        rintro e W1 ⟨rfl, h1, b1, k1⟩
        have Hit3 := Lib.hid (k1.iter Hit2.out (by omega))
        have HI3 : Hid (IsBuilderF 59 5 w.heap.size w.heap.size (byteCells (acc ++ encodeRune m)) W1) := by
          show IsBuilderF _ _ _ _ _ _
          rw [byteCells_append, byteCells_encodeRune]
          exact Or.inr h1
        have HBw3 := Lib.hid (HBw2.out.trans b1)
        have hpi3 : Hid (W1.iterPos (w.heap.size + 1) = q) := by show _ = _; simp only [World.iterPos, Hit3.out]
        clear h1 b1 k1
        go_wp2_with fail
        go_roundw
        case rel => exact ⟨q, acc ++ encodeRune m, HI3, Hit3, HBw3.out, HF2, by simp; omega, hq2⟩
        case measure => rw [hpi3.out, hpi.out]; omega
      · have hnx := fun ty => run_next_end_at (P := Try.prog) wr (w.heap.size + 1) ⟨l.toArray⟩ pos ty HIt.out (by rw [size_bytes]; exact hlt)
        have HE := fold_end HF.out (by omega)
        have HStr := Lib.hid (fun W hI hb => Try.Builder_String_any_k w.heap.size w.heap.size acc W hI hb)
        clear hbw
        rcases HE with ⟨e1, e2⟩ | ⟨e1, e2⟩
        · have HI1 := Lib.hid e1
          have e := e2.symm.trans h.out
          simp only [Prod.mk.injEq] at e
          obtain ⟨rfl, rfl⟩ := e
          clear e1 e2 h
          go_wp2_with fail
          refine (HStr.out _ HI.out (by omega)).mono ?_
          rintro e W1 ⟨rfl, h1, b1, _⟩
          have HB1 := Lib.hid (HBw.out.trans b1)
          have HJ1 := Lib.hid h1
          have hz1 := b1.size
          clear h1 b1
          go_wp2_with fail
          refine (is_eq acc (by omega) HI1 _).mono ?_
          rintro e W2 ⟨rfl, b2⟩
          have HB2 := Lib.hid (below2' HB1.out b2)
          have HJ2 := Lib.hid (builder_later HJ1.out b2)
          have hz2 := b2.size
          clear b2
          go_wp2_with fail
          refine (HStr.out _ HJ2.out (by omega)).mono ?_
          rintro e W3 ⟨rfl, _, b3, _⟩
          have HB3 := Lib.hid (HB2.out.trans b3)
          clear b3
          go_wp2_with fail
          go_ret2
          exact ⟨rfl, HB3.out⟩
        · have HI1 := Lib.hid e1
          have e := e2.symm.trans h.out
          simp only [Prod.mk.injEq] at e
          obtain ⟨rfl, rfl⟩ := e
          clear e1 e2 h
          go_wp2_with fail
          refine (HStr.out _ HI.out (by omega)).mono ?_
          rintro e W1 ⟨rfl, h1, b1, _⟩
          have HB1 := Lib.hid (HBw.out.trans b1)
          clear h1 b1
          go_wp2_with fail
          refine (is_eq acc (by omega) HI1 _).mono ?_
          rintro e W2 ⟨rfl, b2⟩
          have HB2 := Lib.hid (below2' HB1.out b2)
          clear b2
          go_wp2_with fail
          go_ret2
          exact ⟨rfl, HB2.out⟩

end Go.Proofs.Ythfkfonfiejbmaa
