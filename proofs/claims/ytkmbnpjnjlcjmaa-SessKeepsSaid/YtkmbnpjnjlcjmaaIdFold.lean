/-
  THE CONTRACT OF ident.Fold (with small): a Builder, written in a range over a string.
-/
import Derived.Test.YtkmbnpjnjlcjmaaIdIs
namespace Go.Proofs.Ytkmbnpjnjlcjmaa
open Go.RowKit Go.Lib

def smallR (r : Int) : Int := if 65 ≤ r ∧ r ≤ 90 then r + 32 else r

/-- Where the folding of l stands: at pos; acc is what is written. -/
def FoldAt (l : List UInt8) (pos : Nat) (acc : List UInt8) : Prop :=
  (pos ≤ l.length ∧ acc = idLow (l.take pos)) ∨ ((∃ b ∈ acc, 128 ≤ b.toNat) ∧ ∃ b ∈ l, 128 ≤ b.toNat)

theorem encode_low {b : UInt8} (h : b.toNat < 128) : encodeRune (smallR (b.toNat : Int)) = [low1 b] := by
  have hs : smallR (b.toNat : Int) = ((low1 b).toNat : Int) := by
    unfold smallR low1
    by_cases hb : 65 ≤ b.toNat ∧ b.toNat ≤ 90
    · rw [if_pos (by omega), if_pos hb, u8of_toNat (by omega)]; omega
    · rw [if_neg (by omega), if_neg hb]
  have hl : (low1 b).toNat < 128 := by
    unfold low1
    by_cases hb : 65 ≤ b.toNat ∧ b.toNat ≤ 90
    · rw [if_pos hb, u8of_toNat (by omega)]; omega
    · rw [if_neg hb]; exact h
  rw [hs]
  unfold encodeRune
  rw [encodeRuneZ_one (by omega) (by omega)]
  simp

theorem encode_high {r : Nat} (h : 128 ≤ r) : ∃ b ∈ encodeRune (smallR (r : Int)), 128 ≤ b.toNat := by
  have hs : smallR (r : Int) = r := by unfold smallR; rw [if_neg (by omega)]
  rw [hs]
  have key : ∀ x, x ∈ encodeRuneZ (r : Int) → 128 ≤ x → x < 256 → ∃ b ∈ encodeRune (r : Int), 128 ≤ b.toNat := by
    intro x hx h1 h2
    refine ⟨x.toNat.toUInt8, List.mem_map.2 ⟨x, hx, rfl⟩, ?_⟩
    have : x.toNat < 256 := by omega
    simp only [Nat.toUInt8_eq, UInt8.toNat_ofNat']
    omega
  by_cases h1 : r ≤ 2047
  · exact key (192 + (r : Int) / 64) (by rw [encodeRuneZ_two (by omega) (by omega)]; simp) (by omega) (by omega)
  · by_cases h2 : (2048 ≤ r ∧ r < 55296) ∨ (57343 < r ∧ r ≤ 65535)
    · exact key (224 + (r : Int) / 4096) (by rw [encodeRuneZ_three (by omega)]; simp) (by omega) (by omega)
    · by_cases h3 : 65536 ≤ r ∧ r ≤ 1114111
      · exact key (240 + (r : Int) / 262144) (by rw [encodeRuneZ_four (by omega) (by omega)]; simp) (by omega) (by omega)
      · exact key 239 (by rw [encodeRuneZ_bad (by omega)]; simp) (by omega) (by omega)

theorem fold_next {l acc : List UInt8} {pos : Nat} (hlt : pos < (⟨l.toArray⟩ : ByteArray).size) (h : FoldAt l pos acc) :
    FoldAt l (pos + (Utf8.decode ⟨l.toArray⟩ pos).2) (acc ++ encodeRune (smallR ((Utf8.decode ⟨l.toArray⟩ pos).1 : Int))) ∧ 1 ≤ (Utf8.decode ⟨l.toArray⟩ pos).2 := by
  obtain ⟨b, hb⟩ : ∃ b : UInt8, (⟨l.toArray⟩ : ByteArray)[pos]'hlt = b := ⟨_, rfl⟩
  have HB : l[pos]? = some b := by rw [← hb]; exact bytes_at l pos hlt
  by_cases ha : b.toNat < 128
  · have hd := decode_ascii ⟨l.toArray⟩ pos hlt (by rw [hb]; exact ha)
    rw [hb] at hd
    rw [hd]
    refine ⟨?_, Nat.le_refl _⟩
    simp only
    rw [encode_low ha]
    rcases h with ⟨h1, h2⟩ | ⟨⟨c, hc, h1⟩, h2⟩
    · obtain ⟨p1, p2⟩ := List.getElem?_eq_some_iff.1 HB
      refine .inl ⟨by omega, ?_⟩
      rw [List.take_succ_eq_append_getElem p1, p2, h2]
      simp [idLow]
    · exact .inr ⟨⟨c, List.mem_append_left _ hc, h1⟩, h2⟩
  · obtain ⟨h1, h2⟩ := decode_high ⟨l.toArray⟩ pos hlt (by rw [hb]; omega)
    refine ⟨.inr ⟨?_, b, List.mem_of_getElem? HB, by omega⟩, h2⟩
    obtain ⟨c, hc, h3⟩ := encode_high h1
    exact ⟨c, List.mem_append_right _ hc, h3⟩

theorem fold_end {l acc : List UInt8} {pos : Nat} (h : FoldAt l pos acc) (hp : l.length ≤ pos) : (idIs acc = true ∧ idFold l = (acc, true)) ∨ (idIs acc = false ∧ idFold l = ([], false)) := by
  rcases h with ⟨h1, h2⟩ | ⟨⟨c, hc, h1⟩, b, hb, h2⟩
  · have : l.take pos = l := List.take_of_length_le hp
    rw [this] at h2
    subst h2
    rcases idFold_cases l with ⟨e, h⟩ | ⟨e, h, _⟩
    · exact .inl ⟨h, e⟩
    · exact .inr ⟨h, e⟩
  · exact .inr ⟨idIs_high hc h1, idFold_high hb h2⟩

theorem decode_width (s : ByteArray) (pos : Nat) : (Utf8.decode s pos).2 ≤ 4 := by
  simp only [Utf8.decode]
  repeat' split
  all_goals (first | decide | (simp; done) | omega)

theorem ownsRowF_later {w w' : World} {base e size : Nat} {v : Value} {n : Nat} {xs : List Value} (h : w.ownsRowF base e size v n xs) (hb : Below w.heap.size w w') : w'.ownsRowF base e size v n xs := by
  refine ⟨h.1, ?_⟩
  rcases h.2 with h' | ⟨g, cap, cur, fz, h1, h2, h3, h4⟩
  · exact .inl h'
  · exact .inr ⟨g, cap, cur, fz, h1, h2, by rw [hb.block g (Array.getElem?_eq_some_iff.1 h3).1]; exact h3, h4⟩

theorem builderAt_later {T e B b : Nat} {p : Value} {bs : List Value} {w w' : World} (h : BuilderAtF T e B b p bs w) (hb : Below w.heap.size w w') : BuilderAtF T e B b p bs w' := by
  obtain ⟨h1, v, h2, h3, h4⟩ := h
  exact ⟨h1, v, by rw [hb.block b (Array.getElem?_eq_some_iff.1 h2).1]; exact h2, ownsRowF_later h3 hb, h4⟩

theorem builder_later {T e B b : Nat} {bs : List Value} {w w' : World} (h : IsBuilderF T e B b bs w) (hb : Below w.heap.size w w') : IsBuilderF T e B b bs w' :=
  h.elim (fun x => .inl (builderAt_later x hb)) (fun x => .inr (builderAt_later x hb))

theorem is_eq (l : List UInt8) (hl : l.length ≤ 4294967296) {r : Bool} (h : Hid (idIs l = r)) (w : World) :
    Calls Try.prog 79 #[.string ⟨l.toArray⟩] w fun e w' => e = .returned (.bool r) ∧ Below w.heap.size w w' := by
  have := is_any l hl w
  rwa [h.out] at this

end Go.Proofs.Ytkmbnpjnjlcjmaa
