/-
  LAYER 22, PLAIN: texts on their way. And a row of bytes that is written.
-/
import Derived.Test.YtlebgpgcklfhaaaProg
import Derived.Test.YtlebgpgcklfhaaaTxtS
import Derived.Test.YtlebgpgcklfhaaaBytes
import Derived.Test.YtlebgpgcklfhaaaIdDoc
import Derived.Laws.BitsLemmas
namespace Go.Proofs.Ytlebgpgcklfhaaa
open Go.RowKit

/-- Whether there is a text number i. -/
def ntIn (n : Nat) (i : Int) : Prop := 0 ≤ i ∧ i < n

instance (n : Nat) (i : Int) : Decidable (ntIn n i) := inferInstanceAs (Decidable (_ ∧ _))

def ntTake (ls : List (List UInt8)) (i : Int) : List UInt8 × List (List UInt8) × Nat :=
  if ntIn ls.length i then (ls.getD i.toNat [], ls.take i.toNat ++ ls.drop (i.toNat + 1), 0) else ([], ls, 6)

def ntTwice (ls : List (List UInt8)) (i : Int) : List (List UInt8) × Nat :=
  if ntIn ls.length i then (if 500 ≤ ls.length then (ls, 5) else (ls ++ [ls.getD i.toNat []], 0)) else (ls, 6)

/-- A text in which one byte is changed. -/
def spoil (t : List UInt8) (p m : Nat) : List UInt8 := t.set p (u8of ((t.getD p 0).toNat ^^^ m))

theorem spoil_len (t : List UInt8) (p m : Nat) : (spoil t p m).length = t.length := by simp [spoil]

def ntBad (t : List UInt8) (a m : Int) : Prop := t = [] ∨ a < 0 ∨ m < 1 ∨ 255 < m

instance (t : List UInt8) (a m : Int) : Decidable (ntBad t a m) := inferInstanceAs (Decidable (_ ∨ _))

def ntCor (ls : List (List UInt8)) (i a m : Int) : List (List UInt8) × Nat :=
  if ntIn ls.length i then
    (if ntBad (ls.getD i.toNat []) a m then (ls, 1)
     else (ls.set i.toNat (spoil (ls.getD i.toNat []) (a.toNat % (ls.getD i.toNat []).length) m.toNat), 0))
  else (ls, 6)

def ntAct (ls : List (List UInt8)) (k i m : Int) : List (List UInt8) × List UInt8 × Nat :=
  if k = 5 then ((ntTake ls i).2.1, (ntTake ls i).1, (ntTake ls i).2.2)
  else if k = 6 then ((ntTake ls i).2.1, [], (ntTake ls i).2.2)
  else if k = 7 then ((ntTwice ls i).1, [], (ntTwice ls i).2)
  else if k = 8 then ((ntCor ls i (m / 256) (m % 256)).1, [], (ntCor ls i (m / 256) (m % 256)).2)
  else (ls, [], 1)

theorem i64_and255 (n : Int) : bits .and .i64 n 255 = n % 256 := by
  have h127 : (BitVec.ofInt 64 255).toNat = 2 ^ 8 - 1 := by decide
  have key : (BitVec.ofInt 64 n &&& BitVec.ofInt 64 255).toNat = (n % ((2 ^ 64 : Nat) : Int)).toNat % 2 ^ 8 := by
    rw [BitVec.toNat_and, BitVec.toNat_ofInt, h127, Nat.and_two_pow_sub_one_eq_mod]
  show IntKind.i64.wrap ((BitVec.ofInt 64 n &&& BitVec.ofInt 64 255).toNat : Nat) = n % 256
  rw [key, IntKind.wrap_i64]
  omega

/-- A row of bytes that may be written. -/
def BRow (w : World) (B : Nat) (u : List UInt8) : Prop := ∀ j, j < u.length → w.cell? ⟨B, j, none⟩ = some (.int .u8 (u.getD j 0).toNat) ∧ w.frozen? ⟨B, j, none⟩ = false

theorem bRow_new (w : World) (l : List UInt8) : BRow (Lib.bytesWorld w 5 ⟨l.toArray⟩) w.heap.size l := fun j hj =>
  ⟨bytesWorld_list w 5 l j hj, bytesWorld_frozen w 5 _ j (by rw [size_bytes]; exact hj)⟩

theorem BRow.set {w : World} {B : Nat} {u : List UInt8} (h : BRow w B u) (j : Nat) (b : UInt8) (hj : j < u.length) : BRow (w.setCell ⟨B, j, none⟩ (.int .u8 b.toNat)) B (u.set j b) := by
  intro i hi
  have hi' : i < u.length := by simpa using hi
  refine ⟨?_, (World.frozen?_setCell w _ _ _).trans (h i hi').2⟩
  by_cases hij : i = j
  · subst hij
    rw [World.cell?_setCell_same _ _ _ (h i hj).1]
    simp [List.getD, hj]
  · rw [World.cell?_setCell_other _ _ _ _ (by simp), (h i hi').1]
    simp [List.getD, show ¬ j = i by omega]

theorem BRow.later {w w' : World} {B : Nat} {u : List UInt8} (h : BRow w B u) (hb : Below w.heap.size w w') : BRow w' B u := fun j hj =>
  have hB := World.block_lt_of_cell? w _ (h j hj).1
  ⟨(hb.cell (p := ⟨B, j, none⟩) hB).trans (h j hj).1, (hb.frozen (p := ⟨B, j, none⟩) hB).trans (h j hj).2⟩

theorem bRow_text {w : World} {B : Nat} {u : List UInt8} (h : BRow w B u) (cap : Nat) :
    (convert 47 9 (.slice (some ⟨B, 0, none⟩) u.length cap)).run Try.prog w = .ok (.string ⟨u.toArray⟩) w :=
  run_convert_bytes_back (P := Try.prog) w 47 9 5 ⟨B, 0, none⟩ cap u Try.underlying47 Try.underlying5 Try.underlying9 (fun j hj => by
    have := (h j hj).1
    rw [Addr.add_lit, Nat.zero_add, this]
    simp [List.getD, List.getElem?_eq_getElem hj])

theorem u8of_xor (b : UInt8) (m : Nat) (hm : m < 256) : bits .xor .u8 (b.toNat : Int) (m : Int) = ((u8of (b.toNat ^^^ m)).toNat : Int) := by
  have hx : b.toNat ^^^ m < 256 := Nat.xor_lt_two_pow (n := 8) b.toNat_lt hm
  rw [u8_xor_nat _ _ b.toNat_lt hm, u8of_toNat hx]

/-- Few of any numbers. -/
def fewN (n m : Nat) (ls : List (List UInt8)) : Bool := decide (ls.length ≤ n) && ls.all fun t => decide (t.length ≤ m)

theorem fewN_yes {n m : Nat} {ls : List (List UInt8)} (h : fewN n m ls = true) : ls.length ≤ n ∧ ∀ t ∈ ls, t.length ≤ m := by
  unfold fewN at h
  simp only [Bool.and_eq_true, decide_eq_true_eq] at h
  exact ⟨h.1, fun t ht => by simpa using List.all_eq_true.1 h.2 t ht⟩

set_option maxHeartbeats 400000 in
set_option maxRecDepth 100000 in
theorem fewN_any {w : World} {v : Value} {ls : List (List UInt8)} (hv : Texts w v ls) (n m : Nat) :
    Calls Try.prog 8 #[v, .int .i64 n, .int .i64 m] w fun e w' => e = .returned (.bool (fewN n m ls)) ∧ w = w' := by
  obtain ⟨a, cap, rfl, h1, h2, h3, h4⟩ := hv
  by_cases h : n < ls.length
  · have HR : Hid (fewN n m ls = false) := by show _ = _; unfold fewN; simp; omega
    clear h1 h2 h3 h4
    go_enter Try.func8, Try.ntmps8
    go_wp2_with fail
    go_ret
    exact ⟨by rw [HR.out]; rfl, rfl⟩
  · have h30 : decide (ls.length ≤ n) = true := by simp; omega
    have H30 := Lib.hid h30
    have H4 := Lib.hid h4
    have HM : ls.length ≤ 9223372036854775807 := by unfold maxLen at h2; omega
    clear h30 h1 h2 h3 h4
    go_enter Try.func8, Try.ntmps8
    go_wp2_with fail
    go_loop [7] (fun i => ∃ k : Nat, k ≤ ls.length ∧ i = .int .i64 k ∧ Hid ((ls.take k).all (fun t => decide (t.length ≤ m)) = true)) (fun i => ls.length - (intOf i).toNat)
    case atStart => exact ⟨0, by omega, rfl, by show _ = _; simp⟩
    case round =>
      obtain ⟨k, hk, rfl, HA⟩ := hrel
      by_cases hlt : k < ls.length
      · rcases H4.out with h0 | ⟨b, off, rfl, hbw, hc⟩
        · rw [h0] at hlt; simp at hlt
        · have hcell := hc k hlt
          unfold encS at hcell
          clear hc
          obtain ⟨x, hx⟩ : ∃ x, ls.getD k [] = x := ⟨_, rfl⟩
          rw [hx] at hcell
          have HX : Hid (ls[k]? = some x) := by show _ = _; rw [getD_some hlt, hx]
          clear hx
          by_cases hn : m < x.length
          · have HR : Hid (fewN n m ls = false) := by
              show _ = _
              have : (ls.all fun t => decide (t.length ≤ m)) = false := by
                rw [Bool.eq_false_iff]
                intro h'
                have := List.all_eq_true.1 h' x (List.mem_of_getElem? HX.out)
                simp at this
                omega
              unfold fewN
              rw [this]
              simp
            go_wp2_with fail
            go_ret
            exact ⟨by rw [HR.out]; rfl, rfl⟩
          · have HN : Hid ((ls.take (k + 1)).all (fun t => decide (t.length ≤ m)) = true) := by
              show _ = _
              obtain ⟨p1, p2⟩ := List.getElem?_eq_some_iff.1 HX.out
              rw [List.take_succ_eq_append_getElem p1, p2, List.all_append, HA.out]
              simp
              omega
            go_wp2_with fail
            go_round
            case rel => exact ⟨k + 1, by omega, by go_num, HN⟩
            case measure => simp [intOf]; omega
      · obtain rfl : k = ls.length := by omega
        have HR : Hid (fewN n m ls = true) := by
          show _ = _
          have := HA.out
          rw [List.take_length] at this
          unfold fewN
          rw [this, H30.out]
          rfl
        go_wp2_with fail
        go_ret
        exact ⟨by rw [HR.out]; rfl, rfl⟩

end Go.Proofs.Ytlebgpgcklfhaaa
