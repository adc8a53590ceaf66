/-
  SMALL LAWS OVER ANY PROGRAM, for the walks of this seat: bytes as cells' values, and a text made of a row of bytes that the call owns.
-/
import Derived.WalkKit
import Derived.BigQuiet
import Derived.Lib.QuietBelow
import Derived.Test.YthfkfonfiejbmaaVarPure
namespace Go.Proofs.Ythfkfonfiejbmaa
open Go.RowKit

/-- Bytes as the values of cells. -/
def bvals (l : List UInt8) : List Value := l.map fun b => .int .u8 b.toNat

theorem ret_int {k : IntKind} {a b : Int} (h : a = b) : Ending.returned (.int k a) = .returned (.int k b) := by rw [h]

theorem bvals_length (l : List UInt8) : (bvals l).length = l.length := by simp [bvals]
theorem bvals_append (a b : List UInt8) : bvals (a ++ b) = bvals a ++ bvals b := by simp [bvals]
theorem bvals_one (l : List UInt8) : ∀ u ∈ bvals l, u.oneCell' = true := by
  intro u hu
  obtain ⟨_, _, rfl⟩ := List.mem_map.1 hu
  rfl

theorem strOfNums_bytes (xs : List UInt8) : strOfNums (xs.map fun b => (b.toNat : Int)) = ⟨xs.toArray⟩ := by
  have h : xs.map ((fun n : Int => UInt8.ofNat n.toNat) ∘ fun b : UInt8 => (b.toNat : Int)) = xs.map id := List.map_congr_left fun b _ => by simp
  simp only [strOfNums, List.map_map]
  rw [h, List.map_id]

/-- string(b), b a row of bytes of the call's own, or nil. -/
theorem run_convert_owned {P : Program} {w : World} (src e dst : TypeId) (hs : P.underlying src = some (.slice e)) (he : P.underlying e = some (.int .u8)) (hd : P.underlying dst = some .string)
    {base n : Nat} {v : Value} {xs : List UInt8} (h : w.ownsRow base e 1 v n (bvals xs)) :
    (convert src dst v).run P w = .ok (.string ⟨xs.toArray⟩) w := by
  rcases h with ⟨hl, ⟨rfl, rfl⟩ | ⟨g, cap, cur, rfl, hb, hg, hn, hc, hsz, htk⟩⟩
  · have hx : xs = [] := by simpa [bvals] using hl
    subst hx
    rw [run_convert_bytes_nil w src e hs he 0 0 dst hd]
    rfl
  · have hlen : xs.length = n := by simpa [bvals] using hl
    rw [← strOfNums_bytes]
    refine run_convert_bytes_arg w src e hs he g 0 n cap (xs.map fun b => (b.toNat : Int)) (by simpa using hlen) (fun i hi => ?_) dst hd
    rw [Nat.zero_add, cell_of_row w g i cur e (0, 0) hg]
    have h1 : cur.toList[i]? = (bvals xs)[i]? := by
      rw [← htk, List.getElem?_take, if_pos (by omega)]
    have h2 : (bvals xs)[i]? = some (.int .u8 ((xs.map fun b => (b.toNat : Int)).getD i 0)) := by
      have : i < xs.length := by omega
      simp [bvals, List.getD, List.getElem?_eq_getElem this]
    rw [← h2, ← h1]
    simp

theorem cells_one (w : World) (u : Value) (e : TypeId) : ∀ j x, [u][j]? = some x → (w.alloc (.cells #[u] e)).cell? ((⟨w.heap.size, 0, none⟩ : Addr).add j) = some x := by
  intro j x hj
  match j, hj with
  | 0, hj =>
    simp at hj
    subst hj
    simp [Addr.add]

/-- 'out = append(out, u)', out nil or a row of the call's own, u of one cell: what is owned is longer by u, and below 'base' nothing has turned. -/
theorem wpList_append_one {P : Program} {w : World} {ops : Array Oper} {rest : List Oper} {o : Oper} {a : Act} {Q : Exit → Act → World → Prop} (u : Value)
    (hgd : o.guard = none) (s x : Operand) (t : TypeId) (ho : o.op = .call { callee := .builtin .append, args := #[s, x], argTypes := #[t, t] })
    (base : Nat) (e : TypeId) (i : TypeInfo) (z : Value) (bytes : Nat) (ht : P.underlying t = some (.slice e)) (hi : P.info? e = some i) (hz : i.zero = some z)
    (hsize : i.size = 1) (hby : i.bytes = bytes) (hzs : z.cells.size = 1)
    (v : Value) (n : Nat) (xs : List Value) (hs : a.eval s = v) (hown : w.ownsRow base e 1 v n xs)
    (hx : a.eval x = .slice (some ⟨w.heap.size, 0, none⟩) 1 1) (h1 : u.oneCell' = true)
    (hbytes : n < 4294967296) (hb : bytes ≤ 4096) (hbase : base ≤ w.heap.size)
    (h : ∀ v' w', w'.ownsRow base e 1 v' (n + 1) (xs ++ [u]) → Below base w w' → wpList P ops Q rest (a.put o.dst v') w') :
    wpList P ops Q (o :: rest) a (w.alloc (.cells #[u] e)) := by
  refine wpList_append_own _ hgd s x t ho base e i z 1 bytes ht hi hz hsize hby hzs (by decide) v n xs hs (hown.alloc _) ⟨w.heap.size, 0, none⟩ 1 1 [u] hx rfl (cells_one w u e) (by simpa using h1)
    (by unfold maxLen; omega) (Nat.le_trans (Nat.mul_le_mul (show n + 1 ≤ 4294967296 by omega) hb) (by decide)) (by simp; omega) ?_
  intro v' w' hown' hgrow _
  refine h v' w' hown' (((Below.refl base w).alloc hbase _).grown hgrow (by simp; omega) (fun k hk => (hown.lt k hk).1))

/-- The same for a byte, whatever the walk calls the number. -/
theorem wpList_append_u8 {P : Program} {w : World} {ops : Array Oper} {rest : List Oper} {o : Oper} {a : Act} {Q : Exit → Act → World → Prop} (Y : Int) (y : Nat) (hY : Y = (y : Int)) (hy : y < 256)
    (hgd : o.guard = none) (s x : Operand) (t : TypeId) (ho : o.op = .call { callee := .builtin .append, args := #[s, x], argTypes := #[t, t] })
    (base : Nat) (e : TypeId) (i : TypeInfo) (ht : P.underlying t = some (.slice e)) (hi : P.info? e = some i) (hz : i.zero = some (.int .u8 0))
    (hsize : i.size = 1) (hby : i.bytes = 1)
    (v : Value) (xs : List UInt8) (hs : a.eval s = v) (hown : w.ownsRow base e 1 v xs.length (bvals xs))
    (hx : a.eval x = .slice (some ⟨w.heap.size, 0, none⟩) 1 1) (hlen : xs.length < 4294967296) (hbase : base ≤ w.heap.size)
    (h : ∀ v' w', w'.ownsRow base e 1 v' (xs ++ [u8of y]).length (bvals (xs ++ [u8of y])) → Below base w w' → wpList P ops Q rest (a.put o.dst v') w') :
    wpList P ops Q (o :: rest) a (w.alloc (.cells #[.int .u8 Y] e)) := by
  subst hY
  have e1 : bvals (xs ++ [u8of y]) = bvals xs ++ [.int .u8 (y : Int)] := by
    rw [bvals_append]
    have : (u8of y).toNat = y := u8of_toNat hy
    simp [bvals, this]
  refine wpList_append_one (.int .u8 (y : Int)) hgd s x t ho base e i (.int .u8 0) 1 ht hi hz hsize hby rfl v xs.length (bvals xs) hs hown hx rfl hlen (by decide) hbase ?_
  intro v' w' hown' hb
  refine h v' w' ?_ hb
  rw [e1]
  simpa using hown'

theorem or128 (x : Nat) : bits .or .u8 ((x : Int) % 256) 128 = ((x % 128 + 128 : Nat) : Int) := by
  have h1 : (x : Int) % 256 = ((x % 256 : Nat) : Int) := by omega
  rw [h1, show (128 : Int) = ((128 : Nat) : Int) from rfl, u8_or_nat _ _ (by omega) (by omega)]
  congr 1
  rw [Nat.or_comm]
  have e : x % 256 = 128 * (x / 128 % 2) + x % 128 := by omega
  have h2 : x / 128 % 2 = 0 ∨ x / 128 % 2 = 1 := by omega
  have h3 : x % 128 < 2 ^ 7 := by omega
  have h4 : 128 + x % 128 = 128 ||| x % 128 := Nat.two_pow_add_eq_or_of_lt (i := 7) h3 1
  rcases h2 with h | h
  · rw [e, h, Nat.mul_zero, Nat.zero_add, ← h4]
    omega
  · rw [e, h, Nat.mul_one, h4, ← Nat.or_assoc, Nat.or_self, ← h4]
    omega

theorem andNot128 (b : Nat) (h : b < 256) : bits .andNot .u8 (b : Int) 128 = ((b % 128 : Nat) : Int) := by
  rw [show (128 : Int) = ((128 : Nat) : Int) from rfl, u8_andNot_nat _ _ h (by omega)]
  congr 1
  exact Nat.and_two_pow_sub_one_eq_mod b 7

theorem and128 (b : Nat) (h : b < 256) : bits .and .u8 (b : Int) 128 = ((b / 128 % 2 * 128 : Nat) : Int) := by
  rw [show (128 : Int) = ((128 : Nat) : Int) from rfl, u8_and_nat _ _ h (by omega)]
  congr 1
  exact nat_bit 7 b

theorem and128_yes {b : Nat} (h : b < 256) (h' : ¬ b < 128) : (bits .and .u8 (b : Int) 128 != 0) = true := by
  rw [and128 b h, show b / 128 % 2 = 1 by omega]; rfl

theorem and128_no {b : Nat} (h : b < 256) (h' : b < 128) : (bits .and .u8 (b : Int) 128 != 0) = false := by
  rw [and128 b h, show b / 128 % 2 = 0 by omega]; rfl

theorem pow7 (i : Nat) : 2 ^ (7 * i) = 128 ^ i := by rw [Nat.pow_mul]

theorem pow_split (i : Nat) (h : i ≤ 8) : ∃ c, 18446744073709551616 = c * (128 ^ i * 128) := by
  have hi8 : i = 0 ∨ i = 1 ∨ i = 2 ∨ i = 3 ∨ i = 4 ∨ i = 5 ∨ i = 6 ∨ i = 7 ∨ i = 8 := by omega
  rcases hi8 with rfl | rfl | rfl | rfl | rfl | rfl | rfl | rfl | rfl
  · exact ⟨2 ^ 57, by decide⟩
  · exact ⟨2 ^ 50, by decide⟩
  · exact ⟨2 ^ 43, by decide⟩
  · exact ⟨2 ^ 36, by decide⟩
  · exact ⟨2 ^ 29, by decide⟩
  · exact ⟨2 ^ 22, by decide⟩
  · exact ⟨2 ^ 15, by decide⟩
  · exact ⟨2 ^ 8, by decide⟩
  · exact ⟨2, by decide⟩

theorem sum_lt (acc x i : Nat) (ha : acc < 128 ^ i) (hx : x < 128) (hi : i ≤ 9) (h9 : i = 9 → x ≤ 1) : acc + x * 128 ^ i < 18446744073709551616 := by
  by_cases h : i = 9
  · subst h
    have := h9 rfl
    have h2 : x * 128 ^ 9 ≤ 1 * 128 ^ 9 := Nat.mul_le_mul_right _ this
    have h3 : 1 * 128 ^ 9 = 9223372036854775808 := by decide
    have h4 : 128 ^ 9 = 9223372036854775808 := by decide
    omega
  · obtain ⟨c, hc⟩ := pow_split i (by omega)
    rw [hc]
    have hc0 : 0 < c := by
      rcases Nat.eq_zero_or_pos c with h0 | h0
      · subst h0; simp at hc
      · exact h0
    have h1 : (x + 1) * 128 ^ i ≤ 128 ^ i * 128 := by rw [Nat.mul_comm (128 ^ i) 128]; exact Nat.mul_le_mul_right _ (by omega)
    have h2 : 128 ^ i * 128 ≤ c * (128 ^ i * 128) := Nat.le_mul_of_pos_left _ hc0
    rw [Nat.add_mul] at h1
    omega

theorem orShift (acc x i sh : Nat) (hs : sh = 7 * i) (ha : acc < 128 ^ i) (hx : x < 128) (hi : i ≤ 9) (h9 : i = 9 → x ≤ 1) :
    bits .or .u64 (acc : Int) (IntKind.u64.wrap (IntKind.u64.wrap (x : Int) * 2 ^ min sh 64)) = ((acc + x * 128 ^ i : Nat) : Int) := by
  have hlt := sum_lt acc x i ha hx hi h9
  subst hs
  have e0 : min (7 * i) 64 = 7 * i := by omega
  have e1 : IntKind.u64.wrap (x : Int) = (x : Int) := by rw [IntKind.wrap_u64]; omega
  have e2 : (2 : Int) ^ (7 * i) = ((128 ^ i : Nat) : Int) := by rw [← pow7]; exact (Int.natCast_pow 2 (7 * i)).symm
  rw [e0, e1, e2, ← Int.natCast_mul]
  have e3 : IntKind.u64.wrap ((x * 128 ^ i : Nat) : Int) = ((x * 128 ^ i : Nat) : Int) := by rw [IntKind.wrap_u64]; omega
  rw [e3, u64_or_nat _ _ (by omega) (by omega), Nat.or_comm, nat_join (7 * i) _ _ (by rw [pow7]; exact Nat.mul_mod_left _ _) (by rw [pow7]; exact ha), Nat.add_comm]

theorem orShift' (acc x i sh : Nat) (hs : sh = 7 * i) (ha : acc < 128 ^ i) (hx : x < 128) (hi : i ≤ 9) (h9 : i = 9 → x ≤ 1) :
    bits .or .u64 (acc : Int) (IntKind.u64.wrap (IntKind.u64.wrap (x : Int) * 2 ^ sh)) = ((acc + x * 128 ^ i : Nat) : Int) := by
  have := orShift acc x i sh hs ha hx hi h9
  rwa [show min sh 64 = sh by omega] at this

theorem orShift0 (x : Nat) (hx : x < 128) : bits .or .u64 0 (IntKind.u64.wrap (IntKind.u64.wrap (x : Int))) = (x : Int) := by
  have := orShift 0 x 0 0 rfl (by decide) hx (by omega) (by omega)
  simpa using this

theorem or0 (x : Nat) (hx : x < 128) : bits .or .u64 0 (x : Int) = (x : Int) := by
  rw [show (0 : Int) = ((0 : Nat) : Int) from rfl, u64_or_nat _ _ (by omega) (by omega), Nat.zero_or]

theorem bytes_at (l : List UInt8) (p : Nat) (h : p < (⟨l.toArray⟩ : ByteArray).size) : l[p]? = some ((⟨l.toArray⟩ : ByteArray)[p]'h) := by
  have h' : p < l.length := by
    have : (⟨l.toArray⟩ : ByteArray).size = l.length := by show l.toArray.size = _; simp
    omega
  rw [List.getElem?_eq_getElem h']
  rfl

theorem size_bytes (l : List UInt8) : (⟨l.toArray⟩ : ByteArray).size = l.length := by show l.toArray.size = _; simp

/-- s[i:j], s a text as a list of bytes, i and j whatever the walk calls them. -/
theorem run_slice_bytes {P : Program} (w : World) (t : TypeId) (l : List UInt8) (i j : Nat) (I J : Int) (hI : I = (i : Int)) (hJ : J = (j : Int)) (h : P.underlying t = some .string)
    (h1 : i ≤ j) (h2 : j ≤ l.length) :
    (Instr.slice t (.string ⟨l.toArray⟩) (some (.int .i64 I)) (some (.int .i64 J)) none).run P w = .ok (.string ⟨((l.drop i).take (j - i)).toArray⟩) w := by
  subst hI
  subst hJ
  rw [run_slice_string w t _ .i64 .i64 i j h (by omega) (by omega) (by rw [size_bytes]; omega), ByteArray.extract_mk]
  simp

/-- s[:j]. -/
theorem run_slice_bytes_to {P : Program} (w : World) (t : TypeId) (l : List UInt8) (j : Nat) (J : Int) (hJ : J = (j : Int)) (h : P.underlying t = some .string) (h2 : j ≤ l.length) :
    (Instr.slice t (.string ⟨l.toArray⟩) none (some (.int .i64 J)) none).run P w = .ok (.string ⟨(l.take j).toArray⟩) w := by
  subst hJ
  rw [run_slice_string_to_if w t _ .i64 j h, if_pos (by rw [size_bytes]; omega), ByteArray.extract_mk]
  simp

/-- s[i:]. -/
theorem run_slice_bytes_from {P : Program} (w : World) (t : TypeId) (l : List UInt8) (i : Nat) (I : Int) (hI : I = (i : Int)) (h : P.underlying t = some .string) (h2 : i ≤ l.length) :
    (Instr.slice t (.string ⟨l.toArray⟩) (some (.int .i64 I)) none none).run P w = .ok (.string ⟨(l.drop i).toArray⟩) w := by
  subst hI
  rw [run_slice_string_from_if w t _ .i64 i h, if_pos (by rw [size_bytes]; omega), ByteArray.extract_mk, size_bytes]
  simp only [Int.toNat_natCast]
  rw [List.take_of_length_le (by simp)]

theorem below3 {w a b c : World} (h1 : Below w.heap.size w a) (h2 : Below a.heap.size a b) (h3 : Below b.heap.size b c) : Below w.heap.size w c :=
  h1.trans ((h2.mono h1.size).trans (h3.mono (Nat.le_trans h1.size h2.size)))

theorem below2' {w a b : World} (h1 : Below w.heap.size w a) (h2 : Below a.heap.size a b) : Below w.heap.size w b := h1.trans (h2.mono h1.size)

/-- A contract that ends in 'Below', met inside a region that draws its order. -/
theorem rgB {P : Program} {f : FuncId} {args : Array Value} {v : Value} (h : ∀ w, Calls P f args w fun e w' => e = .returned v ∧ Below w.heap.size w w') (w : World) (d : Nat) (os : Array Obj) :
    Calls P f args (Sort.grow (redrawn w d) os) fun e w'' => e = .returned v ∧ ∃ p : Regrown, w'' = Sort.grow (redrawn w p.d) p.os := Calls.regrown_of (h _)

/-- .. one that leaves the world alone. -/
theorem rgS {P : Program} {f : FuncId} {args : Array Value} {v : Value} (h : ∀ w, Calls P f args w fun e w' => e = .returned v ∧ w = w') (w : World) (d : Nat) (os : Array Obj) :
    Calls P f args (Sort.grow (redrawn w d) os) fun e w'' => e = .returned v ∧ ∃ p : Regrown, w'' = Sort.grow (redrawn w p.d) p.os :=
  Calls.regrown_of ((h _).mono fun _ _ ⟨he, hw⟩ => ⟨he, hw ▸ Below.refl _ _⟩)

/-- A slice of integers that came in: nil, or a row of 'cap' cells, the numbers 'zs' (the first 'len' are its elements). -/
def IsRow (k : IntKind) (w : World) (a : Option Addr) (len cap : Nat) (zs : List Int) : Prop :=
  (a = none ∧ len = 0 ∧ cap = 0 ∧ zs = []) ∨
  ∃ x, a = some x ∧ len ≤ cap ∧ cap ≤ maxLen ∧ zs.length = cap ∧ (∀ i, i < zs.length → w.cell? (x.add i) = some (.int k (zs.getD i 0))) ∧ ∀ n ∈ zs, (Lit.int k n).wf = true

theorem IsRow.form {k : IntKind} {w : World} {a : Option Addr} {len cap : Nat} {zs : List Int} (h : IsRow k w a len cap zs) :
    len ≤ zs.length ∧ zs.length ≤ maxLen ∧ (len = 0 ∨ ∃ b off, a = some ⟨b, off, none⟩ ∧ b < w.heap.size ∧ ∀ i, i < len → w.cell? ⟨b, off + i, none⟩ = some (.int k (zs.getD i 0))) ∧ ∀ n ∈ zs, (Lit.int k n).wf = true := by
  rcases h with ⟨rfl, rfl, rfl, rfl⟩ | ⟨x, rfl, hl, hm, hz, hcell, hwz⟩
  · exact ⟨by simp, by simp, .inl rfl, by simp⟩
  · refine ⟨by omega, by omega, ?_, hwz⟩
    by_cases h0 : len = 0
    · exact .inl h0
    · obtain ⟨b, off, spot⟩ := x
      have hc := hcell 0 (by omega)
      have hspot : spot = none := by simpa [Addr.add] using World.cell?_spot hc
      subst hspot
      refine .inr ⟨b, off, rfl, ?_, fun i hi => ?_⟩
      · have := World.block_lt_of_cell? w _ hc
        simpa [Addr.add] using this
      · have := hcell i (by omega)
        rwa [Addr.add_lit] at this

/-- A slice of texts that came in. -/
def IsStrs (w : World) (a : Option Addr) (len cap : Nat) (ss : List ByteArray) : Prop :=
  (a = none ∧ len = 0 ∧ cap = 0 ∧ ss = []) ∨
  ∃ x, a = some x ∧ len ≤ cap ∧ cap ≤ maxLen ∧ ss.length = cap ∧ (∀ i, i < ss.length → w.cell? (x.add i) = some (.string (ss.getD i ByteArray.empty))) ∧ ∀ s ∈ ss, s.size ≤ maxLen

/-- .. each text as the list of its bytes. -/
theorem IsStrs.form {w : World} {a : Option Addr} {len cap : Nat} {ss : List ByteArray} (h : IsStrs w a len cap ss) :
    ∃ ls : List (List UInt8), ls.length = len ∧ len ≤ maxLen ∧ (len = 0 ∨ ∃ b off, a = some ⟨b, off, none⟩ ∧ b < w.heap.size ∧ ∀ i, i < len → w.cell? ⟨b, off + i, none⟩ = some (.string ⟨(ls.getD i []).toArray⟩)) ∧ ∀ l ∈ ls, l.length ≤ maxLen := by
  rcases h with ⟨rfl, rfl, rfl, rfl⟩ | ⟨x, rfl, hl, hm, hz, hcell, hws⟩
  · exact ⟨[], rfl, by simp, .inl rfl, by simp⟩
  · refine ⟨(ss.take len).map fun s => s.data.toList, by simp; omega, by omega, ?_, ?_⟩
    · by_cases h0 : len = 0
      · exact .inl h0
      · obtain ⟨b, off, spot⟩ := x
        have hc := hcell 0 (by omega)
        have hspot : spot = none := by simpa [Addr.add] using World.cell?_spot hc
        subst hspot
        refine .inr ⟨b, off, rfl, ?_, fun i hi => ?_⟩
        · have := World.block_lt_of_cell? w _ hc
          simpa [Addr.add] using this
        · have := hcell i (by omega)
          rw [Addr.add_lit] at this
          rw [this]
          have h1 : i < ss.length := by omega
          simp [List.getD, hi, List.getElem?_eq_getElem h1]
    · intro l hl'
      obtain ⟨s, hs, rfl⟩ := List.mem_map.1 hl'
      have h2 := hws s (List.mem_of_mem_take hs)
      exact Nat.le_trans (Nat.le_of_eq (Array.length_toList (xs := s.data))) h2

/-- string(b), b a new block of bytes, all of it. -/
theorem run_convert_new {P : Program} (w : World) (src e dst : TypeId) (hs : P.underlying src = some (.slice e)) (he : P.underlying e = some (.int .u8)) (hd : P.underlying dst = some .string)
    (cs : Array Value) (xs : List UInt8) (h : cs = (bvals xs).toArray) (n : Nat) (hn : n = xs.length) (hm : n ≤ maxLen) :
    (convert src dst (.slice (some ⟨w.heap.size, 0, none⟩) n n)).run P (w.alloc (.cells cs e)) = .ok (.string ⟨xs.toArray⟩) (w.alloc (.cells cs e)) := by
  subst h
  subst hn
  refine run_convert_owned src e dst hs he hd (base := 0) (n := xs.length) (xs := xs) ⟨by simp [bvals], .inr ⟨w.heap.size, xs.length, (bvals xs).toArray, rfl, Nat.zero_le _, heap_alloc_new w _, Nat.le_refl _, hm, by simp [bvals], ?_⟩⟩
  simp only [Nat.mul_one]
  exact List.take_of_length_le (by simp [bvals])

end Go.Proofs.Ythfkfonfiejbmaa
