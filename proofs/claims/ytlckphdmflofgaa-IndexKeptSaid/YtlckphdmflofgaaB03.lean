/-
  TEXTS OF THE PROOF, one behind the other: IdCmp, IdRow, IdDoc, IdRput, IdRmerge, IxRside, IdConcat, IdMerge, IxOth, IxB, IdIs, IdFold, IdTake, Bytes, IdRef, IdLive, IxLive.
-/
import Derived.Test.YtlckphdmflofgaaB02
import Derived.Test.YtlckphdmflofgaaB01
import Derived.Laws.AppendOwnNone
import Derived.Laws.OwnMore
import Derived.Test.YtlckphdmflofgaaProg
import Derived.Lib.Hide
import Derived.Lib.AppendZeros
import Derived.OwnWalk
import Derived.BigQuiet
import Derived.Deep.DeepMust
import Derived.Lib.OwnBridge
import Derived.Lib.OthersKept
import Derived.Lib.ConvBytes
import Derived.Laws.IdiomStrings

section
/-
  THE CONTRACTS OF ident.compare, Less AND OF THE DOCUMENT'S ANSWER TO Less.
-/
namespace Go.Proofs.Ytlckphdmflofgaa
open Go.RowKit Go.Lib

theorem icmp (x y : Int) (w : World) : Calls Try.prog 87 #[.int .i64 x, .int .i64 y] w fun e w' => e = .returned (.int .i64 (compareInt x y)) ∧ w = w' :=
  (Try.cmp_Compare_int x y w).mono fun _ _ ⟨he, hw⟩ => ⟨he, hw.symm⟩

theorem scmp (a b : List UInt8) (w : World) : Calls Try.prog 88 #[.string ⟨a.toArray⟩, .string ⟨b.toArray⟩] w fun e w' => e = .returned (.int .i64 (compareBytes a b)) ∧ w = w' :=
  (Try.strings_Compare ⟨a.toArray⟩ ⟨b.toArray⟩ w).mono fun _ _ ⟨he, hw⟩ => ⟨by simpa using he, hw.symm⟩

/-- The first that is not nought. -/
def orI (x y : Int) : Int := if x = 0 then y else x

set_option maxHeartbeats 400000 in
set_option maxRecDepth 100000 in
theorem or_any (B : Nat) (x y : Int) (w : World) (k0 : w.cell? ⟨B, 0, none⟩ = some (.int .i64 x)) (k1 : w.cell? ⟨B, 1, none⟩ = some (.int .i64 y)) :
    Calls Try.prog 86 #[.slice (some ⟨B, 0, none⟩) 2 2] w fun e w' => e = .returned (.int .i64 (orI x y)) ∧ w = w' := by
  by_cases hx : x = 0
  · subst hx
    by_cases hy : y = 0
    · subst hy
      go_enter Try.func86, Try.ntmps86
      go_wp2_with fail
      refine wp_loop_rounds 3 ?_
      rw [rounds_succ]
      go_wp2_with fail
      rw [rounds_succ]
      go_wp2_with fail
      rw [rounds_succ]
      go_wp2_with fail
      go_ret
      exact ⟨rfl, rfl⟩
    · have t1 : (y != 0) = true := by simp [hy]
      clear hy
      go_enter Try.func86, Try.ntmps86
      go_wp2_with fail
      refine wp_loop_rounds 3 ?_
      rw [rounds_succ]
      go_wp2_with fail
      rw [rounds_succ]
      go_wp2_with fail
      go_ret
      exact ⟨rfl, rfl⟩
  · have t1 : (x != 0) = true := by simp [hx]
    have HX : Hid (orI x y = x) := if_neg hx
    clear hx
    go_enter Try.func86, Try.ntmps86
    go_wp2_with fail
    refine wp_loop_rounds 3 ?_
    rw [rounds_succ]
    go_wp2_with fail
    go_ret
    exact ⟨by rw [HX.out]; rfl, rfl⟩

theorem idCmp_or (a b : List UInt8) : idCmp a b = orI (compareInt a.length b.length) (compareBytes a b) := by
  unfold idCmp compareInt orI
  by_cases h1 : a.length < b.length
  · have : (a.length : Int) < b.length := by omega
    simp [h1, this]
  · by_cases h2 : b.length < a.length
    · have h1' : ¬ (a.length : Int) < b.length := by omega
      have h2' : (b.length : Int) < a.length := by omega
      simp [h1, h2, h1', h2']
    · have h1' : ¬ (a.length : Int) < b.length := by omega
      have h2' : ¬ (b.length : Int) < a.length := by omega
      simp [h1, h2, h1', h2']

set_option maxHeartbeats 400000 in
set_option maxRecDepth 100000 in
theorem compare_any (a b : List UInt8) (w : World) :
    Calls Try.prog 70 #[.string ⟨a.toArray⟩, .string ⟨b.toArray⟩] w fun e w' => e = .returned (.int .i64 (idCmp a b)) ∧ ∃ o, w' = w.alloc o := by
  have HI := Lib.hid (idCmp_or a b)
  have H1 := Lib.hid (icmp a.length b.length)
  have H2 := Lib.hid (scmp a b)
  obtain ⟨x, hx⟩ : ∃ x, compareInt a.length b.length = x := ⟨_, rfl⟩
  obtain ⟨y, hy⟩ : ∃ y, compareBytes a b = y := ⟨_, rfl⟩
  rw [hx] at H1 HI
  rw [hy] at H2 HI
  clear hx hy
  go_enter Try.func70, Try.ntmps70
  go_wp2_with fail
  refine (H1.out _).mono ?_
  rintro e w' ⟨rfl, rfl⟩
  go_wp2_with fail
  refine (H2.out _).mono ?_
  rintro e w' ⟨rfl, rfl⟩
  go_wp2_with fail
  refine (or_any _ x y _ (by simp) (by simp)).mono ?_
  rintro e w' ⟨rfl, rfl⟩
  go_wp2_with fail
  go_ret
  exact ⟨by rw [HI.out]; rfl, _, rfl⟩

theorem compare_eq (a b : List UInt8) {n : Int} (h : Hid (idCmp a b = n)) (w : World) :
    Calls Try.prog 70 #[.string ⟨a.toArray⟩, .string ⟨b.toArray⟩] w fun e w' => e = .returned (.int .i64 n) ∧ Below w.heap.size w w' := by
  have h1 := h.out
  subst h1
  exact (compare_any a b w).mono fun _ _ ⟨he, o, hw⟩ => ⟨he, by rw [hw]; exact (Below.refl _ _).alloc (Nat.le_refl _) _⟩

set_option maxHeartbeats 400000 in
set_option maxRecDepth 100000 in
theorem less_eq (a b : List UInt8) {r : Bool} (h : Hid (idLess a b = r)) (w : World) :
    Calls Try.prog 82 #[.string ⟨a.toArray⟩, .string ⟨b.toArray⟩] w fun e w' => e = .returned (.bool r) ∧ Below w.heap.size w w' := by
  obtain ⟨n, hn⟩ : ∃ n, Hid (idCmp a b = n) := ⟨_, rfl⟩
  have hr : Hid (decide (n < 0) = r) := by show _ = _; rw [← hn.out]; exact h.out
  go_enter Try.func82, Try.ntmps82
  go_wp2_with fail
  refine (compare_eq a b hn _).mono ?_
  rintro e w1 ⟨rfl, hb1⟩
  have B1 := Lib.hid hb1
  clear hb1
  go_wp2_with fail
  go_ret
  exact ⟨by rw [← hr.out]; rfl, B1.out⟩

end Go.Proofs.Ytlckphdmflofgaa
end

section
/-
  ROWS OF TEXTS IN MEMORY, over any program: what they hold, and what append makes of them.
-/
namespace Go.Proofs.Ytlckphdmflofgaa
open Go.RowKit

theorem cell_after {w w' : World} {a : Addr} {v : Value} (h : w.cell? a = some v) (hb : Below w.heap.size w w') : w'.cell? a = some v :=
  (hb.cell (World.block_lt_of_cell? w a h)).trans h

/-- A text as a cell's value. -/
def encS (l : List UInt8) : Value := .string ⟨l.toArray⟩

/-- Which list of texts a slice holds. -/
def Texts (w : World) (v : Value) (ls : List (List UInt8)) : Prop :=
  ∃ a cap, v = .slice a ls.length cap ∧ ls.length ≤ cap ∧ cap ≤ maxLen ∧ (a = none → cap = 0) ∧
    (ls = [] ∨ ∃ b off, a = some ⟨b, off, none⟩ ∧ b < w.heap.size ∧ ∀ i, i < ls.length → w.cell? ⟨b, off + i, none⟩ = some (encS (ls.getD i [])))

theorem Texts.later {w w' : World} {v : Value} {ls : List (List UInt8)} (h : Texts w v ls) (hb : Below w.heap.size w w') : Texts w' v ls := by
  obtain ⟨a, cap, h1, h2, h3, h4, h5⟩ := h
  refine ⟨a, cap, h1, h2, h3, h4, ?_⟩
  rcases h5 with h5 | ⟨b, off, e, hlt, hc⟩
  · exact .inl h5
  · exact .inr ⟨b, off, e, Nat.lt_of_lt_of_le hlt hb.size, fun i hi => (hb.cell (p := ⟨b, off + i, none⟩) hlt).trans (hc i hi)⟩

theorem texts_nil (w : World) : Texts w (.slice none 0 0) [] := ⟨none, 0, rfl, by simp, by simp, fun _ => rfl, .inl rfl⟩

theorem encS_one (ls : List (List UInt8)) : ∀ u ∈ ls.map encS, u.oneCell' = true := by
  intro u hu
  obtain ⟨l, _, rfl⟩ := List.mem_map.1 hu
  rfl

/-- A row of the call's own. -/
theorem texts_of_own {w : World} {base e : Nat} {v : Value} {ls : List (List UInt8)} (h : w.ownsRow base e 1 v ls.length (ls.map encS)) : Texts w v ls := by
  rcases h with ⟨_, ⟨rfl, h0⟩ | ⟨g, cap, cur, rfl, hb, hg, hn, hc, hsz, htk⟩⟩
  · obtain rfl : ls = [] := List.length_eq_zero_iff.1 h0
    exact texts_nil w
  · refine ⟨some ⟨g, 0, none⟩, cap, rfl, hn, hc, (fun e => by cases e), ?_⟩
    refine .inr ⟨g, 0, rfl, (Array.getElem?_eq_some_iff.1 hg).1, fun i hi => ?_⟩
    rw [Nat.zero_add, cell_of_row w g i cur e (0, 0) hg]
    have h1 : cur.toList[i]? = (ls.map encS)[i]? := by
      rw [← htk, List.getElem?_take, if_pos (by omega)]
    have h2 : (ls.map encS)[i]? = some (encS (ls.getD i [])) := by
      simp [List.getD, List.getElem?_eq_getElem hi]
    rw [← h2, ← h1]
    simp

/-- A row of texts of the call's own. -/
def OwnT (w : World) (base e : Nat) (v : Value) (ls : List (List UInt8)) : Prop := w.ownsRow base e 1 v ls.length (ls.map encS)

theorem OwnT.alloc {w : World} {base e : Nat} {v : Value} {ls : List (List UInt8)} (h : OwnT w base e v ls) (o : Obj) : OwnT (w.alloc o) base e v ls := World.ownsRow.alloc h o
theorem OwnT.texts {w : World} {base e : Nat} {v : Value} {ls : List (List UInt8)} (h : OwnT w base e v ls) : Texts w v ls := texts_of_own h
/-- 'out = append(out, src...)', out nil or a row of the call's own, src whatever (its address any term). -/
theorem wpList_append_texts {P : Program} {w : World} {ops : Array Oper} {rest : List Oper} {o : Oper} {a : Act} {Q : Exit → Act → World → Prop}
    (hgd : o.guard = none) (s x : Operand) (t : TypeId) (ho : o.op = .call { callee := .builtin .append, args := #[s, x], argTypes := #[t, t] })
    (base : Nat) (e : TypeId) (i : TypeInfo) (z : Value) (bytes : Nat) (ht : P.underlying t = some (.slice e)) (hi : P.info? e = some i) (hz : i.zero = some z)
    (hsize : i.size = 1) (hby : i.bytes = bytes) (hzs : z.cells.size = 1)
    (v : Value) (ls : List (List UInt8)) (hs : a.eval s = v) (hown : OwnT w base e v ls)
    (ao : Option Addr) (m c : Nat) (ms : List (List UInt8)) (hx : a.eval x = .slice ao m c) (hm : m = ms.length) (hnone : ao = none → c = 0 ∧ ms = [])
    (hsome : ∀ ad, ao = some ad → ∀ j u, (ms.map encS)[j]? = some u → w.cell? (ad.add j) = some u)
    (hlen : ls.length + ms.length < 4294967296) (hb : bytes ≤ 4096) (hbase : base ≤ w.heap.size)
    (h : ∀ v' w', OwnT w' base e v' (ls ++ ms) → Below base w w' → wpList P ops Q rest (a.put o.dst v') w') :
    wpList P ops Q (o :: rest) a w := by
  cases ao with
  | none =>
    obtain ⟨rfl, rfl⟩ := hnone rfl
    simp only [List.length_nil] at hm
    subst hm
    exact wpList_append_own_none hgd s x t ho base e i 1 ht hi v ls.length (ls.map encS) hs hown hx (h v w (by simpa using hown) (Below.refl _ _))
  | some ad =>
    subst hm
    refine wpList_append_own _ hgd s x t ho base e i z 1 bytes ht hi hz hsize hby hzs (by decide) v ls.length (ls.map encS) hs hown ad ms.length c (ms.map encS) hx (by simp) (hsome ad rfl) (encS_one ms)
      (by unfold maxLen; omega) (Nat.le_trans (Nat.mul_le_mul (show ls.length + ms.length ≤ 4294967296 by omega) hb) (by decide)) hbase ?_
    intro v' w' hown' hgrow _
    refine h v' w' ?_ ((Below.refl base w).grown hgrow hbase (fun k hk => (World.ownsRow.lt hown k hk).1))
    unfold OwnT
    rw [List.map_append, List.length_append]
    exact hown'

end Go.Proofs.Ytlckphdmflofgaa
end

section
/-
  THE CONTRACTS OF THE DOCUMENT'S Few AND Same.
-/
namespace Go.Proofs.Ytlckphdmflofgaa
open Go.RowKit

theorem Try.infoStr : (Try.prog.info? 9).map (fun i => (i.zero, i.size, i.bytes)) = some (some (.string ⟨#[]⟩), 1, 16) := by kernel_rfl

def fewB (ls : List (List UInt8)) : Bool := decide (ls.length ≤ 30) && ls.all fun t => decide (t.length ≤ 30)

theorem getD_some {ls : List (List UInt8)} {k : Nat} (h : k < ls.length) : ls[k]? = some (ls.getD k []) := by simp [List.getD, List.getElem?_eq_getElem h]

set_option maxHeartbeats 800000 in
set_option maxRecDepth 100000 in
/-- Two lists that are the same. -/
theorem same_yes {w : World} {v u : Value} {ls : List (List UInt8)} (hv : Texts w v ls) (hu : Texts w u ls) (hl : ls.length ≤ 4294967296) :
    Calls Try.prog 19 #[v, u] w fun e w' => e = .returned (.bool true) ∧ Below w.heap.size w w' := by
  have HV := Lib.hid hv
  have HU := Lib.hid hu
  obtain ⟨a, cap, rfl, _, _, _, _⟩ := hv
  obtain ⟨a2, cap2, rfl, _, _, _, _⟩ := hu
  go_enter Try.func19, Try.ntmps19
  go_wp2_with fail
  go_loopw [5] (fun i wr => ∃ k : Nat, k ≤ ls.length ∧ i = .int .i64 k ∧ Below w.heap.size w wr) (fun i _ => ls.length - (intOf i).toNat)
  case atStart => exact ⟨0, by omega, rfl, Below.refl _ _⟩
  case round =>
    obtain ⟨k, hk, rfl, hnx⟩ := hrel
    have HN := Lib.hid hnx
    by_cases hlt : k < ls.length
    · obtain ⟨b1, o1, e1, hc1⟩ : ∃ b1 o1, a = some ⟨b1, o1, none⟩ ∧ wr.cell? ⟨b1, o1 + k, none⟩ = some (encS (ls.getD k [])) := by
        obtain ⟨a', cap', e, _, _, _, h⟩ := HV.out.later HN.out
        simp only [Value.slice.injEq] at e
        rcases h with h | ⟨b, off, e', _, hc⟩
        · rw [h] at hlt; simp at hlt
        · exact ⟨b, off, e.1.trans e', hc k hlt⟩
      obtain ⟨b2, o2, e2, hc2⟩ : ∃ b1 o1, a2 = some ⟨b1, o1, none⟩ ∧ wr.cell? ⟨b1, o1 + k, none⟩ = some (encS (ls.getD k [])) := by
        obtain ⟨a', cap', e, _, _, _, h⟩ := HU.out.later HN.out
        simp only [Value.slice.injEq] at e
        rcases h with h | ⟨b, off, e', _, hc⟩
        · rw [h] at hlt; simp at hlt
        · exact ⟨b, off, e.1.trans e', hc k hlt⟩
      subst e1 e2
      unfold encS at hc1 hc2
      obtain ⟨x, hx⟩ : ∃ x, ls.getD k [] = x := ⟨_, rfl⟩
      rw [hx] at hc1 hc2
      clear hx hnx
      go_wp2_with fail
      go_region
      go_wp2_with fail
      go_roundw
      case rel => exact ⟨k + 1, by omega, by go_num, HN.out.drew⟩
      case measure => simp [intOf]; omega
    · obtain rfl : k = ls.length := by omega
      clear hnx
      go_wp2_with fail
      go_ret
      exact ⟨rfl, HN.out⟩

end Go.Proofs.Ytlckphdmflofgaa
end

section
/-
  THE CONTRACTS OF THE DOCUMENT'S put AND Merge.
-/
namespace Go.Proofs.Ytlckphdmflofgaa
open Go.RowKit

/-- What Merge hands to put: nil, or a row that is not empty. -/
def Heaped (w : World) (v : Value) (ls : List (List UInt8)) : Prop := Texts w v ls ∧ (ls = [] → v = .slice none 0 0)

end Go.Proofs.Ytlckphdmflofgaa
end

section
/-
  THE CONTRACT OF THE DOCUMENT'S Merge.
-/
namespace Go.Proofs.Ytlckphdmflofgaa
open Go.RowKit

theorem Heaped.later {w w' : World} {v : Value} {ls : List (List UInt8)} (h : Heaped w v ls) (hb : Below w.heap.size w w') : Heaped w' v ls := ⟨h.1.later hb, h.2⟩

/-- A cell of a row, in a later world. -/
theorem Texts.cell {w wr : World} {a : Option Addr} {n cap : Nat} {ls : List (List UInt8)} (h : Texts w (.slice a n cap) ls) (hb : Below w.heap.size w wr) (k : Nat) (hk : k < ls.length) :
    ∃ b off, a = some ⟨b, off, none⟩ ∧ wr.cell? ⟨b, off + k, none⟩ = some (.string ⟨(ls.getD k []).toArray⟩) := by
  obtain ⟨a', cap', e, _, _, _, h⟩ := h.later hb
  simp only [Value.slice.injEq] at e
  rcases h with h | ⟨b, off, e', _, hc⟩
  · rw [h] at hk; simp at hk
  · exact ⟨b, off, e.1.trans e', hc k hk⟩

end Go.Proofs.Ytlckphdmflofgaa
end

section
/-
  LAYER 13, THE DOCUMENT: who stands across from a user.
-/
namespace Go.Proofs.Ytlckphdmflofgaa
open Go.RowKit Go.ChangeMaps Go.MapKept

theorem ix_infoTxt : (Try.prog.info? 9).map (fun i => (i.zero, i.size, i.bytes)) = some (some (.string ⟨#[]⟩), 1, 16) := by kernel_rfl

theorem ix_new1 {w : World} {u : Value} {e : TypeId} : ∀ ad, some (⟨w.heap.size, 0, none⟩ : Addr) = some ad → ∀ j v, ([u] : List Value)[j]? = some v → (w.alloc (.cells #[u] e)).cell? (ad.add j) = some v := by
  intro ad had j v hv
  obtain rfl := Option.some.inj had
  exact cells_one w u e j v hv

/-- Those across from a user in the first k pairs. -/
def sdT (L : List Pr) (s : Bool) (u : List UInt8) (k : Nat) : List (List UInt8) := ((L.take k).filter (fun p => pcOf s p = u)).map (pcOf (!s))

end Go.Proofs.Ytlckphdmflofgaa
end

section
/-
  THE CONTRACTS OF slices.Grow (of nil) AND slices.Concat (of two rows of texts), AT THIS PROGRAM.
-/
namespace Go.Proofs.Ytlckphdmflofgaa
open Go.RowKit

theorem zeros_size (z : Value) (hz : z.cells.size = 1) (n : Nat) : (Builtin.zeroCells z.cells n).size = n := by
  unfold Builtin.zeroCells
  simp [hz]

set_option maxHeartbeats 800000 in
set_option maxRecDepth 100000 in
theorem grow_nil (n : Nat) (hn : n ≤ 1000) (w : World) :
    Calls Try.prog 83 #[.slice none 0 0, .int .i64 n] w fun e w' => ∃ v, e = .returned v ∧ OwnT w' w.heap.size 9 v [] ∧ Below w.heap.size w w' := by
  obtain ⟨i0, hi, hz0, hz1, hz2⟩ := info_parts Try.infoStr
  by_cases h0 : n = 0
  · subst h0
    go_enter Try.func83, Try.ntmps83
    go_wp2_with fail
    go_ret
    exact ⟨_, rfl, World.ownsRow_nil _ _ _ _, Below.refl _ _⟩
  · have hrz := fun ty => Lib.run_append_nil_zeros (P := Try.prog) w 38 3 ty 9 i0 _ .i64 .i64 Try.underlying38 Try.underlying3 hi hz0 n (by omega) (by omega) (by omega) (by rw [hz2]; omega)
    have hG1 := grownCap_ge w n 0 9
    have hG2 := grownCap_le_maxLen w n 0 9 (by unfold maxLen; omega)
    obtain ⟨G, hG⟩ : ∃ G, G = grownCap w n 0 9 := ⟨_, rfl⟩
    rw [← hG] at hrz hG1 hG2
    have hO : Hid (OwnT (w.drew.alloc (.cells (Builtin.zeroCells (Value.string ⟨#[]⟩).cells n ++ Builtin.zeroCells (Value.string ⟨#[]⟩).cells (G - n)) 9)) w.heap.size 9 (.slice (some ⟨w.heap.size, 0, none⟩) 0 G) []) := by
      refine World.ownsRow_made (base := w.heap.size) w.drew _ G (Nat.le_refl _) hG2 ?_
      rw [Array.size_append, zeros_size _ rfl, zeros_size _ rfl]
      omega
    have h1 : 0 < n := by omega
    unfold maxLen at hG2
    clear hG h0
    go_enter Try.func83, Try.ntmps83
    go_wp2_with (at_builtin; go_must (refine Lib.wpList_append_run _ rfl _ _ _ _ rfl _ _ rfl rfl _ _ (hrz _) ?_))
    go_wp2_with fail
    go_ret
    exact ⟨_, rfl, hO.out, (Below.refl _ _).drew.alloc (Nat.le_refl _) _⟩

/-- A slice of texts as the source of an append. -/
theorem texts_src {W : World} {a : Option Addr} {n cap : Nat} {ls : List (List UInt8)} (h : Texts W (.slice a n cap) ls) :
    n = ls.length ∧ (a = none → cap = 0 ∧ ls = []) ∧ (∀ ad, a = some ad → ∀ j u, (ls.map encS)[j]? = some u → W.cell? (ad.add j) = some u) := by
  obtain ⟨a', cap', e, h1, h2, h3, h4⟩ := h
  simp only [Value.slice.injEq] at e
  obtain ⟨rfl, rfl, rfl⟩ := e
  refine ⟨rfl, fun e => ⟨h3 e, List.length_eq_zero_iff.1 (by have := h3 e; omega)⟩, ?_⟩
  rintro ad rfl j u hu
  have hj : j < ls.length := by
    have := (List.getElem?_eq_some_iff.1 hu).1
    simpa using this
  rcases h4 with h | ⟨b, off, e, _, hc⟩
  · rw [h] at hj; simp at hj
  · obtain rfl := Option.some.inj e
    rw [List.getElem?_map, getD_some hj] at hu
    simp only [Option.map_some, Option.some.injEq] at hu
    rw [Addr.add_lit, hc j hj, hu]

set_option maxHeartbeats 1600000 in
set_option maxRecDepth 100000 in
theorem concat_sum {w : World} {va vb : Value} {ls ms : List (List UInt8)} (ha : Texts w va ls) (hb : Texts w vb ms) (hlm : ls.length + ms.length ≤ 1000)
    (B : Nat) (k0 : w.cell? ⟨B, 0, none⟩ = some va) (k1 : w.cell? ⟨B, 1, none⟩ = some vb) :
    Calls Try.prog 68 #[.slice (some ⟨B, 0, none⟩) 2 2] w fun e w' => ∃ v, e = .returned v ∧ OwnT w' w.heap.size 9 v (ls ++ ms) ∧ Below w.heap.size w w' := by
  have hl : ls.length ≤ 1000 := by omega
  have hm : ms.length ≤ 1000 := by omega
  obtain ⟨i0, hi, hz0, hz1, hz2⟩ := info_parts Try.infoStr
  have HA := Lib.hid ha
  have HB := Lib.hid hb
  obtain ⟨a, cap, rfl, _, _, _, _⟩ := ha
  obtain ⟨a2, cap2, rfl, _, _, _, _⟩ := hb
  have HG := Lib.hid (grow_nil (ls.length + ms.length) (by omega))
  have K0 := Lib.hid k0
  have K1 := Lib.hid k1
  have hB := World.block_lt_of_cell? w _ k0
  simp only at hB
  go_enter Try.func68, Try.ntmps68
  go_wp2_with fail
  refine wp_loop_rounds 3 ?_
  rw [rounds_succ]
  go_wp2_with fail
  rw [rounds_succ]
  go_wp2_with fail
  rw [rounds_succ]
  go_wp2_with fail
  refine (HG.out _).mono ?_
  rintro e w1 ⟨v1, rfl, ho1, hb1⟩
  have HO1 := Lib.hid ho1
  have HB1 := Lib.hid hb1
  have k0 := cell_after K0.out hb1
  have k1 := cell_after K1.out hb1
  have hA1 := Lib.hid (texts_src (HA.out.later hb1))
  have hsz1 := hb1.size
  clear hb1 ho1
  go_wp2_with fail
  refine wp_loop_rounds 3 ?_
  rw [rounds_succ]
  go_wp2_with (at_builtin; go_must (refine wpList_append_texts rfl _ _ 38 rfl w.heap.size 9 i0 _ 16 Try.underlying38 hi hz0 hz1 hz2 rfl _ _ rfl (by exact HO1.out) a ls.length cap ls rfl rfl hA1.out.2.1 hA1.out.2.2 (by simp; omega) (by decide) hsz1 ?_))
  intro v2 w2 hown2 hb2
  have HB2 : Hid (Below w.heap.size w w2) := HB1.out.trans hb2
  have hsz2 : w.heap.size ≤ w2.heap.size := HB2.out.size
  have k1 := cell_after K1.out HB2.out
  have hA2 := Lib.hid (texts_src (HB.out.later HB2.out))
  have HO2 := Lib.hid hown2
  clear hb2 hown2 k0
  go_wp2_with fail
  rw [rounds_succ]
  go_wp2_with (at_builtin; go_must (refine wpList_append_texts rfl _ _ 38 rfl w.heap.size 9 i0 _ 16 Try.underlying38 hi hz0 hz1 hz2 rfl _ _ rfl (by exact HO2.out) a2 ms.length cap2 ms rfl rfl hA2.out.2.1 hA2.out.2.2 (by first | omega | (simp; omega)) (by decide) hsz2 ?_))
  intro v3 w3 hown3 hb3
  have HB3 : Hid (Below w.heap.size w w3) := HB2.out.trans hb3
  have HO3 := Lib.hid hown3
  clear hb3 hown3 k1
  go_wp2_with fail
  rw [rounds_succ]
  go_wp2_with fail
  go_ret
  exact ⟨_, rfl, by have := HO3.out; simpa using this, HB3.out⟩

theorem concat_any {w : World} {va vb : Value} {ls ms : List (List UInt8)} (ha : Texts w va ls) (hb : Texts w vb ms) (hl : ls.length ≤ 100) (hm : ms.length ≤ 100)
    (B : Nat) (k0 : w.cell? ⟨B, 0, none⟩ = some va) (k1 : w.cell? ⟨B, 1, none⟩ = some vb) :
    Calls Try.prog 68 #[.slice (some ⟨B, 0, none⟩) 2 2] w fun e w' => ∃ v, e = .returned v ∧ OwnT w' w.heap.size 9 v (ls ++ ms) ∧ Below w.heap.size w w' :=
  concat_sum ha hb (by omega) B k0 k1

end Go.Proofs.Ytlckphdmflofgaa
end

section
/-
  THE CONTRACT OF ident.Merge: the lists as one, sorted, each text once.
-/
namespace Go.Proofs.Ytlckphdmflofgaa
open Go.RowKit Go.Lib Go.Sort

theorem encS_cell : OneCell encS := fun _ => rfl

theorem eql_S : EqlAt Try.prog 9 encS (fun x y => decide (x = y)) :=
  ⟨fun x y w => by rw [show encS x = .string ⟨x.toArray⟩ from rfl, show encS y = .string ⟨y.toArray⟩ from rfl, (EqlAt.string Try.prog 9).1]; by_cases h : x = y <;> simp [h, ByteArray.toList_eq],
   fun op a b x y w => GuardAt.string Try.prog 9 op a b _ _ w⟩

theorem neq_S : NeqAt Try.prog 9 encS (fun x y => decide (x = y)) :=
  ⟨fun x y w => by rw [show encS x = .string ⟨x.toArray⟩ from rfl, show encS y = .string ⟨y.toArray⟩ from rfl, (NeqAt.string Try.prog 9).1]; by_cases h : x = y <;> simp [h, ByteArray.toList_eq],
   fun op a b x y w => GuardAt.string Try.prog 9 op a b _ _ w⟩

theorem compare_lays (blk off size : Nat) (w : World) : CmpLays1 Try.prog 70 #[] encS idCmp blk off size w :=
  fun m os dk _ x y => (compare_any x y (sortWorld encS w blk off m dk os)).mono fun _ _ ⟨he, o, hw⟩ => ⟨he, 0, #[o], by rw [hw, alloc_eq_grow]; rfl⟩

theorem below_grow {B : Nat} {w0 w : World} (h : Below B w0 w) (hB : B ≤ w.heap.size) (os : Array Obj) : Below B w0 (grow w os) :=
  ⟨h.os, h.tape, h.output, by have := h.size; simp only [grow, Array.size_append]; omega, fun k hk => by
    rw [← h.block k hk]
    simp only [grow]
    rw [Array.getElem?_append_left (by omega)]⟩

/-- The row behind the sort. -/
theorem sorted_row {w1 : World} {g n : Nat} {d d' : Array (List UInt8)} {os : Array Obj} (hH : Holds encS w1 g 0 d) (hg : g < w1.heap.size) (hd : d'.size = d.size) :
    Holds encS (sortWorld encS w1 g 0 n d' os) g 0 d' := by
  unfold sortWorld
  refine holds_grow encS _ os g 0 d' ?_ (holds_putRow encS _ g 0 d d' (holds_ahead encS w1 n g 0 d hH) hd)
  simpa [putRow, mapBlock, Sort.ahead] using hg

theorem sorted_below {B : Nat} {w0 w1 : World} {g n : Nat} {d' : Array (List UInt8)} {os : Array Obj} (h : Below B w0 w1) (hB : B ≤ w1.heap.size) (hg : B ≤ g) : Below B w0 (sortWorld encS w1 g 0 n d' os) := by
  unfold sortWorld
  refine below_grow (below_putRow h hg) ?_ os
  simpa [putRow, mapBlock, Sort.ahead] using hB

/-- The row behind Compact. -/
theorem compact_texts {w2 : World} {g q cap : Nat} {d : Array (List UInt8)} (hH : Holds encS w2 g 0 d) (hg : g < w2.heap.size) (hn : d.size ≤ cap) (hc : cap ≤ maxLen) {ls : List (List UInt8)} (hle : ls.length ≤ d.size) :
    Texts (putRow encS (Sort.ahead w2 q) g 0 (ls ++ List.replicate (d.size - ls.length) []).toArray) (.slice (some ⟨g, 0, none⟩) ls.length cap) ls := by
  refine ⟨some ⟨g, 0, none⟩, cap, rfl, by omega, hc, (fun e => by cases e), .inr ⟨g, 0, rfl, ?_, fun i hi => ?_⟩⟩
  · simpa [putRow, mapBlock, Sort.ahead] using hg
  · have h := holds_putRow encS (Sort.ahead w2 q) g 0 d (ls ++ List.replicate (d.size - ls.length) []).toArray (holds_ahead encS w2 q g 0 d hH) (by simp; omega)
    have h1 := (h i (by simp; omega)).1
    rw [h1]
    congr 2
    rw [getElem!_pos _ i (by simp; omega)]
    simp [List.getD, hi]

theorem compact_len (d : Array (List UInt8)) : (compactUpTo d d.size).length ≤ d.size := by
  unfold compactUpTo
  rw [List.length_map]
  exact Nat.le_trans (List.length_filter_le _ _) (by simp)

/-- A slice that lies at 'base' or behind it. -/
def LiesAt (base : Nat) (v : Value) : Prop := ∀ b o n c, v = .slice (some ⟨b, o, none⟩) n c → base ≤ b

theorem ownT_lies {w : World} {base e : Nat} {v : Value} {ls : List (List UInt8)} (h : OwnT w base e v ls) : LiesAt base v := by
  rintro b o n c rfl
  exact (World.ownsRow.lt h b rfl).1

set_option maxHeartbeats 1600000 in
set_option maxRecDepth 100000 in
theorem merge_at {w : World} {va vb : Value} {ls ms : List (List UInt8)} (ha : Texts w va ls) (hb : Texts w vb ms) (hl : ls.length ≤ 100) (hm : ms.length ≤ 100) :
    Calls Try.prog 51 #[va, vb] w fun e w' => ∃ v, e = .returned v ∧ Texts w' v (mrg (ls ++ ms)) ∧ LiesAt w.heap.size v ∧ Below w.heap.size w w' := by
  have eg : ∀ args w, (callFunc 70 args).run Try.prog w = .ok (.enter 70 args) w := enters_of Try.func70 (by kernel_rfl) rfl
  have hB0 : Below w.heap.size w (w.alloc (.cells #[va, vb] 38)) := (Below.refl _ _).alloc (Nat.le_refl _) _
  have HC := Lib.hid (concat_any (ha.later hB0) (hb.later hB0) hl hm w.heap.size (by simp) (by simp))
  have HB0 := Lib.hid hB0
  obtain ⟨a, cap, rfl, _, _, _, _⟩ := ha
  obtain ⟨a2, cap2, rfl, _, _, _, _⟩ := hb
  clear hB0
  go_enter Try.func51, Try.ntmps51
  go_wp2_with fail
  refine HC.out.mono ?_
  rintro e w1 ⟨v1, rfl, ho1, hb1⟩
  have HB1 := Lib.hid (below2' HB0.out hb1)
  have hsz1 : w.heap.size + 1 ≤ w1.heap.size := by have := hb1.size; simpa using this
  have HO1 := Lib.hid ho1
  clear hb1 ho1 HC HB0
  by_cases h0 : ls ++ ms = []
  · have hr : Hid (mrg (ls ++ ms) = []) := by show _ = _; rw [h0]; rfl
    obtain ⟨p, c, rfl, _⟩ : ∃ p c, v1 = .slice p 0 c ∧ True := by
      obtain ⟨p, c, e, _⟩ := HO1.out.texts
      rw [h0] at e
      exact ⟨p, c, e, trivial⟩
    have HT := Lib.hid HO1.out.texts
    have HLi := Lib.hid (ownT_lies HO1.out)
    have HS := Lib.hid (Try.slices_SortFunc_none (α := List UInt8) p c (.func (.func 70) #[] #[]) w1)
    have HK := Lib.hid (Try.slices_Compact_string_empty p c w1)
    have H0 := Lib.hid h0
    clear h0
    go_wp2_with fail
    refine HS.out.mono ?_
    rintro e w' ⟨rfl, rfl⟩
    go_wp2_with fail
    refine HK.out.mono ?_
    rintro e w' ⟨rfl, rfl⟩
    go_wp2_with fail
    go_ret
    exact ⟨_, rfl, by rw [hr.out]; have := HT.out; rw [H0.out] at this; exact this, fun b o n c e => Nat.le_trans (by simp) (HLi.out b o n c e), HB1.out⟩
  · have hv : v1 ≠ .slice none 0 0 := by
      intro e
      obtain ⟨p, c, e', _⟩ := HO1.out.texts
      rw [e'] at e
      simp only [Value.slice.injEq] at e
      exact h0 (List.length_eq_zero_iff.1 e.2.1)
    obtain ⟨g, c, rfl, hg1, hg2, hn, hc, _, hH⟩ := holds_of_ownsRow (zs := ls ++ ms) (HO1.out : World.ownsRow _ _ _ _ _ _ _) hv
    have hg1' : w.heap.size + 1 ≤ g := by simpa using hg1
    have HS := Lib.hid (Try.slices_SortFunc_total encS (fun _ => rfl) idCmp idSWO 70 #[] g 0 c (ls ++ ms).toArray w1 eg (compare_lays g 0 _ w1) hH hg2 (by simp; omega) idTot)
    have hlen : (ls ++ ms).length = ls.length + ms.length := List.length_append
    simp only [List.size_toArray, hlen] at HS
    have HH := Lib.hid hH
    rw [hlen] at hn
    clear eg hH hg1 hv h0 hlen
    go_wp2_with fail
    refine HS.out.mono ?_
    rintro e w2 ⟨rfl, nn, os, hw2⟩
    have hDl : Hid (Holds encS w2 g 0 ((ls ++ ms).mergeSort fun x y => !(ltOf idCmp) y x).toArray) := by
      show Holds _ _ _ _ _
      rw [hw2]
      exact sorted_row HH.out hg2 (by simp)
    have HB2 : Hid (Below w.heap.size w w2) := by
      show Below _ _ _
      rw [hw2]
      exact sorted_below HB1.out (by omega) (by omega)
    have hg3 : Hid (g < w2.heap.size) := by
      show g < _
      rw [hw2]
      simp only [sortWorld, grow, Array.size_append, putRow, mapBlock, Array.size_modify, Sort.ahead]
      omega
    have hsl : ((ls ++ ms).mergeSort fun x y => !(ltOf idCmp) y x).length = ls.length + ms.length := by simp
    obtain ⟨d, hd⟩ : ∃ d, d = ((ls ++ ms).mergeSort fun x y => !(ltOf idCmp) y x).toArray := ⟨_, rfl⟩
    have hds : d.size = ls.length + ms.length := by rw [hd]; simp
    have HM : Hid (compactUpTo d d.size = mrg (ls ++ ms)) := by show _ = _; rw [hd]; exact sort_compact _
    rw [← hd] at hDl
    have HK := Lib.hid (Try.slices_Compact encS encS_cell eql_S neq_S [] (fun _ => by kernel_rfl) g 0 c d w2 hDl.out (by omega) (by omega))
    have hcl := compact_len d
    rw [HM.out] at HK hcl
    rw [hds] at HK
    have HT : Hid (∀ q, Texts (putRow encS (Sort.ahead w2 q) g 0 (mrg (ls ++ ms) ++ List.replicate (d.size - (mrg (ls ++ ms)).length) []).toArray) (.slice (some ⟨g, 0, none⟩) (mrg (ls ++ ms)).length c) (mrg (ls ++ ms))) :=
      fun q => compact_texts hDl.out hg3.out (by omega) hc hcl
    rw [hds] at HT
    clear hw2 hd hds hsl HM HS hDl hcl HH
    obtain ⟨r, hr⟩ : ∃ r, mrg (ls ++ ms) = r := ⟨_, rfl⟩
    rw [hr] at HK HT
    have HR := Lib.hid hr
    clear hr
    go_wp2_with fail
    refine HK.out.mono ?_
    rintro e w3 ⟨rfl, q, hw3⟩
    have HT3 := HT.out q
    rw [← hw3] at HT3
    have HB3 : Hid (Below w.heap.size w w3) := by
      show Below _ _ _
      rw [hw3]
      exact below_putRow HB2.out (by omega)
    have HT3' := Lib.hid HT3
    clear hw3 HT3 HK HT
    go_wp2_with fail
    go_ret
    exact ⟨_, rfl, by rw [HR.out]; exact HT3'.out, fun b o n c e => (by injection e with e _ _; injection e with e; injection e with e _ _; omega), HB3.out⟩

end Go.Proofs.Ytlckphdmflofgaa
end

section
/-
  LAYER 13, THE CODE: who stands across from a user.
-/
namespace Go.Proofs.Ytlckphdmflofgaa
open Go.RowKit Go.ChangeMaps Go.MapKept

/-- Those across from a user in the first k of its list. -/
def otT (l : List Pr) (s : Bool) (k : Nat) : List (List UInt8) := (l.take k).map (pcOf (!s))

theorem otT_next {l : List Pr} {k : Nat} (hk : k < l.length) (s : Bool) {p : Pr} (hp : l.getD k ([], []) = p) : otT l s (k + 1) = otT l s k ++ [pcOf (!s) p] := by
  have e : l[k] = p := by rw [← hp, List.getD_eq_getElem?_getD, List.getElem?_eq_getElem hk]; rfl
  unfold otT
  rw [List.take_succ_eq_append_getElem hk, e, List.map_append]
  rfl

theorem otT_len (l : List Pr) (s : Bool) (k : Nat) : (otT l s k).length ≤ l.length := by
  unfold otT
  rw [List.length_map, List.length_take]
  omega

theorem otT_end {x : Ix} {L : List Pr} (h : IxHas x L) (s : Bool) (u : List UInt8) : mrg (otT (x.S s u) s (x.S s u).length ++ []) = ixSide L s u := by
  unfold otT
  rw [List.take_length, List.append_nil, side_of h]

set_option maxHeartbeats 3200000 in
set_option maxRecDepth 100000 in
theorem ixothers_w {w : World} {base xb N : Nat} {L : List Pr} {x : Ix} {mp m0 m1 : Nat} {f : Bool → List UInt8 → Option IxSl} (h : IxAt w base xb N L x mp m0 m1 f) (u : List UInt8) (hu : u.length ≤ 4294967296) (hl : (x.S false u).length ≤ 100) :
    Calls Try.prog 31 #[.pointer (some ⟨xb, 0, none⟩), .int .i64 0, .string ⟨u.toArray⟩] w fun e w' => ∃ v, e = .returned v ∧ Texts w' v (ixSide L false u) ∧ LiesAt w.heap.size v ∧ Below w.heap.size w w' := by
  obtain ⟨i0, hi, hz0, hz1, hz2⟩ := info_parts ix_infoTxt
  obtain ⟨c0, c1, c2⟩ := h.cells
  have hlook := (h.side false).look u hu
  have HE := Lib.hid (otT_end h.has false u)
  have hv := (h.list false u).rd prOK
  generalize hl0 : x.S false u = l at hv HE hl
  obtain ⟨a, cap, hsl, hll⟩ := hv.open'
  rw [hsl] at hlook hv
  simp only [sdOf, Bool.false_eq_true, if_false] at hlook
  have HV := Lib.hid hv
  clear h hv hsl
  go_enter Try.func31, Try.ntmps31
  go_wp2_with fail
  go_loopw [7, 21] (fun s i wr => ∃ k : Nat, k ≤ l.length ∧ i = .int .i64 k ∧ Hid (OwnT wr w.heap.size 9 s (otT l false k)) ∧ Hid (Below w.heap.size w wr)) (fun _ i _ => l.length - (intOf i).toNat)
  case atStart => exact ⟨0, by omega, rfl, World.ownsRow_nil _ _ _ _, Below.refl _ _⟩
  case round =>
    obtain ⟨k, hk, rfl, HO, HN⟩ := hrel
    by_cases hlt : k < l.length
    · obtain ⟨b, off, rfl, hc⟩ := HV.out.row HN.out k hlt
      have hX := fun p e => otT_next (p := p) hlt false e
      obtain ⟨y, hy⟩ : ∃ y, l.getD k ([], []) = y := ⟨_, rfl⟩
      rw [hy] at hc
      have hX := hX _ hy
      clear hy
      obtain ⟨y1, y2⟩ := y
      have x0 : wr.cell? ⟨b, off + k * 2, none⟩ = some (.string ⟨y1.toArray⟩) := hc 0 _ rfl
      have x1 : wr.cell? ⟨b, off + k * 2 + 1, none⟩ = some (.string ⟨y2.toArray⟩) := hc 1 _ rfl
      clear hc
      have hX : otT l false (k + 1) = otT l false k ++ [y2] := hX
      have HX := Lib.hid hX
      have hcl : (otT l false k).length ≤ 100 := Nat.le_trans (otT_len l false k) hl
      clear hX
      go_upto_region 7 with fail
      have hb1 := (MapKept.heap_alloc wr (.cells #[.string ⟨y1.toArray⟩, .string ⟨y2.toArray⟩] 57)).1
      have HO1 := Lib.hid (HO.out.alloc (.cells #[.string ⟨y1.toArray⟩, .string ⟨y2.toArray⟩] 57))
      have HN1 := Lib.hid (HN.out.alloc HN.out.size (.cells #[.string ⟨y1.toArray⟩, .string ⟨y2.toArray⟩] 57))
      clear x0 x1 HO
      generalize wr.alloc (.cells #[.string ⟨y1.toArray⟩, .string ⟨y2.toArray⟩] 57) = w1 at hb1 HO1 HN1 ⊢
      generalize wr.heap.size = pb at hb1 ⊢
      have z0 : w1.cell? ⟨pb, 0, none⟩ = some (.string ⟨y1.toArray⟩) := by simp [World.cell?, hb1]
      have z1 : w1.cell? ⟨pb, 1, none⟩ = some (.string ⟨y2.toArray⟩) := by simp [World.cell?, hb1]
      have O2 := Lib.hid (HO1.out.alloc (.cells #[.string ⟨y2.toArray⟩] 9))
      have N2 := Lib.hid (HN1.out.alloc HN1.out.size (.cells #[.string ⟨y2.toArray⟩] 9))
      have hz3 := N2.out.size
      clear hb1 HO1 HN
      go_wp2_with (at_builtin; go_must (refine wpList_append_texts rfl _ _ 38 rfl w.heap.size 9 i0 _ 16 Try.underlying38 hi hz0 hz1 hz2 rfl _ (otT l false k) rfl (by exact O2.out) _ 1 1 [y2] rfl rfl (fun e => nomatch e) ?c1 (by simp only [List.length_cons, List.length_nil]; omega) (by decide) hz3 ?_))
      case c1 => exact ix_new1
      intro v' w' hown' hb'
      rw [← HX.out] at hown'
      have O3 := Lib.hid hown'
      have N4 := Lib.hid (N2.out.trans hb')
      clear hown' hb' O2 z0 z1
      go_wp2_with fail
      go_roundw
      case rel => exact ⟨k + 1, by omega, by go_num, O3, N4⟩
      case measure => simp [intOf]; omega
    · obtain rfl : k = l.length := by omega
      have HT := HO
      have hlen : (otT l false l.length).length ≤ 100 := Nat.le_trans (otT_len l false _) hl
      clear HO
      go_wp2_with fail
      refine (merge_at HT.out.texts (texts_nil _) hlen (by simp)).mono ?_
      rintro e w1 ⟨v, rfl, ht1, hli, b1⟩
      rw [HE.out] at ht1
      have N3 := Lib.hid (below2Z HN.out b1)
      have HT1 := Lib.hid ht1
      have HLi : Hid (LiesAt w.heap.size v) := fun b o n c e => Nat.le_trans HN.out.size (hli b o n c e)
      clear b1 ht1 hli
      go_wp2_with fail
      go_ret
      exact ⟨_, rfl, HT1.out, HLi.out, N3.out⟩

set_option maxHeartbeats 3200000 in
set_option maxRecDepth 100000 in
theorem ixothers_c {w : World} {base xb N : Nat} {L : List Pr} {x : Ix} {mp m0 m1 : Nat} {f : Bool → List UInt8 → Option IxSl} (h : IxAt w base xb N L x mp m0 m1 f) (u : List UInt8) (hu : u.length ≤ 4294967296) (hl : (x.S true u).length ≤ 100) :
    Calls Try.prog 31 #[.pointer (some ⟨xb, 0, none⟩), .int .i64 1, .string ⟨u.toArray⟩] w fun e w' => ∃ v, e = .returned v ∧ Texts w' v (ixSide L true u) ∧ LiesAt w.heap.size v ∧ Below w.heap.size w w' := by
  obtain ⟨i0, hi, hz0, hz1, hz2⟩ := info_parts ix_infoTxt
  obtain ⟨c0, c1, c2⟩ := h.cells
  have hlook := (h.side true).look u hu
  have HE := Lib.hid (otT_end h.has true u)
  have hv := (h.list true u).rd prOK
  generalize hl0 : x.S true u = l at hv HE hl
  obtain ⟨a, cap, hsl, hll⟩ := hv.open'
  rw [hsl] at hlook hv
  simp only [sdOf, if_true] at hlook
  have HV := Lib.hid hv
  clear h hv hsl
  go_enter Try.func31, Try.ntmps31
  go_wp2_with fail
  go_loopw [7, 21] (fun s i wr => ∃ k : Nat, k ≤ l.length ∧ i = .int .i64 k ∧ Hid (OwnT wr w.heap.size 9 s (otT l true k)) ∧ Hid (Below w.heap.size w wr)) (fun _ i _ => l.length - (intOf i).toNat)
  case atStart => exact ⟨0, by omega, rfl, World.ownsRow_nil _ _ _ _, Below.refl _ _⟩
  case round =>
    obtain ⟨k, hk, rfl, HO, HN⟩ := hrel
    by_cases hlt : k < l.length
    · obtain ⟨b, off, rfl, hc⟩ := HV.out.row HN.out k hlt
      have hX := fun p e => otT_next (p := p) hlt true e
      obtain ⟨y, hy⟩ : ∃ y, l.getD k ([], []) = y := ⟨_, rfl⟩
      rw [hy] at hc
      have hX := hX _ hy
      clear hy
      obtain ⟨y1, y2⟩ := y
      have x0 : wr.cell? ⟨b, off + k * 2, none⟩ = some (.string ⟨y1.toArray⟩) := hc 0 _ rfl
      have x1 : wr.cell? ⟨b, off + k * 2 + 1, none⟩ = some (.string ⟨y2.toArray⟩) := hc 1 _ rfl
      clear hc
      have hX : otT l true (k + 1) = otT l true k ++ [y1] := hX
      have HX := Lib.hid hX
      have hcl : (otT l true k).length ≤ 100 := Nat.le_trans (otT_len l true k) hl
      clear hX
      go_upto_region 7 with fail
      have hb1 := (MapKept.heap_alloc wr (.cells #[.string ⟨y1.toArray⟩, .string ⟨y2.toArray⟩] 57)).1
      have HO1 := Lib.hid (HO.out.alloc (.cells #[.string ⟨y1.toArray⟩, .string ⟨y2.toArray⟩] 57))
      have HN1 := Lib.hid (HN.out.alloc HN.out.size (.cells #[.string ⟨y1.toArray⟩, .string ⟨y2.toArray⟩] 57))
      clear x0 x1 HO
      generalize wr.alloc (.cells #[.string ⟨y1.toArray⟩, .string ⟨y2.toArray⟩] 57) = w1 at hb1 HO1 HN1 ⊢
      generalize wr.heap.size = pb at hb1 ⊢
      have z0 : w1.cell? ⟨pb, 0, none⟩ = some (.string ⟨y1.toArray⟩) := by simp [World.cell?, hb1]
      have z1 : w1.cell? ⟨pb, 1, none⟩ = some (.string ⟨y2.toArray⟩) := by simp [World.cell?, hb1]
      have O2 := Lib.hid (HO1.out.alloc (.cells #[.string ⟨y1.toArray⟩] 9))
      have N2 := Lib.hid (HN1.out.alloc HN1.out.size (.cells #[.string ⟨y1.toArray⟩] 9))
      have hz3 := N2.out.size
      clear hb1 HO1 HN
      go_wp2_with (at_builtin; go_must (refine wpList_append_texts rfl _ _ 38 rfl w.heap.size 9 i0 _ 16 Try.underlying38 hi hz0 hz1 hz2 rfl _ (otT l true k) rfl (by exact O2.out) _ 1 1 [y1] rfl rfl (fun e => nomatch e) ?c1 (by simp only [List.length_cons, List.length_nil]; omega) (by decide) hz3 ?_))
      case c1 => exact ix_new1
      intro v' w' hown' hb'
      rw [← HX.out] at hown'
      have O3 := Lib.hid hown'
      have N4 := Lib.hid (N2.out.trans hb')
      clear hown' hb' O2 z0 z1
      go_wp2_with fail
      go_roundw
      case rel => exact ⟨k + 1, by omega, by go_num, O3, N4⟩
      case measure => simp [intOf]; omega
    · obtain rfl : k = l.length := by omega
      have HT := HO
      have hlen : (otT l true l.length).length ≤ 100 := Nat.le_trans (otT_len l true _) hl
      clear HO
      go_wp2_with fail
      refine (merge_at HT.out.texts (texts_nil _) hlen (by simp)).mono ?_
      rintro e w1 ⟨v, rfl, ht1, hli, b1⟩
      rw [HE.out] at ht1
      have N3 := Lib.hid (below2Z HN.out b1)
      have HT1 := Lib.hid ht1
      have HLi : Hid (LiesAt w.heap.size v) := fun b o n c e => Nat.le_trans HN.out.size (hli b o n c e)
      clear b1 ht1 hli
      go_wp2_with fail
      go_ret
      exact ⟨_, rfl, HT1.out, HLi.out, N3.out⟩

theorem ixwatch_any {w : World} {base xb N : Nat} {L : List Pr} {x : Ix} {mp m0 m1 : Nat} {f : Bool → List UInt8 → Option IxSl} (h : IxAt w base xb N L x mp m0 m1 f) (u : List UInt8) (hu : u.length ≤ 4294967296) (hl : (x.S true u).length ≤ 100) :
    Calls Try.prog 20 #[.pointer (some ⟨xb, 0, none⟩), .string ⟨u.toArray⟩] w fun e w' => ∃ v, e = .returned v ∧ Texts w' v (ixSide L true u) ∧ LiesAt w.heap.size v ∧ Below w.heap.size w w' := by
  have H := Lib.hid (ixothers_c h u hu hl)
  clear h
  go_enter Try.func20, Try.ntmps20
  go_wp2_with fail
  refine H.out.mono ?_
  rintro e w1 ⟨v, rfl, ht1, hli, b1⟩
  go_wp2_with fail
  go_ret
  exact ⟨_, rfl, ht1, hli, b1⟩

theorem ixcont_any {w : World} {base xb N : Nat} {L : List Pr} {x : Ix} {mp m0 m1 : Nat} {f : Bool → List UInt8 → Option IxSl} (h : IxAt w base xb N L x mp m0 m1 f) (u : List UInt8) (hu : u.length ≤ 4294967296) (hl : (x.S false u).length ≤ 100) :
    Calls Try.prog 22 #[.pointer (some ⟨xb, 0, none⟩), .string ⟨u.toArray⟩] w fun e w' => ∃ v, e = .returned v ∧ Texts w' v (ixSide L false u) ∧ LiesAt w.heap.size v ∧ Below w.heap.size w w' := by
  have H := Lib.hid (ixothers_w h u hu hl)
  clear h
  go_enter Try.func22, Try.ntmps22
  go_wp2_with fail
  refine H.out.mono ?_
  rintro e w1 ⟨v, rfl, ht1, hli, b1⟩
  go_wp2_with fail
  go_ret
  exact ⟨_, rfl, ht1, hli, b1⟩

end Go.Proofs.Ytlckphdmflofgaa
end

section
/-
  AN INDEX, AS THE STATEMENTS OF LAYER 13 MEET IT: its pairs, its blocks, and how often it may still be turned.
-/
namespace Go.Proofs.Ytlckphdmflofgaa
open Go.RowKit Go.ChangeMaps Go.MapKept

/-- Block xb is an Index of the pairs L; F are its blocks. -/
def IxB (w : World) (base xb K : Nat) (L : List Pr) (F : Nat → Prop) : Prop :=
  ∃ N x mp m0 m1 f, IxAt w base xb N L x mp m0 m1 f ∧ N + 8 * L.length ≤ K ∧ F = IxFoot xb mp m0 m1 f

variable {w w' : World} {base xb K : Nat} {L : List Pr} {F G G' : Nat → Prop}

theorem IxB.lt (h : IxB w base xb K L F) {b : Nat} (hb : F b) : b < w.heap.size := by
  obtain ⟨N, x, mp, m0, m1, f, h1, -, rfl⟩ := h
  exact Nat.lt_of_not_le fun hle => h1.raw.far hle hb

theorem IxB.low (h : IxB w base xb K L F) {b : Nat} (hb : F b) : base ≤ b := by
  obtain ⟨N, x, mp, m0, m1, f, h1, -, rfl⟩ := h
  exact h1.raw.foot_low hb

theorem IxB.stay (h : IxB w base xb K L F) (hk : ∀ b, F b → w'.heap[b]? = w.heap[b]?) : IxB w' base xb K L F := by
  obtain ⟨N, x, mp, m0, m1, f, h1, h2, rfl⟩ := h
  exact ⟨N, x, mp, m0, m1, f, (h1.raw.stay hk).at rfl h1.has h1.short, h2, rfl⟩

theorem IxB.later (h : IxB w base xb K L F) (hb : Below w.heap.size w w') : IxB w' base xb K L F := h.stay fun b hf => hb.block b (h.lt hf)

/-- Another one was turned. -/
theorem IxB.beside (h : IxB w base xb K L F) (ht : Turned w w' G G') (hd : ∀ b, F b → ¬ G b) : IxB w' base xb K L F := h.stay fun b hf => ht.2.1 b (h.lt hf) (hd b hf)

theorem IxB.more {M : Nat} (h : IxB w base xb K L F) (hm : K ≤ M) : IxB w base xb M L F := by
  obtain ⟨N, x, mp, m0, m1, f, h1, h2, rfl⟩ := h
  exact ⟨N, x, mp, m0, m1, f, h1, by omega, rfl⟩

theorem IxB.nd (h : IxB w base xb K L F) : L.Nodup := by
  obtain ⟨N, x, mp, m0, m1, f, h1, h2, rfl⟩ := h
  exact h1.has.nd

theorem IxB.short (h : IxB w base xb K L F) : ∀ p ∈ L, p.1.length ≤ 60 ∧ p.2.length ≤ 60 := by
  obtain ⟨N, x, mp, m0, m1, f, h1, h2, rfl⟩ := h
  exact h1.short

theorem ixb_new (w : World) : Calls Try.prog 11 #[] w fun e w' => ∃ xb F, e = .returned (.pointer (some ⟨xb, 0, none⟩)) ∧ IxB w' w.heap.size xb 0 [] F ∧ Below w.heap.size w w' :=
  (ixnew_any w 0).mono fun _ _ ⟨xb, h1, h2, h3⟩ => ⟨xb, _, h1, ⟨0, _, _, _, _, _, h2, by simp, rfl⟩, h3⟩

theorem ixb_set (h : IxB w base xb K L F) (hK : K ≤ 99000) (u v : List UInt8) (hu : u.length ≤ 60) (hv : v.length ≤ 60) (hl : L.length ≤ 1000) (on : Bool) {L' : List Pr} {r : Bool} (hs : ixSet L (u, v) on = (L', r)) :
    Calls Try.prog 12 #[.pointer (some ⟨xb, 0, none⟩), .string ⟨u.toArray⟩, .string ⟨v.toArray⟩, .bool on] w fun e w' =>
      ∃ F', e = .returned (.bool r) ∧ IxB w' base xb (K + 12) L' F' ∧ Below base w w' ∧ Turned w w' F F' := by
  obtain ⟨N, x, mp, m0, m1, f, h1, h2, rfl⟩ := h
  refine (ixset_any h1 (by omega) u v hu hv hl on hs).mono ?_
  rintro e w' ⟨x', f', he, h3, h4, h5⟩
  refine ⟨_, he, ⟨_, x', mp, m0, m1, f', h3, ?_, rfl⟩, h4, h5⟩
  have hlen : L'.length ≤ L.length + 1 := by
    have := congrArg Prod.fst hs
    unfold ixSet at this
    subst this
    split
    · simp
    · split
      · simp
      · exact Nat.le_succ_of_le (List.length_filter_le _ _)
  omega

theorem ixb_forget (h : IxB w base xb K L F) (hK : K ≤ 99000) (u : List UInt8) (hu : u.length ≤ 60) (hl : L.length ≤ 1000) :
    Calls Try.prog 16 #[.pointer (some ⟨xb, 0, none⟩), .string ⟨u.toArray⟩] w fun e w' =>
      ∃ F', e = .returned (.int .i64 ((L.length : Int) - (ixForget L u).length)) ∧ IxB w' base xb K (ixForget L u) F' ∧ Below base w w' ∧ Turned w w' F F' := by
  obtain ⟨N, x, mp, m0, m1, f, h1, h2, rfl⟩ := h
  refine (ixforget_any h1 (by omega) hl u hu).mono ?_
  rintro e w' ⟨M, x', f', he, hM, h3, h4, h5⟩
  refine ⟨_, he, ⟨_, x', mp, m0, m1, f', h3, ?_, rfl⟩, h4, h5⟩
  have : (ixForget L u).length ≤ L.length := List.length_filter_le _ _
  omega

theorem ixb_has (h : IxB w base xb K L F) (u v : List UInt8) (hu : u.length ≤ 60) (hv : v.length ≤ 60) {q : Bool} (hq : ixHas L (u, v) = q) :
    Calls Try.prog 14 #[.pointer (some ⟨xb, 0, none⟩), .string ⟨u.toArray⟩, .string ⟨v.toArray⟩] w fun e w' => e = .returned (.bool q) ∧ Below w.heap.size w w' := by
  obtain ⟨N, x, mp, m0, m1, f, h1, h2, rfl⟩ := h
  exact ixhas_any h1 u v (by omega) (by omega) hq

theorem ixb_len (h : IxB w base xb K L F) : Calls Try.prog 18 #[.pointer (some ⟨xb, 0, none⟩)] w fun e w' => e = .returned (.int .i64 L.length) ∧ w = w' := by
  obtain ⟨N, x, mp, m0, m1, f, h1, h2, rfl⟩ := h
  exact ixlen_any h1

theorem ixb_watch (h : IxB w base xb K L F) (u : List UInt8) (hu : u.length ≤ 60) (hl : L.length ≤ 100) {ls : List (List UInt8)} (hs : ixSide L true u = ls) :
    Calls Try.prog 20 #[.pointer (some ⟨xb, 0, none⟩), .string ⟨u.toArray⟩] w fun e w' => ∃ v, e = .returned v ∧ (Texts w' v ls ∧ LiesAt w.heap.size v) ∧ Below w.heap.size w w' := by
  obtain ⟨N, x, mp, m0, m1, f, h1, h2, rfl⟩ := h
  refine (ixwatch_any h1 u (by omega) (Nat.le_trans (side_len h1.has true u) hl)).mono ?_
  rintro e w' ⟨v, he, h3, h4, h5⟩
  rw [hs] at h3
  exact ⟨v, he, ⟨h3, h4⟩, h5⟩

theorem ixb_cont (h : IxB w base xb K L F) (u : List UInt8) (hu : u.length ≤ 60) (hl : L.length ≤ 100) {ls : List (List UInt8)} (hs : ixSide L false u = ls) :
    Calls Try.prog 22 #[.pointer (some ⟨xb, 0, none⟩), .string ⟨u.toArray⟩] w fun e w' => ∃ v, e = .returned v ∧ (Texts w' v ls ∧ LiesAt w.heap.size v) ∧ Below w.heap.size w w' := by
  obtain ⟨N, x, mp, m0, m1, f, h1, h2, rfl⟩ := h
  refine (ixcont_any h1 u (by omega) (Nat.le_trans (side_len h1.has false u) hl)).mono ?_
  rintro e w' ⟨v, he, h3, h4, h5⟩
  rw [hs] at h3
  exact ⟨v, he, ⟨h3, h4⟩, h5⟩

end Go.Proofs.Ytlckphdmflofgaa
end

section
/-
  THE CONTRACTS OF ident.Is (with isLetter, isInner), Put, Take AND OF THE DOCUMENT'S ANSWERS TO THEM.
-/
namespace Go.Proofs.Ytlckphdmflofgaa
open Go.RowKit

def runeLc (r : Int) : Bool := decide (97 ≤ r) && decide (r ≤ 122)
def runeIn (r : Int) : Bool := (decide (48 ≤ r) && decide (r ≤ 57)) || decide (r = 45)

set_option maxHeartbeats 400000 in
set_option maxRecDepth 100000 in
theorem letter_eq (r : Int) {b : Bool} (h : Hid (runeLc r = b)) (w : World) :
    Calls Try.prog 55 #[.int .i32 r] w fun e w' => e = .returned (.bool b) ∧ w = w' := by
  have h' := h.out
  unfold runeLc at h'
  clear h
  by_cases h1 : 97 ≤ r
  · by_cases h2 : r ≤ 122
    · obtain rfl : b = true := by rw [← h']; simp [h1, h2]
      clear h'
      go_enter Try.func55, Try.ntmps55
      go_wp2_with fail
      go_ret
      exact ⟨by first | rfl | simp_all, rfl⟩
    · obtain rfl : b = false := by rw [← h']; simp [h2]
      have h3 : 122 < r := by omega
      clear h' h2
      go_enter Try.func55, Try.ntmps55
      go_wp2_with fail
      go_ret
      exact ⟨by first | rfl | simp_all, rfl⟩
  · obtain rfl : b = false := by rw [← h']; simp [h1]
    have h3 : r < 97 := by omega
    clear h' h1
    go_enter Try.func55, Try.ntmps55
    go_wp2_with fail
    go_ret
    exact ⟨by first | rfl | simp_all, rfl⟩

set_option maxHeartbeats 400000 in
set_option maxRecDepth 100000 in
theorem inner_eq (r : Int) {b : Bool} (h : Hid (runeIn r = b)) (w : World) :
    Calls Try.prog 56 #[.int .i32 r] w fun e w' => e = .returned (.bool b) ∧ w = w' := by
  have h' := h.out
  unfold runeIn at h'
  clear h
  by_cases h0 : r = 45
  · subst h0
    obtain rfl : b = true := by rw [← h']; decide
    clear h'
    go_enter Try.func56, Try.ntmps56
    go_wp2_with fail
    go_ret
    exact ⟨rfl, rfl⟩
  · have t0 : (r == 45) = false := by simpa using h0
    by_cases h1 : 48 ≤ r
    · by_cases h2 : r ≤ 57
      · obtain rfl : b = true := by rw [← h']; simp [h1, h2]
        clear h' h0
        go_enter Try.func56, Try.ntmps56
        go_wp2_with fail
        go_ret
        exact ⟨rfl, rfl⟩
      · obtain rfl : b = false := by rw [← h']; simp [h2, h0]
        have h3 : decide (r ≤ 57) = false := by simp; omega
        clear h' h2 h0
        go_enter Try.func56, Try.ntmps56
        go_wp2_with fail
        go_ret
        exact ⟨rfl, rfl⟩
    · obtain rfl : b = false := by rw [← h']; simp [h1, h0]
      have h3 : r < 48 := by omega
      clear h' h1 h0
      go_enter Try.func56, Try.ntmps56
      go_wp2_with fail
      go_ret
      exact ⟨rfl, rfl⟩

theorem runeLc_byte (b : UInt8) : runeLc (b.toNat : Int) = lcOk b := by
  unfold runeLc lcOk
  rw [Bool.eq_iff_iff]
  simp
  omega

theorem runeIn_byte (b : UInt8) : runeIn (b.toNat : Int) = dgOk b := by
  unfold runeIn dgOk
  rw [Bool.eq_iff_iff]
  simp
  omega

theorem rune_high {r : Nat} (h : 128 ≤ r) : runeLc (r : Int) = false ∧ runeIn (r : Int) = false := by
  unfold runeLc runeIn
  constructor
  · rw [Bool.eq_false_iff]; simp; omega
  · rw [Bool.eq_false_iff]; simp; omega

theorem all_succ {l : List UInt8} {k : Nat} {b : UInt8} (hb : l[k]? = some b) (p : UInt8 → Bool) : (l.take (k + 1)).all p = ((l.take k).all p && p b) := by
  obtain ⟨h1, h2⟩ := List.getElem?_eq_some_iff.1 hb
  rw [List.take_succ_eq_append_getElem h1, h2, List.all_append]
  simp

theorem idIs_bad {l : List UInt8} {k : Nat} {b : UInt8} (hb : l[k]? = some b) (h : inOk b = false) : idIs l = false := by
  rw [Bool.eq_false_iff]
  intro h'
  have := List.all_eq_true.1 (idIs_parts h').2.2.2 b (List.mem_of_getElem? hb)
  rw [h] at this
  cases this

theorem idIs_first {l : List UInt8} {b : UInt8} (hb : l[0]? = some b) (h : lcOk b = false) : idIs l = false := by
  rw [Bool.eq_false_iff]
  intro h'
  have := (idIs_parts h').2.2.1
  rw [List.getD, hb] at this
  simp [h] at this

set_option maxHeartbeats 1600000 in
set_option maxRecDepth 100000 in
theorem is_any (l : List UInt8) (hl : l.length ≤ 4294967296) (w : World) :
    Calls Try.prog 35 #[.string ⟨l.toArray⟩] w fun e w' => e = .returned (.bool (idIs l)) ∧ Below w.heap.size w w' := by
  by_cases h0 : l = []
  · subst h0
    go_enter Try.func35, Try.ntmps35
    go_wp2_with fail
    go_ret
    exact ⟨rfl, Below.refl _ _⟩
  · have t0 : (l == []) = false := by simpa using h0
    have hpos : 1 ≤ l.length := by
      rcases l with _ | ⟨_, _⟩
      · exact absurd rfl h0
      · simp
    by_cases h16 : 16 < l.length
    · have HR := Lib.hid (idIs_long h16)
      have H0 := Lib.hid h0
      clear h0
      go_enter Try.func35, Try.ntmps35
      go_wp2_with fail
      go_ret
      exact ⟨by rw [HR.out]; rfl, Below.refl _ _⟩
    · have H0 := Lib.hid h0
      clear h0
      go_enter Try.func35, Try.ntmps35
      go_wp2_with fail
      go_loopw [] (fun wr => ∃ pos : Nat, pos ≤ l.length ∧ Hid (wr.heap[w.heap.size]? = some (.stringIter ⟨l.toArray⟩ pos)) ∧ Below w.heap.size w wr ∧ Hid (pos = 0 ∨ lcOk (l.getD 0 0) = true) ∧ Hid ((l.take pos).all inOk = true)) (fun wr => l.length - wr.iterPos w.heap.size)
      case atStart => exact ⟨0, by omega, World.iter_heap w _ 0, (Below.refl _ w).alloc (Nat.le_refl _) _, .inl rfl, by show _ = _; simp⟩
      case round =>
        obtain ⟨pos, hp, HI, hnx, HF, HA⟩ := hrel
        have HN := Lib.hid hnx
        have hpi : Hid (wr.iterPos w.heap.size = pos) := by show _ = _; simp only [World.iterPos, HI.out]
        by_cases hlt : pos < l.length
        · have hlt' : pos < (⟨l.toArray⟩ : ByteArray).size := by rw [size_bytes]; exact hlt
          obtain ⟨b, hb⟩ : ∃ b : UInt8, (⟨l.toArray⟩ : ByteArray)[pos]'hlt' = b := ⟨_, rfl⟩
          have HB : Hid (l[pos]? = some b) := by rw [← hb]; exact bytes_at l pos hlt'
          have hb256 := b.toNat_lt
          by_cases h128 : b.toNat < 128
          · have hnext := fun ty => Lib.run_next_ascii_at (P := Try.prog) wr w.heap.size ⟨l.toArray⟩ pos ty HI.out hlt' (by rw [hb]; exact h128)
            rw [hb] at hnext
            have HI2 := Lib.hid (Lib.iterAt_heap wr w.heap.size ⟨l.toArray⟩ pos (pos + 1) HI.out)
            have HN2 := Lib.hid (Lib.below_iterAt hnx (k := w.heap.size) (Nat.le_refl _) ⟨l.toArray⟩ (pos + 1))
            have hp2 : Hid ((wr.iterAt w.heap.size ⟨l.toArray⟩ (pos + 1)).iterPos w.heap.size = pos + 1) := by show _ = _; simp only [World.iterPos, HI2.out]
            clear hb hnx
            cases hl : lcOk b with
            | true =>
              have HL : Hid (runeLc (b.toNat : Int) = true) := by show _ = _; rw [runeLc_byte]; exact hl
              have HA2 : Hid ((l.take (pos + 1)).all inOk = true) := by show _ = _; rw [all_succ HB.out, HA.out]; simp [inOk, hl]
              have HF2 : Hid (pos + 1 = 0 ∨ lcOk (l.getD 0 0) = true) := by
                show _ ∨ _
                right
                rcases HF.out with h | h
                · subst h; rw [List.getD, HB.out]; exact hl
                · exact h
              clear hl
              go_wp2_with fail
              refine (letter_eq _ HL _).mono ?_
              rintro e w' ⟨rfl, rfl⟩
              go_wp2_with fail
              go_roundw
              case rel => exact ⟨pos + 1, by omega, HI2, HN2.out, HF2, HA2⟩
              case measure => rw [hp2.out, hpi.out]; omega
            | false =>
              have HL : Hid (runeLc (b.toNat : Int) = false) := by show _ = _; rw [runeLc_byte]; exact hl
              by_cases hz : pos = 0
              · have HR : Hid (idIs l = false) := by show _ = _; subst hz; exact idIs_first HB.out hl
                subst hz
                clear hl
                go_wp2_with fail
                refine (letter_eq _ HL _).mono ?_
                rintro e w' ⟨rfl, rfl⟩
                go_wp2_with fail
                go_ret
                exact ⟨by rw [HR.out]; rfl, HN2.out⟩
              · have hz' : 0 < pos := by omega
                clear hz
                cases hd : dgOk b with
                | true =>
                  have HD : Hid (runeIn (b.toNat : Int) = true) := by show _ = _; rw [runeIn_byte]; exact hd
                  have HA2 : Hid ((l.take (pos + 1)).all inOk = true) := by show _ = _; rw [all_succ HB.out, HA.out]; simp [inOk, hd]
                  have HF2 : Hid (pos + 1 = 0 ∨ lcOk (l.getD 0 0) = true) := by
                    show _ ∨ _
                    right
                    rcases HF.out with h | h
                    · omega
                    · exact h
                  clear hl hd
                  go_wp2_with fail
                  refine (letter_eq _ HL _).mono ?_
                  rintro e w' ⟨rfl, rfl⟩
                  go_wp2_with fail
                  refine (inner_eq _ HD _).mono ?_
                  rintro e w' ⟨rfl, rfl⟩
                  go_wp2_with fail
                  go_roundw
                  case rel => exact ⟨pos + 1, by omega, HI2, HN2.out, HF2, HA2⟩
                  case measure => rw [hp2.out, hpi.out]; omega
                | false =>
                  have HD : Hid (runeIn (b.toNat : Int) = false) := by show _ = _; rw [runeIn_byte]; exact hd
                  have HR : Hid (idIs l = false) := by show _ = _; exact idIs_bad HB.out (by simp [inOk, hl, hd])
                  clear hl hd
                  go_wp2_with fail
                  refine (letter_eq _ HL _).mono ?_
                  rintro e w' ⟨rfl, rfl⟩
                  go_wp2_with fail
                  refine (inner_eq _ HD _).mono ?_
                  rintro e w' ⟨rfl, rfl⟩
                  go_wp2_with fail
                  go_ret
                  exact ⟨by rw [HR.out]; rfl, HN2.out⟩
          · obtain ⟨hh1, _⟩ := decode_high ⟨l.toArray⟩ pos hlt' (by rw [hb]; omega)
            have hnext := fun ty => Lib.run_next_any_at (P := Try.prog) wr w.heap.size ⟨l.toArray⟩ pos ty HI.out hlt'
            have HN2 := Lib.hid (Lib.below_iterAt hnx (k := w.heap.size) (Nat.le_refl _) ⟨l.toArray⟩ (pos + (Utf8.decode ⟨l.toArray⟩ pos).2))
            have HR : Hid (idIs l = false) := by show _ = _; exact idIs_high (List.mem_of_getElem? HB.out) (by omega)
            obtain ⟨r, hr⟩ : ∃ r, (Utf8.decode ⟨l.toArray⟩ pos).1 = r := ⟨_, rfl⟩
            obtain ⟨q, hq⟩ : ∃ q, pos + (Utf8.decode ⟨l.toArray⟩ pos).2 = q := ⟨_, rfl⟩
            rw [hr, hq] at hnext
            rw [hq] at HN2
            rw [hr] at hh1
            have HL := Lib.hid (rune_high hh1).1
            have HD := Lib.hid (rune_high hh1).2
            clear hr hq hb hnx
            go_wp2_with fail
            refine (letter_eq _ HL _).mono ?_
            rintro e w' ⟨rfl, rfl⟩
            by_cases hz : pos = 0
            · subst hz
              go_wp2_with fail
              go_ret
              exact ⟨by rw [HR.out]; rfl, HN2.out⟩
            · have hz' : 0 < pos := by omega
              clear hz
              go_wp2_with fail
              refine (inner_eq _ HD _).mono ?_
              rintro e w' ⟨rfl, rfl⟩
              go_wp2_with fail
              go_ret
              exact ⟨by rw [HR.out]; rfl, HN2.out⟩
        · obtain rfl : pos = l.length := by omega
          have hnext := fun ty => Lib.run_next_end_at (P := Try.prog) wr w.heap.size ⟨l.toArray⟩ l.length ty HI.out (by rw [size_bytes]; omega)
          have HR : Hid (idIs l = true) := by
            show _ = _
            have ha := HA.out
            rw [List.take_length] at ha
            refine idIs_mk hpos (by omega) ?_ ha
            rcases HF.out with h | h
            · omega
            · exact h
          clear hnx
          go_wp2_with fail
          go_ret
          exact ⟨by rw [HR.out]; rfl, HN.out⟩

end Go.Proofs.Ytlckphdmflofgaa
end

section
/-
  THE CONTRACT OF ident.Fold (with small): a Builder, written in a range over a string.
-/
namespace Go.Proofs.Ytlckphdmflofgaa
open Go.RowKit Go.Lib

def smallR (r : Int) : Int := if 65 ≤ r ∧ r ≤ 90 then r + 32 else r

/-- Where the folding of l stands: at pos; acc is what is written. -/
def FoldAt (l : List UInt8) (pos : Nat) (acc : List UInt8) : Prop :=
  (pos ≤ l.length ∧ acc = idLow (l.take pos)) ∨ ((∃ b ∈ acc, 128 ≤ b.toNat) ∧ ∃ b ∈ l, 128 ≤ b.toNat)

theorem is_eq (l : List UInt8) (hl : l.length ≤ 4294967296) {r : Bool} (h : Hid (idIs l = r)) (w : World) :
    Calls Try.prog 35 #[.string ⟨l.toArray⟩] w fun e w' => e = .returned (.bool r) ∧ Below w.heap.size w w' := by
  have := is_any l hl w
  rwa [h.out] at this

end Go.Proofs.Ytlckphdmflofgaa
end

section
/-
  THE CONTRACTS OF ident.Put AND ident.Take.
-/
namespace Go.Proofs.Ytlckphdmflofgaa
open Go.RowKit

end Go.Proofs.Ytlckphdmflofgaa
end

section
/-
  A TEXT TURNED INTO A NEW ROW OF BYTES: what is known of the world behind it. Over any program.
-/
namespace Go.Proofs.Ytlckphdmflofgaa
open Go.RowKit

end Go.Proofs.Ytlckphdmflofgaa
end

section
/-
  THE CONTRACTS OF THE DOCUMENT'S ANSWERS Is, Fold, Put, Take OF LAYER 3.
-/
namespace Go.Proofs.Ytlckphdmflofgaa
open Go.RowKit

/-- l, folded up to k. -/
def lowAt (l : List UInt8) (k : Nat) : List UInt8 := idLow (l.take k) ++ l.drop k

/-- A row of bytes in memory that may be written. -/
def RowB (w : World) (B : Nat) (u : List UInt8) : Prop := ∀ j, j < u.length → w.cell? ⟨B, j, none⟩ = some (.int .u8 (u.getD j 0).toNat) ∧ w.frozen? ⟨B, j, none⟩ = false

theorem RowB.drew {w : World} {B : Nat} {u : List UInt8} (h : RowB w B u) : RowB w.drew B u := h

theorem RowB.set {w : World} {B : Nat} {u : List UInt8} (h : RowB w B u) (j : Nat) (b : UInt8) (hj : j < u.length) : RowB (w.setCell ⟨B, j, none⟩ (.int .u8 b.toNat)) B (u.set j b) := by
  intro i hi
  have hi' : i < u.length := by simpa using hi
  refine ⟨?_, (World.frozen?_setCell w _ _ _).trans (h i hi').2⟩
  by_cases hij : i = j
  · subst hij
    rw [World.cell?_setCell_same _ _ _ (h i hj).1]
    simp [List.getD, hj]
  · rw [World.cell?_setCell_other _ _ _ _ (by simp), (h i hi').1]
    simp [List.getD, show ¬ j = i by omega]

end Go.Proofs.Ytlckphdmflofgaa
end

section
/-
  THE CONTRACT OF live OF LAYER 3's STATEMENTS: it returns true.
-/
namespace Go.Proofs.Ytlckphdmflofgaa
open Go.RowKit

/-- A row of texts that is built with what it holds. -/
theorem texts_made (w : World) (T : TypeId) (B : Nat) (hB : B = w.heap.size) (ls : List (List UInt8)) (hl : ls.length ≤ 100) (A : Array Value) (hA : A = (ls.map encS).toArray) (n : Nat) (hn : n = ls.length) :
    Texts (w.alloc (.cells A T)) (.slice (some ⟨B, 0, none⟩) n n) ls := by
  subst hB hA hn
  refine ⟨_, _, rfl, Nat.le_refl _, by unfold maxLen; omega, (fun e => by cases e), .inr ⟨_, _, rfl, by simp, fun i hi => ?_⟩⟩
  rw [World.cell?_alloc_at _ _ _ _ rfl, Nat.zero_add]
  simp [List.getD, List.getElem?_eq_getElem hi]

theorem i1 : Hid (idFold [65, 110, 110, 45, 50] = ([97, 110, 110, 45, 50], true)) := by show _ = _; decide +kernel
theorem i2 : Hid (idFold [50, 97, 110, 110] = ([], false)) := by show _ = _; decide +kernel
theorem i3 : Hid (idPut [98, 111, 98] = ([3, 98, 111, 98], true)) := by show _ = _; decide +kernel
theorem i4 : Hid (idPut [66, 111, 98] = ([], false)) := by show _ = _; decide +kernel
theorem i5 : Hid (idTake [120, 3, 98, 111, 98] 1 = ([98, 111, 98], 5, 0)) := by show _ = _; kernel_rfl
end Go.Proofs.Ytlckphdmflofgaa
end

section
/-
  THE CONTRACT OF live OF LAYER 13's STATEMENTS: it returns true.
-/
namespace Go.Proofs.Ytlckphdmflofgaa
open Go.RowKit Go.ChangeMaps Go.MapKept

/-- Texts beside an Index's blocks. -/
def TxOff (w : World) (v : Value) (ls : List (List UInt8)) (F : Nat → Prop) : Prop := Texts w v ls ∧ (ls = [] ∨ ∀ b o n c, v = .slice (some ⟨b, o, none⟩) n c → ¬ F b)

theorem TxOff.later {w w' : World} {v : Value} {ls : List (List UInt8)} {F : Nat → Prop} (h : TxOff w v ls F) (hb : Below w.heap.size w w') : TxOff w' v ls F := ⟨h.1.later hb, h.2⟩

theorem txOff_of {w w' : World} {v : Value} {ls : List (List UInt8)} {base xb K : Nat} {L : List Pr} {F : Nat → Prop} (h : Texts w' v ls) (hv : LiesAt w.heap.size v) (hx : IxB w base xb K L F) : TxOff w' v ls F :=
  ⟨h, .inr fun b o n c e hf => by have := hx.lt hf; have := hv b o n c e; omega⟩

theorem TxOff.turned {w w' : World} {v : Value} {ls : List (List UInt8)} {F G : Nat → Prop} (h : TxOff w v ls F) (ht : Turned w w' F G) : TxOff w' v ls G := by
  obtain ⟨⟨a, cap, h1, h2, h3, h4, h5⟩, hf⟩ := h
  rcases h5 with h5 | ⟨b, off, e, hlt, hc⟩
  · exact ⟨⟨a, cap, h1, h2, h3, h4, .inl h5⟩, .inl h5⟩
  · rcases hf with hf | hf
    · exact ⟨⟨a, cap, h1, h2, h3, h4, .inl hf⟩, .inl hf⟩
    have hnf := hf b off ls.length cap (by rw [h1, e])
    have he := ht.2.1 b hlt hnf
    refine ⟨⟨a, cap, h1, h2, h3, h4, .inr ⟨b, off, e, Nat.lt_of_lt_of_le hlt ht.1, fun i hi => (World.cell?_of_block (a := ⟨b, off + i, none⟩) he).trans (hc i hi)⟩⟩, .inr fun b' o n c e' hg => ?_⟩
    rw [h1, e] at e'
    injection e' with e' _ _
    injection e' with e'
    injection e' with e' _ _
    subst e'
    rcases ht.2.2 b hg with a | a
    · exact hnf a
    · omega

set_option maxHeartbeats 3200000 in
set_option maxRecDepth 1000000 in
theorem live13 (w : World) : Calls Try.prog 10 #[] w fun e w' => e = .returned (.bool true) ∧ Below w.heap.size w w' := by
  go_enter Try.func10, Try.ntmps10
  go_wp2_with fail
  refine (ixb_new w).mono ?_
  rintro e w1 ⟨xb, F1, rfl, h, b⟩
  have HB := Lib.hid b
  have H := Lib.hid h
  clear h b
  go_wp2_with fail
  refine (ixb_set H.out (by omega) [99] [98] (by decide) (by decide) (by decide) true (L' := [([99], [98])]) (r := true) (by decide +kernel)).mono ?_
  rintro e w2 ⟨F2, rfl, h, b, t⟩
  replace H := Lib.hid h
  replace HB := Lib.hid (HB.out.trans b)
  clear h b t
  go_wp2_with fail
  refine (ixb_set H.out (by omega) [97] [98] (by decide) (by decide) (by decide) true (L' := [([99], [98]), ([97], [98])]) (r := true) (by decide +kernel)).mono ?_
  rintro e w3 ⟨F3, rfl, h, b, t⟩
  replace H := Lib.hid h
  replace HB := Lib.hid (HB.out.trans b)
  clear h b t
  go_wp2_with fail
  refine (ixb_set H.out (by omega) [97] [98] (by decide) (by decide) (by decide) true (L' := [([99], [98]), ([97], [98])]) (r := false) (by decide +kernel)).mono ?_
  rintro e w4 ⟨F4, rfl, h, b, t⟩
  replace H := Lib.hid h
  replace HB := Lib.hid (HB.out.trans b)
  clear h b t
  go_wp2_with fail
  refine (ixb_set H.out (by omega) [97] [97] (by decide) (by decide) (by decide) true (L' := [([99], [98]), ([97], [98]), ([97], [97])]) (r := true) (by decide +kernel)).mono ?_
  rintro e w5 ⟨F5, rfl, h, b, t⟩
  replace H := Lib.hid h
  replace HB := Lib.hid (HB.out.trans b)
  clear h b t
  go_wp2_with fail
  refine (ixb_watch H.out [98] (by decide) (by decide) (ls := [[97], [99]]) (by decide +kernel)).mono ?_
  rintro e w6 ⟨vp, rfl, ⟨h1, h2⟩, b⟩
  have Tp := Lib.hid (txOff_of h1 h2 H.out)
  replace H := Lib.hid (H.out.later b)
  replace HB := Lib.hid (below2Z HB.out b)
  clear h1 h2 b
  go_wp2_with fail
  refine (ixb_cont H.out [97] (by decide) (by decide) (ls := [[97], [98]]) (by decide +kernel)).mono ?_
  rintro e w7 ⟨vq, rfl, ⟨h1, h2⟩, b⟩
  replace Tp := Lib.hid (Tp.out.later b)
  have Tq := Lib.hid (txOff_of h1 h2 H.out)
  replace H := Lib.hid (H.out.later b)
  replace HB := Lib.hid (below2Z HB.out b)
  clear h1 h2 b
  go_wp2_with fail
  refine (ixb_len H.out).mono ?_
  rintro e w99 ⟨rfl, rfl⟩
  go_wp2_with fail
  refine (ixb_set H.out (by omega) [99] [98] (by decide) (by decide) (by decide) false (L' := [([97], [98]), ([97], [97])]) (r := true) (by decide +kernel)).mono ?_
  rintro e w8 ⟨F8, rfl, h, b, t⟩
  replace Tp := Lib.hid (Tp.out.turned t)
  replace Tq := Lib.hid (Tq.out.turned t)
  replace H := Lib.hid h
  replace HB := Lib.hid (HB.out.trans b)
  clear h b t
  go_wp2_with fail
  refine (ixb_set H.out (by omega) [99] [98] (by decide) (by decide) (by decide) false (L' := [([97], [98]), ([97], [97])]) (r := false) (by decide +kernel)).mono ?_
  rintro e w9 ⟨F9, rfl, h, b, t⟩
  replace Tp := Lib.hid (Tp.out.turned t)
  replace Tq := Lib.hid (Tq.out.turned t)
  replace H := Lib.hid h
  replace HB := Lib.hid (HB.out.trans b)
  clear h b t
  go_wp2_with fail
  refine (ixb_forget H.out (by omega) [97] (by decide) (by decide)).mono ?_
  rintro e w10 ⟨F10, rfl, h, b, t⟩
  rw [show ixForget [([97], [98]), ([97], [97])] [97] = [] from by decide +kernel] at h ⊢
  replace Tp := Lib.hid (Tp.out.turned t)
  replace Tq := Lib.hid (Tq.out.turned t)
  replace H := Lib.hid h
  replace HB := Lib.hid (HB.out.trans b)
  clear h b t
  go_wp2_with fail
  have bb := bl_newZ w10 (.cells #[.string ⟨#[97]⟩, .string ⟨#[99]⟩] 9)
  refine (same_yes (ls := [[97], [99]]) (Tp.out.1.later bb) (texts_made w10 _ _ rfl _ (by decide) _ rfl _ rfl) (by decide)).mono ?_
  rintro e w11 ⟨rfl, b⟩
  replace b := below2Z bb b
  replace Tp := Lib.hid (Tp.out.later b)
  replace Tq := Lib.hid (Tq.out.later b)
  replace H := Lib.hid (H.out.later b)
  replace HB := Lib.hid (below2Z HB.out b)
  clear b bb
  go_wp2_with fail
  have bb := bl_newZ w11 (.cells #[.string ⟨#[97]⟩, .string ⟨#[98]⟩] 9)
  refine (same_yes (ls := [[97], [98]]) (Tq.out.1.later bb) (texts_made w11 _ _ rfl _ (by decide) _ rfl _ rfl) (by decide)).mono ?_
  rintro e w12 ⟨rfl, b⟩
  replace b := below2Z bb b
  replace Tp := Lib.hid (Tp.out.later b)
  replace Tq := Lib.hid (Tq.out.later b)
  replace H := Lib.hid (H.out.later b)
  replace HB := Lib.hid (below2Z HB.out b)
  clear b bb
  go_wp2_with fail
  refine (ixb_len H.out).mono ?_
  rintro e w99 ⟨rfl, rfl⟩
  go_wp2_with fail
  refine (ixb_has H.out [97] [98] (by decide) (by decide) (q := false) (by decide +kernel)).mono ?_
  rintro e w13 ⟨rfl, b⟩
  replace HB := Lib.hid (below2Z HB.out b)
  clear b
  go_wp2_with fail
  go_ret
  exact ⟨rfl, HB.out⟩

end Go.Proofs.Ytlckphdmflofgaa
end
