/-
  THE CONTRACT OF slices.Insert (of one row, into a table of the call's own).
-/
import Derived.Test.YtocjeehoghfnmaaDigWithout
namespace Go.Proofs.Ytocjeehoghfnmaa
open Go.RowKit

/-- Block B holds one row, and nothing else. -/
def Lone (w : World) (B : Nat) (r : Row) : Prop := w.heap[B]? = some (.cells #[.string ⟨r.c.toArray⟩, .int .i64 r.v.sh, .int .i64 r.v.pr, .int .i64 r.v.si, .string ⟨r.v.st.toArray⟩] 48 (0, 0))

theorem Lone.later {w w' : World} {B : Nat} {r : Row} (h : Lone w B r) (hb : Below w.heap.size w w') : Lone w' B r :=
  (hb.block B (Array.getElem?_eq_some_iff.1 h).1).trans h

theorem Lone.lt {w : World} {B : Nat} {r : Row} (h : Lone w B r) : B < w.heap.size := (Array.getElem?_eq_some_iff.1 h).1

theorem Lone.src {w : World} {B : Nat} {r : Row} (h : Lone w B r) : SrcR w ⟨B, 0, none⟩ [r] := by
  intro j u hu
  rw [cellsOf_one] at hu
  rw [Addr.add_lit, Nat.zero_add, cell_of_row w B j _ _ (0, 0) h, ← hu]
  simp [rowVals]

theorem Lone.free {w : World} {B : Nat} {r : Row} (h : Lone w B r) (j : Nat) : w.frozen? ⟨B, j, none⟩ = false := frozen_of_row w B j _ _ h

theorem Lone.shape {w : World} {B : Nat} {r : Row} (h : Lone w B r) : w.shape? B = some (48, 5) := by
  have h' := h
  unfold Lone at h'
  simp only [World.shape?, h']
  rfl

theorem own_shape {w : World} {g : Nat} {cur : Array Value} {T : TypeId} (h : w.heap[g]? = some (.cells cur T (0, 0))) : w.shape? g = some (T, cur.size) := by
  simp only [World.shape?, h]

theorem lone_new (w : World) (r : Row) : Lone (w.alloc (.cells #[.string ⟨r.c.toArray⟩, .int .i64 r.v.sh, .int .i64 r.v.pr, .int .i64 r.v.si, .string ⟨r.v.st.toArray⟩] 48)) w.heap.size r := heap_alloc_new w _

/-- One row put in. -/
def put1 (t : List Row) (i : Nat) (r : Row) : List Row := t.take i ++ ([r] ++ t.drop i)

set_option maxHeartbeats 1600000 in
set_option maxRecDepth 100000 in
theorem insert_end {w : World} {base : Nat} {v : Value} {t : List Row} (ho : OwnR w base v t) (hbase : base ≤ w.heap.size) (hl : t.length ≤ 1000) {B : Nat} {r : Row} (hr : Lone w B r) :
    Calls Try.prog 65 #[v, .int .i64 t.length, .slice (some ⟨B, 0, none⟩) 1 1] w fun e w' => ∃ u, e = .returned u ∧ OwnR w' base u (put1 t t.length r) ∧ Below base w w' := by
  have HO := Lib.hid ho
  have HS := Lib.hid hr.src
  have HE : Hid (put1 t t.length r = t ++ [r]) := by show _ = _; simp [put1]
  have t0 : ((t.length : Int) == (t.length : Int)) = true := by simp
  rcases ho.2 with ⟨rfl, h0⟩ | ⟨g, cap, cur, rfl, _, _, hnc, hcm, _⟩
  · obtain rfl : t = [] := List.length_eq_zero_iff.1 h0
    clear ho hr h0
    go_enter Try.func65, Try.ntmps65
    go_wp2_with (at_builtin; go_must (refine wpList_append_rows rfl _ _ rfl base _ [] rfl (by exact HO.out) (some ⟨B, 0, none⟩) 1 1 [r] rfl rfl (fun e => nomatch e) ?c1 (by simp) hbase ?_))
    case c1 => intro ad had; obtain rfl := Option.some.inj had; exact HS.out
    intro v' w' ho' hb'
    have O := Lib.hid ho'
    have HB := Lib.hid hb'
    clear ho' hb'
    go_wp2_with fail
    go_ret
    exact ⟨_, rfl, O.out, HB.out⟩
  · unfold maxLen at hcm
    clear ho hr
    by_cases hc : cap = t.length
    · subst hc
      go_enter Try.func65, Try.ntmps65
      go_wp2_with (at_builtin; go_must (refine wpList_append_rows rfl _ _ rfl base _ t rfl (by exact HO.out) (some ⟨B, 0, none⟩) 1 1 [r] rfl rfl (fun e => nomatch e) ?c1 (by simp only [List.length_cons, List.length_nil]; omega) hbase ?_))
      case c1 => intro ad had; obtain rfl := Option.some.inj had; exact HS.out
      intro v' w' ho' hb'
      have O := Lib.hid ho'
      have HB := Lib.hid hb'
      clear ho' hb'
      go_wp2_with fail
      go_ret
      exact ⟨_, rfl, by rw [HE.out]; exact O.out, HB.out⟩
    · go_enter Try.func65, Try.ntmps65
      go_wp2_with (at_builtin; go_must (refine wpList_append_rows rfl _ _ rfl base _ t rfl (by exact HO.out) (some ⟨B, 0, none⟩) 1 1 [r] rfl rfl (fun e => nomatch e) ?c1 (by simp only [List.length_cons, List.length_nil]; omega) hbase ?_))
      case c1 => intro ad had; obtain rfl := Option.some.inj had; exact HS.out
      intro v' w' ho' hb'
      have O := Lib.hid ho'
      have HB := Lib.hid hb'
      clear ho' hb'
      go_wp2_with fail
      go_ret
      exact ⟨_, rfl, by rw [HE.out]; exact O.out, HB.out⟩

theorem ownR_low {w : World} {base base' : Nat} {v : Value} {t : List Row} (h : OwnR w base v t) (hb : base' ≤ base) : OwnR w base' v t := by
  refine ⟨h.1, ?_⟩
  rcases h.2 with h' | ⟨g, cap, cur, h1, h2, h3⟩
  · exact .inl h'
  · exact .inr ⟨g, cap, cur, h1, by omega, h3⟩

theorem lay_grow {t : List Row} {i : Nat} (hi : i < t.length) (r : Row) :
    lay (lay (t.take i ++ List.replicate (t.length + 1 - i) Row.zero) i [r]) (i + 1) (t.drop i) = put1 t i r := by
  have h1 : (t.take i).length = i := by rw [List.length_take]; omega
  have e2 : (t.take i ++ List.replicate (t.length + 1 - i) Row.zero).drop (i + 1) = List.replicate (t.length - i) Row.zero := by
    rw [List.drop_append, List.drop_of_length_le (by omega), h1, show i + 1 - i = 1 by omega, List.drop_replicate, List.nil_append]
    congr 1
    omega
  have e3 : lay (t.take i ++ List.replicate (t.length + 1 - i) Row.zero) i [r] = (t.take i ++ [r]) ++ List.replicate (t.length - i) Row.zero := by
    unfold lay
    rw [List.take_left' h1, List.length_singleton, e2]
    simp
  have h4 : (t.take i ++ [r]).length = i + 1 := by rw [List.length_append, h1]; rfl
  have h5 : ((t.take i ++ [r]) ++ List.replicate (t.length - i) Row.zero).length ≤ i + 1 + (t.drop i).length := by
    rw [List.length_append, h4, List.length_replicate, List.length_drop]
    omega
  rw [e3]
  unfold lay put1
  rw [List.take_left' h4, List.drop_of_length_le h5]
  simp

set_option maxHeartbeats 3200000 in
set_option maxRecDepth 100000 in
theorem insert_grow {w : World} {base g cap : Nat} {t : List Row} (ho : OwnR w base (.slice (some ⟨g, 0, none⟩) t.length cap) t) (hbase : base ≤ w.heap.size) (hl : t.length ≤ 1000) {i : Nat} (hi : i < t.length) (hc : cap = t.length) {B : Nat} {r : Row} (hr : Lone w B r) :
    Calls Try.prog 65 #[.slice (some ⟨g, 0, none⟩) t.length cap, .int .i64 i, .slice (some ⟨B, 0, none⟩) 1 1] w fun e w' => ∃ u, e = .returned u ∧ OwnR w' base u (put1 t i r) ∧ Below base w w' := by
  subst hc
  have HO := Lib.hid ho
  have HR := Lib.hid hr
  have HE := Lib.hid (lay_grow hi r)
  have t0 : ((i : Int) == (t.length : Int)) = false := by simp; omega
  have t1 : ¬ t.length = i := by omega
  have hw1 : IntKind.i64.wrap ((i : Int) + 1) = (i : Int) + 1 := IntWalk.i64_in _ (by omega)
  have htn : ((i : Int) + 1).toNat = i + 1 := by omega
  have hb0 : (0 : Int) ≤ (i : Int) + 1 := by omega
  have hin : i ≤ t.length := by omega
  have hgw := ho.head.2.2.1
  have hBw := hr.lt
  clear ho hr
  go_enter Try.func65, Try.ntmps65
  go_wp2_with (with_reducible refine wpList_append_zero_rows rfl (.tmp 34) (.tmp 39) rfl base g t.length t.length t HO.out i (t.length + 1 - i) (t.length + 1) ((t.length : Int) + 1 - (i : Int)) rfl rfl (by omega) (by omega) (by omega) (by omega) (by omega) (by omega) ?_)
  intro w1 G h1 hG hGm hb1
  have O1 := Lib.hid h1
  have B1 := Lib.hid hb1
  have S1 := Lib.hid (HR.out.later hb1).src
  have P1 := Lib.hid (HO.out.later hb1)
  have hsz := hb1.size
  have hlen : (t.take i ++ List.replicate (t.length + 1 - i) Row.zero).length = t.length + 1 := by rw [List.length_append, List.length_take, List.length_replicate]; omega
  have t2 : ¬ G = i := by omega
  have t3 : ¬ G = i + 1 := by omega
  clear h1 hb1
  go_wp2_with (with_reducible refine wpList_copy_rows rfl (.tmp 43) (.tmp 44) rfl w.heap.size w.heap.size (t.length + 1) G _ O1.out i (t.length + 1 - i) (G - i) ⟨B, 0, none⟩ 1 1 rfl rfl [r] (by simp only [List.length_singleton, Nat.min_def]; split <;> omega) S1.out (by rw [hlen]; simp only [List.length_singleton]; omega) ?_)
  intro w2 h2 hb2 hk2
  have O2 := Lib.hid h2
  have B2 := Lib.hid (B1.out.trans (hb2.mono (Nat.le_refl _)))
  have P2 : Hid (SrcR w2.drew ⟨g, i * 5, none⟩ (t.drop i)) := by
    show SrcR _ _ _
    intro j x hx
    have := P1.out.src i (t.length - i) (by omega) j x (by rw [List.take_of_length_le (by rw [List.length_drop]; omega)]; exact hx)
    exact (hk2 _ (by rw [Addr.add_lit]; show g ≠ w.heap.size; omega)).trans this
  have hlen2 : (lay (t.take i ++ List.replicate (t.length + 1 - i) Row.zero) i [r]).length = t.length + 1 := by rw [lay_len (by rw [hlen]; simp only [List.length_singleton]; omega), hlen]
  clear h2 hb2 hk2 O1 B1 S1
  go_wp2_with fail
  go_region_law (refine step_copy_rows rfl (.tmp 50) (.tmp 53) rfl w.heap.size w.heap.size (t.length + 1) G _ (World.ownsRow.drew O2.out) (i + 1) (t.length - i) (G - (i + 1)) ⟨g, i * 5, none⟩ (t.length - i) (t.length - i) (by simp [Act.eval, Act.put]) (by simp [Act.eval, Act.put]) (t.drop i) (by simp only [List.length_drop, Nat.min_def]; split <;> omega) P2.out (by rw [hlen2, List.length_drop]; omega) ?_; intro w3 h3 hb3 hk3)
  all_goals
    have O3 := Lib.hid h3
    have B3 := Lib.hid ((B2.out.mono hbase).drew.trans (hb3.mono hbase))
    clear h3 hb3 hk3
    go_wp2_with fail
    go_ret
    refine ⟨_, rfl, ?_, B3.out⟩
    have h := O3.out
    rw [HE.out] at h
    exact ownR_low h hbase

end Go.Proofs.Ytocjeehoghfnmaa
