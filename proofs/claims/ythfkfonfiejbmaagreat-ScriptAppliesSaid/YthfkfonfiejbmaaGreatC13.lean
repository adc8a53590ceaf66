/-
  TEXTS OF THE PROOF, one behind the other: ValRtake, ScrRdec, ScrUn, ShelfW, ScrBat, ScrFold.
-/
import Derived.Test.YthfkfonfiejbmaaGreatC11
import Derived.Test.YthfkfonfiejbmaaGreatC12
import Derived.OwnWalk
import Derived.Deep.DeepMust
import Derived.Test.YthfkfonfiejbmaaGreatC01
import Derived.Test.YthfkfonfiejbmaaGreatC10

section

/-
  THE CONTRACT OF THE DOCUMENT'S ANSWER TO Take (of a value).
-/
namespace Go.Proofs.YthfkfonfiejbmaaGreat
open Go.RowKit

end Go.Proofs.YthfkfonfiejbmaaGreat

end

section

/-
  LAYER 23, THE DOCUMENT: Encode, read, Decode.
-/
namespace Go.Proofs.YthfkfonfiejbmaaGreat
open Go.RowKit

end Go.Proofs.YthfkfonfiejbmaaGreat

end

section

/-
  LAYER 23: Unbatch of the code and of the document.
-/
namespace Go.Proofs.YthfkfonfiejbmaaGreat
open Go.RowKit

theorem own_lenE {α : Type} {vals : α → List Value} {sz : Nat} {T : TypeId} {w : World} {base : Nat} {v : Value} {t : List α} (h : OwnS vals sz T w base v t) : ∃ a cap, v = .slice a t.length cap := by
  rcases h.2 with ⟨rfl, h0⟩ | ⟨g, cap, cur, rfl, _⟩
  · rw [h0]; exact ⟨none, 0, rfl⟩
  · exact ⟨_, _, rfl⟩

set_option maxHeartbeats 1600000 in
set_option maxRecDepth 100000 in
/-- P23.3, the code's. -/
theorem scun_any (s : List UInt8) (hl : s.length ≤ 1000000) (w : World) :
    Calls Tryz.prog 19 #[.string ⟨s.toArray⟩] w fun e w' => ∃ v m er, e = .returned (.tuple #[v, .int .i64 ((er : Nat) : Int)]) ∧ Evs w' v m ∧ UnIs s m er ∧ Below w.heap.size w w' := by
  have hs1 : (⟨s.toArray⟩ : ByteArray).size = s.length := size_bytes s
  have hl2 : s.length ≤ 4294967296 := by omega
  go_enter Tryz.func19, Tryz.ntmps19
  go_wp2_with fail
  go_loopw [4, 5] (fun v4 v5 wr => ∃ (ls : List Ev) (p : Nat), v5 = .int .i64 p ∧ ls.length ≤ 100 ∧ p ≤ s.length ∧ Hid (OwnS evVals 8 29 wr w.heap.size v4 ls) ∧ Hid (UnAt s ls p) ∧ Hid (Below w.heap.size w wr)) (fun _ v5 _ => s.length - (intOf v5).toNat)
  case atStart => exact ⟨[], 0, rfl, by simp, by omega, Lib.hid (ownS_nil _ _), Lib.hid (unAt_start s), Lib.hid (Below.refl _ _)⟩
  case round =>
    obtain ⟨ls, p, rfl, hln, hp, HO, HU, HB⟩ := hrel
    by_cases hlt : p < s.length
    case pos =>
      obtain ⟨av, cv, hav⟩ := own_lenE HO.out
      subst hav
      obtain ⟨t, q, er, ht⟩ : ∃ t q er, vtake s (p : Int) s.length = (t, q, er) := ⟨_, _, _, rfl⟩
      obtain ⟨⟨k, u, o, id, ⟨a, b, c, st⟩⟩, n, hd⟩ : ∃ e n, scDec t = (e, n) := ⟨_, _, rfl⟩
      by_cases he : er = 0
      case neg =>
        have NOX := Lib.hid (fun x (_ : x.length ≤ 100) hx => unAt_stuck HU.out hlt (Or.inr (Int.le_refl _)) ht hd (Or.inl he) x hx)
        have HT := Lib.hid ht
        clear ht hd
        go_wp2_with fail
        refine (sctakeone_err s hl2 p HT he _).mono ?_
        rintro e w1 ⟨rfl, b1⟩
        have HBX := Lib.hid ((below2Z HB.out b1).alloc (below2Z HB.out b1).size (.cells #[.int .i64 0, .string ⟨#[]⟩, .string ⟨#[]⟩, .int .i64 0, .int .i64 0, .int .i64 0, .int .i64 0, .string ⟨#[]⟩] 29))
        clear b1
        go_wp2_with fail
        go_ret2
        exact ⟨_, [], 3, rfl, rdS_nil _, unIs_none NOX.out, HBX.out⟩
      case pos =>
      subst he
      have hql : p < q ∨ n ≠ 0 := by
        by_cases h : n = 0
        · subst h; exact Or.inl (unAt_next HU.out ht hd).2
        · exact Or.inr h
      have HT := Lib.hid ht
      have HD := Lib.hid hd
      by_cases hn : n = 0
      case neg =>
        have NOX := Lib.hid (fun x (_ : x.length ≤ 100) hx => unAt_stuck HU.out hlt (Or.inr (Int.le_refl _)) ht hd (Or.inr hn) x hx)
        have tn : ((n : Int) == 0) = false := by simp; exact hn
        clear ht hd hql hn
        go_wp2_with fail
        refine (sctakeone_ok s hl2 p HT HD tn _).mono ?_
        rintro e w1 ⟨rfl, b1⟩
        have HBX := Lib.hid ((below2Z HB.out b1).alloc (below2Z HB.out b1).size (.cells #[.int .i64 k, .string ⟨u.toArray⟩, .string ⟨o.toArray⟩, .int .i64 id, .int .i64 a, .int .i64 b, .int .i64 c, .string ⟨st.toArray⟩] 29))
        clear b1 tn
        go_wp2_with fail
        go_ret2
        exact ⟨_, [], 3, rfl, rdS_nil _, unIs_none NOX.out, HBX.out⟩
      case pos =>
      subst hn
      have hpq : p < q := by rcases hql with h | h; exact h; exact absurd rfl h
      have hqs : q ≤ s.length := (unAt_next HU.out ht hd).1.1
      have HU2 := Lib.hid (unAt_next HU.out ht hd).1
      clear ht hd hql
      by_cases h100 : ls.length = 100
      case pos =>
        have NOX := Lib.hid (fun x hx1 hx => unAt_many HU.out (by omega) (Or.inl hlt) x hx1 hx)
        have t100 : ((ls.length : Int) == 100) = true := by simp; omega
        clear h100
        go_wp2_with fail
        refine (sctakeone_ok s hl2 p HT HD rfl _).mono ?_
        rintro e w1 ⟨rfl, b1⟩
        have HBX := Lib.hid ((below2Z HB.out b1).alloc (below2Z HB.out b1).size (.cells #[.int .i64 k, .string ⟨u.toArray⟩, .string ⟨o.toArray⟩, .int .i64 id, .int .i64 a, .int .i64 b, .int .i64 c, .string ⟨st.toArray⟩] 29))
        clear b1
        go_wp2_with fail
        go_ret2
        exact ⟨_, [], 3, rfl, rdS_nil _, unIs_none NOX.out, HBX.out⟩
      case neg =>
        have t100 : ((ls.length : Int) == 100) = false := by simp; omega
        have hln2 : ls.length + 1 ≤ 100 := by omega
        clear h100
        go_wp2_with fail
        refine (sctakeone_ok s hl2 p HT HD rfl _).mono ?_
        rintro e w1 ⟨rfl, b1⟩
        have HB1 := Lib.hid (below2Z HB.out b1)
        have HO1 := Lib.hid (HO.out.later b1)
        clear b1
        have SRC := Lib.hid (srcS_new (vals := evVals) (w := w1.alloc (.cells #[.int .i64 k, .string ⟨u.toArray⟩, .string ⟨o.toArray⟩, .int .i64 id, .int .i64 a, .int .i64 b, .int .i64 c, .string ⟨st.toArray⟩] 29)) (r := (⟨k, u, o, id, ⟨a, b, c, st⟩⟩ : Ev)) (cs := #[.int .i64 k, .string ⟨u.toArray⟩, .string ⟨o.toArray⟩, .int .i64 id, .int .i64 a, .int .i64 b, .int .i64 c, .string ⟨st.toArray⟩]) rfl (e := 29) (B := w1.heap.size + 1) (by simp))
        have HO2 : Hid (OwnS evVals 8 29 ((w1.alloc (.cells #[.int .i64 k, .string ⟨u.toArray⟩, .string ⟨o.toArray⟩, .int .i64 id, .int .i64 a, .int .i64 b, .int .i64 c, .string ⟨st.toArray⟩] 29)).alloc (.cells #[.int .i64 k, .string ⟨u.toArray⟩, .string ⟨o.toArray⟩, .int .i64 id, .int .i64 a, .int .i64 b, .int .i64 c, .string ⟨st.toArray⟩] 29)) w.heap.size _ _) := Lib.hid ((OwnS.alloc HO1.out (.cells #[.int .i64 k, .string ⟨u.toArray⟩, .string ⟨o.toArray⟩, .int .i64 id, .int .i64 a, .int .i64 b, .int .i64 c, .string ⟨st.toArray⟩] 29)).alloc (.cells #[.int .i64 k, .string ⟨u.toArray⟩, .string ⟨o.toArray⟩, .int .i64 id, .int .i64 a, .int .i64 b, .int .i64 c, .string ⟨st.toArray⟩] 29))
        have hz5 : w.heap.size ≤ ((w1.alloc (.cells #[.int .i64 k, .string ⟨u.toArray⟩, .string ⟨o.toArray⟩, .int .i64 id, .int .i64 a, .int .i64 b, .int .i64 c, .string ⟨st.toArray⟩] 29)).alloc (.cells #[.int .i64 k, .string ⟨u.toArray⟩, .string ⟨o.toArray⟩, .int .i64 id, .int .i64 a, .int .i64 b, .int .i64 c, .string ⟨st.toArray⟩] 29)).heap.size := by rw [World.size_alloc, World.size_alloc]; have := HB1.out.size; omega
        have HN1 := Lib.hid ((HB1.out.alloc HB1.out.size (.cells #[.int .i64 k, .string ⟨u.toArray⟩, .string ⟨o.toArray⟩, .int .i64 id, .int .i64 a, .int .i64 b, .int .i64 c, .string ⟨st.toArray⟩] 29)).alloc (by rw [World.size_alloc]; have := HB1.out.size; omega) (.cells #[.int .i64 k, .string ⟨u.toArray⟩, .string ⟨o.toArray⟩, .int .i64 id, .int .i64 a, .int .i64 b, .int .i64 c, .string ⟨st.toArray⟩] 29))
        go_wp2_with (at_builtin; go_must (refine wpList_append_S evOK rfl _ _ rfl w.heap.size _ ls rfl (by exact HO2.out) (some ⟨w1.heap.size + 1, 0, none⟩) 1 1 [⟨k, u, o, id, ⟨a, b, c, st⟩⟩] rfl rfl (fun e => nomatch e) SRC.out (by simp only [List.length_cons, List.length_nil]; omega) hz5 ?_))
        intro v5 w5 ho5 hb5
        have HN2 := Lib.hid (HN1.out.trans hb5)
        have HO5 := Lib.hid ho5
        clear ho5 hb5 SRC HO2 hz5 HN1
        go_wp2_with fail
        go_roundw
        case rel => exact ⟨_, q, rfl, by rw [List.length_append]; exact hln2, hqs, HO5, HU2, HN2⟩
        case measure => simp [intOf]; omega
    case neg =>
      have HI := Lib.hid (unAt_end HU.out hln (by omega))
      have t9 : decide ((p : Int) < (s.length : Int)) = false := by rw [decide_eq_false_iff_not]; omega
      go_wp2_with fail
      go_ret2
      exact ⟨_, ls, 0, rfl, HO.out.rd evOK, HI.out, HB.out⟩

end Go.Proofs.YthfkfonfiejbmaaGreat

end

section

/-
  THE CONTRACT OF (*strings.Builder).WriteString AT THIS PROGRAM, LAID WITHOUT A WALK.
-/
namespace Go.Proofs.YthfkfonfiejbmaaGreat
open Go.Shelf Go.RowKit

def Tryz.lays166_ren : Go.Shelf.Ren := ⟨fun | 166 => 43 | 240 => 79 | 276 => 104 | n => n, fun | 0 => 0 | 3 => 3 | 4 => 4 | 5 => 5 | 9 => 9 | 20 => 20 | 37 => 83 | 70 => 84 | 72 => 86 | 75 => 88 | 80 => 91 | 164 => 152 | n => n, fun | n => n⟩

theorem Tryz.lays166 : Go.Proofs.Lays.n166 Tryz.prog Tryz.lays166_ren := {
  mixed := by kernel_rfl
  f166 := Tryz.func43.trans (congrArg some (by kernel_rfl))
  f240 := Tryz.func79.trans (congrArg some (by kernel_rfl))
  f276 := Tryz.func104.trans (congrArg some (by kernel_rfl))
  t0 := Tryz.underlying0
  a0 := Tryz.isAgg0
  z0 := Tryz.sizeOf0
  v0 := Tryz.zeroValue0
  t3 := Tryz.underlying3
  a3 := Tryz.isAgg3
  z3 := Tryz.sizeOf3
  v3 := Tryz.zeroValue3
  t4 := Tryz.underlying4
  a4 := Tryz.isAgg4
  z4 := Tryz.sizeOf4
  v4 := Tryz.zeroValue4
  t9 := Tryz.underlying9
  a9 := Tryz.isAgg9
  z9 := Tryz.sizeOf9
  v9 := Tryz.zeroValue9
  t20 := Tryz.underlying20
  a20 := Tryz.isAgg20
  z20 := Tryz.sizeOf20
  v20 := Tryz.zeroValue20
  t37 := Tryz.underlying83
  a37 := Tryz.isAgg83
  z37 := Tryz.sizeOf83
  v37 := Tryz.zeroValue83
  t70 := Tryz.underlying84
  a70 := Tryz.isAgg84
  z70 := Tryz.sizeOf84
  v70 := Tryz.zeroValue84
  t72 := Tryz.underlying86
  a72 := Tryz.isAgg86
  z72 := Tryz.sizeOf86
  v72 := Tryz.zeroValue86
  t75 := Tryz.underlying88
  a75 := Tryz.isAgg88
  z75 := Tryz.sizeOf88
  v75 := Tryz.zeroValue88
  t164 := Tryz.underlying152
  a164 := Tryz.isAgg152
  z164 := Tryz.sizeOf152
  v164 := Tryz.zeroValue152 }

theorem Tryz.Builder_Extra_166 : Builder.Extra Tryz.prog Tryz.lays166_ren := {
  sizeBuilder := by kernel_rfl
  liesBuilder := by kernel_rfl
  t5 := Tryz.underlying5
  a5 := Tryz.isAgg5
  z5 := Tryz.sizeOf5
  v5 := Tryz.zeroValue5
  infoByte := by kernel_rfl
  cellsByte := by kernel_rfl
  sizeByte := by kernel_rfl
  neB5 := by decide }

theorem Tryz.Builder_WriteString_k (B b : Nat) (bs : List Value) (s : ByteArray) (w : World) (h : Lib.IsBuilderF 86 5 B b bs w) (hlen : bs.length + s.size ≤ 140737488355328) (hBw : B ≤ w.heap.size) :
    Calls Tryz.prog 43 #[.pointer (some ⟨b, 0, none⟩), .string s] w fun e w' => e = .returned (.tuple #[.int .i64 s.size, .nilIface]) ∧ (Lib.BuilderAtF 86 5 B b (.pointer (some ⟨b, 0, none⟩)) (bs ++ Lib.strCells s) w' ∧ Below B w w' ∧ Lib.OthersKept 5 (some b) w w') := Any.Builder_WriteString_k Tryz.lays166 Tryz.Builder_Extra_166 B b bs s w h hlen hBw

end Go.Proofs.YthfkfonfiejbmaaGreat

end

section

/-
  LAYER 23: Batch of the code and of the document; Same.
-/
namespace Go.Proofs.YthfkfonfiejbmaaGreat
open Go.RowKit Go.Lib

attribute [local go_sem] ByteArray.mk_append_mk

theorem scBatch_long {l : List Ev} (h : 100 < l.length) : scBatch l = ([], 1) := by
  unfold scBatch
  rw [if_neg]
  simp
  omega

theorem scBatch_bad {l : List Ev} {k : Nat} (hk : k < l.length) (h : scMay (l.getD k Ev.zero) = false) : scBatch l = ([], 1) := by
  unfold scBatch
  rw [if_neg]
  intro h2
  simp only [Bool.and_eq_true, List.all_eq_true] at h2
  have := h2.2 _ (by rw [evgetD hk]; exact List.getElem_mem hk : l.getD k Ev.zero ∈ l)
  rw [h] at this
  cases this

theorem scBatch_all {l : List Ev} (h : l.length ≤ 100) (ha : l.all scMay = true) : scBatch l = (scCat l, 0) := by
  unfold scBatch
  rw [if_pos (by rw [ha, decide_eq_true h]; rfl)]

theorem scCat_next {l : List Ev} {k : Nat} (hk : k < l.length) {e : Ev} (he : l.getD k Ev.zero = e) : scCat (l.take (k + 1)) = scCat (l.take k) ++ (vput (cseal (scBytes e)).length ++ cseal (scBytes e)) := by
  rw [List.take_succ_eq_append_getElem hk, scCat_append, scCat_one, ← evgetD hk, he]

theorem all_nextU {l : List Ev} {k : Nat} (hk : k < l.length) {e : Ev} (he : l.getD k Ev.zero = e) (h : (l.take k).all scMay = true) (hm : scMay e = true) : (l.take (k + 1)).all scMay = true := by
  rw [List.take_succ_eq_append_getElem hk, List.all_append, h, ← evgetD hk, he]
  simp [hm]

theorem scCat_take_len {l : List Ev} (h : l.length ≤ 100) (k : Nat) (ha : (l.take k).all scMay = true) : (scCat (l.take k)).length ≤ 13000 := by
  have h1 := scCat_len (l.take k) ha
  have h2 : (l.take k).length ≤ 100 := by rw [List.length_take]; omega
  omega

set_option maxHeartbeats 1600000 in
set_option maxRecDepth 100000 in
theorem scbat_long {w : World} {v : Value} {l : List Ev} (hv : Evs w v l) (hn : 100 < l.length) :
    Calls Tryz.prog 18 #[v] w fun e w' => e = .returned (.tuple #[.string ⟨#[]⟩, .int .i64 1]) ∧ Below w.heap.size w w' := by
  obtain ⟨av, cv, rfl, -⟩ := RdS.open' hv
  have hn1 : decide ((100 : Int) < (l.length : Int)) = true := by rw [decide_eq_true_eq]; omega
  have hn2 : decide (100 < l.length) = true := by rw [decide_eq_true_eq]; omega
  go_enter Tryz.func18, Tryz.ntmps18
  go_wp2_with fail
  go_ret2
  exact ⟨rfl, Below.refl _ _⟩

set_option maxHeartbeats 1600000 in
set_option maxRecDepth 100000 in
theorem scbat_any {w : World} {v : Value} {l : List Ev} (hv : Evs w v l) (hsh : ∀ e ∈ l, evShort e) {r : List UInt8} {er : Nat} (hr : Hid (scBatch l = (r, er))) :
    Calls Tryz.prog 18 #[v] w fun e w' => e = .returned (.tuple #[.string ⟨r.toArray⟩, .int .i64 er]) ∧ Below w.heap.size w w' := by
  by_cases hlong : 100 < l.length
  case pos =>
    have e := hr.out
    rw [scBatch_long hlong] at e
    simp only [Prod.mk.injEq] at e
    obtain ⟨rfl, rfl⟩ := e
    exact scbat_long hv hlong
  case neg =>
  have HSH := Lib.hid hsh
  have hn1 : decide ((100 : Int) < (l.length : Int)) = false := by rw [decide_eq_false_iff_not]; omega
  have hn2 : decide (100 < l.length) = false := by rw [decide_eq_false_iff_not]; omega
  have hl100 : l.length ≤ 100 := by omega
  clear hsh hlong
  have HV := Lib.hid hv
  obtain ⟨av, cv, rfl, -⟩ := RdS.open' hv
  clear hv
  have HW := Lib.hid (fun W (acc l : List UInt8) h1 h2 h3 => Tryz.Builder_WriteString_k w.heap.size w.heap.size (Lib.byteCells acc) ⟨l.toArray⟩ W h1 h2 h3)
  have HStr := Lib.hid (fun W (acc : List UInt8) hI hb => Tryz.Builder_String_any_k w.heap.size w.heap.size acc W hI hb)
  have HF := Lib.hid (IsBuilderF.of (fresh_isBuilder 86 5 w))
  go_enter Tryz.func18, Tryz.ntmps18
  go_wp2_with fail
  go_loopw [14] (fun i wr => ∃ (k : Nat) (acc : List UInt8), k ≤ l.length ∧ i = .int .i64 k ∧ Hid (acc = scCat (l.take k)) ∧ Hid ((l.take k).all scMay = true) ∧ Hid (IsBuilderF 86 5 w.heap.size w.heap.size (Lib.byteCells acc) wr) ∧ Hid (Below w.heap.size w wr)) (fun i _ => l.length - (intOf i).toNat)
  case atStart => exact ⟨0, [], by omega, rfl, Lib.hid (by simp [scCat_nil]), Lib.hid (by simp), HF, Lib.hid ((Below.refl _ _).alloc (Nat.le_refl _) _)⟩
  case round =>
    clear HF
    obtain ⟨k, acc, hk, rfl, HA, HM, F, HB⟩ := hrel
    have hal : acc.length ≤ 13000 := by rw [HA.out]; exact scCat_take_len hl100 k HM.out
    by_cases hlt : k < l.length
    case pos =>
      obtain ⟨b, off, rfl, hc⟩ := RdS.row HV.out HB.out k hlt
      obtain ⟨⟨kk, u, o, id, ⟨x, y, z, st⟩⟩, he⟩ : ∃ r, l.getD k Ev.zero = r := ⟨_, rfl⟩
      have hes := HSH.out _ (by rw [evgetD hlt]; exact List.getElem_mem hlt : l.getD k Ev.zero ∈ l)
      rw [he] at hc hes
      obtain ⟨m0, m1, m2, m3, m4, m5, m6, m7⟩ := eightAt hc
      obtain ⟨q, hq⟩ : ∃ q, scMay ⟨kk, u, o, id, ⟨x, y, z, st⟩⟩ = q := ⟨_, rfl⟩
      clear hc
      cases q with
      | false =>
        have e := hr.out
        rw [scBatch_bad hlt (by rw [he]; exact hq)] at e
        simp only [Prod.mk.injEq] at e
        obtain ⟨rfl, rfl⟩ := e
        have HX := Lib.hid (scEnc_no hq)
        clear hq he
        go_wp2_with fail
        refine (scenc_any kk u o st id x y z hes HX _).mono ?_
        rintro e w4 ⟨rfl, b4⟩
        have HB4 := Lib.hid (below2Z HB.out (below2Z (bl_newZ wr _) b4))
        clear b4 m0 m1 m2 m3 m4 m5 m6 m7
        go_wp2_with fail
        go_ret2
        exact ⟨rfl, HB4.out⟩
      | true =>
        have HX := Lib.hid (scEnc_yes hq)
        have HA2 := Lib.hid (show acc ++ (vput (cseal (scBytes ⟨kk, u, o, id, ⟨x, y, z, st⟩⟩)).length ++ cseal (scBytes ⟨kk, u, o, id, ⟨x, y, z, st⟩⟩)) = scCat (l.take (k + 1)) by rw [scCat_next hlt he, HA.out])
        have HM2 := Lib.hid (all_nextU hlt he HM.out hq)
        have hcl := scBytes_short hq
        generalize cseal (scBytes ⟨kk, u, o, id, ⟨x, y, z, st⟩⟩) = cs at HX HA2 hcl
        have hvl := vput_len_le cs.length
        have HT := Lib.hid (text_any cs (by omega))
        obtain ⟨p, hp⟩ : ∃ p, vput cs.length ++ cs = p := ⟨_, rfl⟩
        rw [hp] at HT HA2
        have hpl : p.length ≤ 200 := by rw [← hp, List.length_append]; omega
        clear hq he hp hvl
        go_wp2_with fail
        refine (scenc_any kk u o st id x y z hes HX _).mono ?_
        rintro e w4 ⟨rfl, b4⟩
        have HB4 := Lib.hid (below2Z HB.out (below2Z (bl_newZ wr _) b4))
        have F4 := Lib.hid (builder_later F.out (below2Z (bl_newZ wr _) b4))
        clear b4 m0 m1 m2 m3 m4 m5 m6 m7
        go_wp2_with fail
        refine (HT.out _).mono ?_
        rintro e w5 ⟨rfl, b5⟩
        have HB5 := Lib.hid (below2Z HB4.out b5)
        have F5 := Lib.hid (builder_later F4.out b5)
        have hz5 := HB5.out.size
        clear b5 HB4 F4
        go_wp2_with fail
        refine (HW.out _ acc p F5.out (by rw [Lib.byteCells_length, size_bytes]; omega) hz5).mono ?_
        rintro e w6 ⟨rfl, h6, b6, _⟩
        have F6 : Hid (IsBuilderF 86 5 w.heap.size w.heap.size (Lib.byteCells (acc ++ p)) w6) := by
          show IsBuilderF _ _ _ _ _ _
          rw [Lib.byteCells_append]
          exact Or.inr h6
        have HB6 := Lib.hid (HB5.out.trans b6)
        clear h6 b6 HB5 F5 hz5
        go_wp2_with fail
        go_roundw
        case rel => exact ⟨k + 1, acc ++ p, by omega, by go_num, HA2, HM2, F6, HB6⟩
        case measure => simp [intOf]; omega
    case neg =>
      have e := hr.out
      have ht : l.take k = l := List.take_of_length_le (by omega)
      have ha := HM.out
      rw [ht] at ha
      rw [scBatch_all hl100 ha] at e
      simp only [Prod.mk.injEq] at e
      obtain ⟨e1, rfl⟩ := e
      have HR : Hid (acc = r) := Lib.hid (by rw [HA.out, ht, e1])
      have t9 : decide ((k : Int) < (l.length : Int)) = false := by rw [decide_eq_false_iff_not]; omega
      clear e1 ht ha
      have hz := HB.out.size
      go_wp2_with fail
      refine (HStr.out _ acc F.out hz).mono ?_
      rintro e w8 ⟨rfl, _, b8, _⟩
      have HB8 := Lib.hid (HB.out.trans b8)
      clear b8
      go_wp2_with fail
      go_ret2
      exact ⟨by rw [HR.out]; rfl, HB8.out⟩

set_option maxHeartbeats 1600000 in
set_option maxRecDepth 100000 in
/-- Two lists that are the same. -/
theorem scsame_yes {w : World} {v v2 : Value} {l : List Ev} (hv : Evs w v l) (hv2 : Evs w v2 l) :
    Calls Tryz.prog 20 #[v, v2] w fun e w' => e = .returned (.bool true) ∧ Below w.heap.size w w' := by
  have HV := Lib.hid hv
  have HV2 := Lib.hid hv2
  obtain ⟨av, cv, rfl, hlm⟩ := RdS.open' hv
  obtain ⟨av2, cv2, rfl, -⟩ := RdS.open' hv2
  clear hv hv2
  have tl : ((l.length : Int) != (l.length : Int)) = false := by simp
  have hll : l.length ≤ 9223372036854775807 := hlm
  go_enter Tryz.func20, Tryz.ntmps20
  go_wp2_with fail
  go_loopw [5] (fun i wr => ∃ k : Nat, k ≤ l.length ∧ i = .int .i64 k ∧ Hid (Below w.heap.size w wr)) (fun i _ => l.length - (intOf i).toNat)
  case atStart => exact ⟨0, by omega, rfl, Lib.hid (Below.refl _ _)⟩
  case round =>
    obtain ⟨k, hk, rfl, HB⟩ := hrel
    by_cases hlt : k < l.length
    case pos =>
      obtain ⟨b, off, rfl, hc⟩ := RdS.row HV.out HB.out k hlt
      obtain ⟨b2, off2, rfl, hc2⟩ := RdS.row HV2.out HB.out k hlt
      obtain ⟨⟨kk, u, o, id, ⟨x, y, z, st⟩⟩, he⟩ : ∃ r, l.getD k Ev.zero = r := ⟨_, rfl⟩
      rw [he] at hc hc2
      obtain ⟨m0, m1, m2, m3, m4, m5, m6, m7⟩ := eightAt hc
      obtain ⟨n0, n1, n2, n3, n4, n5, n6, n7⟩ := eightAt hc2
      have heq := fun w => (ev_neq kk kk id id u u o o x y z x y z st st w).trans (by rw [evEq_self])
      clear hc hc2 he
      go_wp2_with fail
      go_region
      go_wp2_with fail
      go_roundw
      case rel => exact ⟨k + 1, by omega, by go_num, Lib.hid HB.out.drew⟩
      case measure => simp [intOf]; omega
    case neg =>
      have t9 : decide ((k : Int) < (l.length : Int)) = false := by rw [decide_eq_false_iff_not]; omega
      go_wp2_with fail
      go_ret
      exact ⟨rfl, HB.out⟩

end Go.Proofs.YthfkfonfiejbmaaGreat

end

section

/-
  LAYER 23, THE CODE: Fold.
-/
namespace Go.Proofs.YthfkfonfiejbmaaGreat
open Go.RowKit

def scFolded (e : Ev) : Ev := ⟨e.k, (idFold e.u).1, (idFold e.o).1, e.id, e.v⟩

def scFold (e : Ev) : Ev × Bool :=
  if e.o ≠ [] ∧ (idFold e.o).2 = false then (Ev.zero, false)
  else if scMay (scFolded e) = true then (scFolded e, true) else (Ev.zero, false)

theorem idFold_nil : idFold [] = ([], false) := by
  rcases idFold_cases [] with ⟨h, h2⟩ | ⟨h, _⟩
  · exact absurd (idIs_parts h2).1 (by simp [idLow])
  · exact h

theorem idFold_short (l : List UInt8) : (idFold l).1.length ≤ l.length := by
  rcases idFold_cases l with ⟨h, _⟩ | ⟨h, _⟩ <;> rw [h] <;> simp [idLow_len]

theorem scFold_is {e f : Ev} (h : scFold e = (f, true)) : scMay f = true := by
  unfold scFold at h
  split at h
  · simp at h
  · split at h
    · rename_i h1
      simp only [Prod.mk.injEq, and_true] at h
      rw [← h]; exact h1
    · simp at h

theorem scFold_not {e f : Ev} (h : scFold e = (f, false)) : f = Ev.zero := by
  unfold scFold at h
  split at h
  · simp only [Prod.mk.injEq, and_true] at h; exact h.symm
  · split at h
    · simp at h
    · simp only [Prod.mk.injEq, and_true] at h; exact h.symm

theorem scFold_short {e f : Ev} {r : Bool} (h : scFold e = (f, r)) : f.u.length ≤ e.u.length ∧ f.o.length ≤ e.o.length ∧ f.v.st.length ≤ e.v.st.length := by
  have hu := idFold_short e.u
  have ho := idFold_short e.o
  unfold scFold at h
  split at h
  · simp only [Prod.mk.injEq] at h; rw [← h.1]; simp [Ev.zero, Val.zero]
  · split at h
    · simp only [Prod.mk.injEq] at h; rw [← h.1]; exact ⟨hu, ho, Nat.le_refl _⟩
    · simp only [Prod.mk.injEq] at h; rw [← h.1]; simp [Ev.zero, Val.zero]

set_option maxHeartbeats 1600000 in
set_option maxRecDepth 100000 in
theorem scfold_ny (k : Int) (u st : List UInt8) (id a b c : Int) (hu : u.length ≤ 4294967296) {u2 : List UInt8} {q : Bool} (HU : Hid (idFold u = (u2, q))) (hsh : evShort ⟨k, u2, [], id, ⟨a, b, c, st⟩⟩) (HM : Hid (scMay ⟨k, u2, [], id, ⟨a, b, c, st⟩⟩ = true)) (w : World) :
    Calls Tryz.prog 8 #[.agg #[.int .i64 k, .string ⟨u.toArray⟩, .string ⟨#[]⟩, .int .i64 id, .int .i64 a, .int .i64 b, .int .i64 c, .string ⟨st.toArray⟩]] w fun e w' => e = .returned (.tuple #[.agg #[.int .i64 k, .string ⟨u2.toArray⟩, .string ⟨#[]⟩, .int .i64 id, .int .i64 a, .int .i64 b, .int .i64 c, .string ⟨st.toArray⟩], .bool true]) ∧ Below w.heap.size w w' := by
  have b0 := bl_newZ w (.cells #[.int .i64 k, .string ⟨u.toArray⟩, .string ⟨#[]⟩, .int .i64 id, .int .i64 a, .int .i64 b, .int .i64 c, .string ⟨st.toArray⟩] 29)
  have b1 := bl_newZ (w.alloc (.cells #[.int .i64 k, .string ⟨u.toArray⟩, .string ⟨#[]⟩, .int .i64 id, .int .i64 a, .int .i64 b, .int .i64 c, .string ⟨st.toArray⟩] 29)) (.cells #[.int .i64 0, .string ⟨#[]⟩, .string ⟨#[]⟩, .int .i64 0, .int .i64 0, .int .i64 0, .int .i64 0, .string ⟨#[]⟩] 29)
  have HB := Lib.hid (below2Z b0 b1)
  have E := newQ w (.cells #[.int .i64 k, .string ⟨u.toArray⟩, .string ⟨#[]⟩, .int .i64 id, .int .i64 a, .int .i64 b, .int .i64 c, .string ⟨st.toArray⟩] 29)
  replace E := upQ E b1
  replace E := Lib.hid E
  have R := newQ (w.alloc (.cells #[.int .i64 k, .string ⟨u.toArray⟩, .string ⟨#[]⟩, .int .i64 id, .int .i64 a, .int .i64 b, .int .i64 c, .string ⟨st.toArray⟩] 29)) (.cells #[.int .i64 0, .string ⟨#[]⟩, .string ⟨#[]⟩, .int .i64 0, .int .i64 0, .int .i64 0, .int .i64 0, .string ⟨#[]⟩] 29)
  rw [World.size_alloc] at R
  replace R := Lib.hid R
  clear b0 b1
  go_enter Tryz.func8, Tryz.ntmps8
  go_wp2_with fail
  refine (fold_eq u hu HU _).mono ?_
  rintro e w3 ⟨rfl, b3⟩
  replace E := Lib.hid (upQ E.out b3)
  replace R := Lib.hid (upQ R.out b3)
  replace HB := Lib.hid (below2Z HB.out b3)
  clear b3
  obtain ⟨⟨Ec0, Ec1, Ec2, Ec3, Ec4, Ec5, Ec6, Ec7⟩, ⟨Ef0, Ef1, Ef2, Ef3, Ef4, Ef5, Ef6, Ef7⟩⟩ := blk8 E.out
  go_wp2_with fail
  clear Ec0 Ec1 Ec2 Ec3 Ec4 Ec5 Ec6 Ec7 Ef0 Ef1 Ef2 Ef3 Ef4 Ef5 Ef6 Ef7
  have E2 : (w3.setCell ⟨w.heap.size, 1, none⟩ (.string ⟨u2.toArray⟩)).heap[w.heap.size]? = some (.cells #[.int .i64 k, .string ⟨u2.toArray⟩, .string ⟨#[]⟩, .int .i64 id, .int .i64 a, .int .i64 b, .int .i64 c, .string ⟨st.toArray⟩] 29 (0, 0)) := heap_setCell_same w3 w.heap.size 1 _ _ _ E.out
  have R2 : (w3.setCell ⟨w.heap.size, 1, none⟩ (.string ⟨u2.toArray⟩)).heap[w.heap.size + 1]? = some (.cells #[.int .i64 0, .string ⟨#[]⟩, .string ⟨#[]⟩, .int .i64 0, .int .i64 0, .int .i64 0, .int .i64 0, .string ⟨#[]⟩] 29 (0, 0)) := by rw [heap_setCell_other _ ⟨w.heap.size, 1, none⟩ (w.heap.size + 1) _ (by simp)]; exact R.out
  have HB2 : Below w.heap.size w (w3.setCell ⟨w.heap.size, 1, none⟩ (.string ⟨u2.toArray⟩)) := HB.out.setCell (Nat.le_refl _) _
  replace E := Lib.hid E2
  replace R := Lib.hid R2
  replace HB := Lib.hid HB2
  clear E2 R2 HB2
  generalize w3.setCell ⟨w.heap.size, 1, none⟩ (.string ⟨u2.toArray⟩) = w4 at E R HB ⊢
  refine (scmay_any k u2 [] st id a b c hsh HM _).mono ?_
  rintro e w5 ⟨rfl, b5⟩
  replace E := Lib.hid (upQ E.out b5)
  replace R := Lib.hid (upQ R.out b5)
  replace HB := Lib.hid (below2Z HB.out b5)
  clear b5
  obtain ⟨⟨Rc0, Rc1, Rc2, Rc3, Rc4, Rc5, Rc6, Rc7⟩, ⟨Rf0, Rf1, Rf2, Rf3, Rf4, Rf5, Rf6, Rf7⟩⟩ := blk8 R.out
  obtain ⟨⟨Ec0, Ec1, Ec2, Ec3, Ec4, Ec5, Ec6, Ec7⟩, ⟨Ef0, Ef1, Ef2, Ef3, Ef4, Ef5, Ef6, Ef7⟩⟩ := blk8 E.out
  go_wp2_with fail
  refine bodyPost_ret (v := .tuple #[.agg #[.int .i64 k, .string ⟨u2.toArray⟩, .string ⟨#[]⟩, .int .i64 id, .int .i64 a, .int .i64 b, .int .i64 c, .string ⟨st.toArray⟩], .bool true]) (by simp [results, Tryz.results8, go_sem, Rc0, Rc1, Rc2, Rc3, Rc4, Rc5, Rc6, Rc7]) rfl ⟨rfl, ?_⟩
  exact ((((((((HB.out.setCell (Nat.le_succ _) _).setCell (Nat.le_succ _) _).setCell (Nat.le_succ _) _).setCell (Nat.le_succ _) _).setCell (Nat.le_succ _) _).setCell (Nat.le_succ _) _).setCell (Nat.le_succ _) _).setCell (Nat.le_succ _) _)

set_option maxHeartbeats 1600000 in
set_option maxRecDepth 100000 in
theorem scfold_oy (k : Int) (u st : List UInt8) (x : UInt8) (o : List UInt8) (id a b c : Int) (hu : u.length ≤ 4294967296) (ho : (x :: o).length ≤ 4294967296) {u2 : List UInt8} {q : Bool} (HU : Hid (idFold u = (u2, q))) {o2 : List UInt8} (HO : Hid (idFold (x :: o) = (o2, true))) (hsh : evShort ⟨k, u2, o2, id, ⟨a, b, c, st⟩⟩) (HM : Hid (scMay ⟨k, u2, o2, id, ⟨a, b, c, st⟩⟩ = true)) (w : World) :
    Calls Tryz.prog 8 #[.agg #[.int .i64 k, .string ⟨u.toArray⟩, .string ⟨(x :: o).toArray⟩, .int .i64 id, .int .i64 a, .int .i64 b, .int .i64 c, .string ⟨st.toArray⟩]] w fun e w' => e = .returned (.tuple #[.agg #[.int .i64 k, .string ⟨u2.toArray⟩, .string ⟨o2.toArray⟩, .int .i64 id, .int .i64 a, .int .i64 b, .int .i64 c, .string ⟨st.toArray⟩], .bool true]) ∧ Below w.heap.size w w' := by
  have b0 := bl_newZ w (.cells #[.int .i64 k, .string ⟨u.toArray⟩, .string ⟨(x :: o).toArray⟩, .int .i64 id, .int .i64 a, .int .i64 b, .int .i64 c, .string ⟨st.toArray⟩] 29)
  have b1 := bl_newZ (w.alloc (.cells #[.int .i64 k, .string ⟨u.toArray⟩, .string ⟨(x :: o).toArray⟩, .int .i64 id, .int .i64 a, .int .i64 b, .int .i64 c, .string ⟨st.toArray⟩] 29)) (.cells #[.int .i64 0, .string ⟨#[]⟩, .string ⟨#[]⟩, .int .i64 0, .int .i64 0, .int .i64 0, .int .i64 0, .string ⟨#[]⟩] 29)
  have HB := Lib.hid (below2Z b0 b1)
  have E := newQ w (.cells #[.int .i64 k, .string ⟨u.toArray⟩, .string ⟨(x :: o).toArray⟩, .int .i64 id, .int .i64 a, .int .i64 b, .int .i64 c, .string ⟨st.toArray⟩] 29)
  replace E := upQ E b1
  replace E := Lib.hid E
  have R := newQ (w.alloc (.cells #[.int .i64 k, .string ⟨u.toArray⟩, .string ⟨(x :: o).toArray⟩, .int .i64 id, .int .i64 a, .int .i64 b, .int .i64 c, .string ⟨st.toArray⟩] 29)) (.cells #[.int .i64 0, .string ⟨#[]⟩, .string ⟨#[]⟩, .int .i64 0, .int .i64 0, .int .i64 0, .int .i64 0, .string ⟨#[]⟩] 29)
  rw [World.size_alloc] at R
  replace R := Lib.hid R
  clear b0 b1
  go_enter Tryz.func8, Tryz.ntmps8
  go_wp2_with fail
  refine (fold_eq u hu HU _).mono ?_
  rintro e w3 ⟨rfl, b3⟩
  replace E := Lib.hid (upQ E.out b3)
  replace R := Lib.hid (upQ R.out b3)
  replace HB := Lib.hid (below2Z HB.out b3)
  clear b3
  obtain ⟨⟨Ec0, Ec1, Ec2, Ec3, Ec4, Ec5, Ec6, Ec7⟩, ⟨Ef0, Ef1, Ef2, Ef3, Ef4, Ef5, Ef6, Ef7⟩⟩ := blk8 E.out
  go_wp2_with fail
  clear Ec0 Ec1 Ec2 Ec3 Ec4 Ec5 Ec6 Ec7 Ef0 Ef1 Ef2 Ef3 Ef4 Ef5 Ef6 Ef7
  have E2 : (w3.setCell ⟨w.heap.size, 1, none⟩ (.string ⟨u2.toArray⟩)).heap[w.heap.size]? = some (.cells #[.int .i64 k, .string ⟨u2.toArray⟩, .string ⟨(x :: o).toArray⟩, .int .i64 id, .int .i64 a, .int .i64 b, .int .i64 c, .string ⟨st.toArray⟩] 29 (0, 0)) := heap_setCell_same w3 w.heap.size 1 _ _ _ E.out
  have R2 : (w3.setCell ⟨w.heap.size, 1, none⟩ (.string ⟨u2.toArray⟩)).heap[w.heap.size + 1]? = some (.cells #[.int .i64 0, .string ⟨#[]⟩, .string ⟨#[]⟩, .int .i64 0, .int .i64 0, .int .i64 0, .int .i64 0, .string ⟨#[]⟩] 29 (0, 0)) := by rw [heap_setCell_other _ ⟨w.heap.size, 1, none⟩ (w.heap.size + 1) _ (by simp)]; exact R.out
  have HB2 : Below w.heap.size w (w3.setCell ⟨w.heap.size, 1, none⟩ (.string ⟨u2.toArray⟩)) := HB.out.setCell (Nat.le_refl _) _
  replace E := Lib.hid E2
  replace R := Lib.hid R2
  replace HB := Lib.hid HB2
  clear E2 R2 HB2
  generalize w3.setCell ⟨w.heap.size, 1, none⟩ (.string ⟨u2.toArray⟩) = w4 at E R HB ⊢
  refine (fold_eq (x :: o) ho HO _).mono ?_
  rintro e w5 ⟨rfl, b5⟩
  replace E := Lib.hid (upQ E.out b5)
  replace R := Lib.hid (upQ R.out b5)
  replace HB := Lib.hid (below2Z HB.out b5)
  clear b5
  obtain ⟨⟨Ec0, Ec1, Ec2, Ec3, Ec4, Ec5, Ec6, Ec7⟩, ⟨Ef0, Ef1, Ef2, Ef3, Ef4, Ef5, Ef6, Ef7⟩⟩ := blk8 E.out
  go_wp2_with fail
  clear Ec0 Ec1 Ec2 Ec3 Ec4 Ec5 Ec6 Ec7 Ef0 Ef1 Ef2 Ef3 Ef4 Ef5 Ef6 Ef7
  have E2 : (w5.setCell ⟨w.heap.size, 2, none⟩ (.string ⟨o2.toArray⟩)).heap[w.heap.size]? = some (.cells #[.int .i64 k, .string ⟨u2.toArray⟩, .string ⟨o2.toArray⟩, .int .i64 id, .int .i64 a, .int .i64 b, .int .i64 c, .string ⟨st.toArray⟩] 29 (0, 0)) := heap_setCell_same w5 w.heap.size 2 _ _ _ E.out
  have R2 : (w5.setCell ⟨w.heap.size, 2, none⟩ (.string ⟨o2.toArray⟩)).heap[w.heap.size + 1]? = some (.cells #[.int .i64 0, .string ⟨#[]⟩, .string ⟨#[]⟩, .int .i64 0, .int .i64 0, .int .i64 0, .int .i64 0, .string ⟨#[]⟩] 29 (0, 0)) := by rw [heap_setCell_other _ ⟨w.heap.size, 2, none⟩ (w.heap.size + 1) _ (by simp)]; exact R.out
  have HB2 : Below w.heap.size w (w5.setCell ⟨w.heap.size, 2, none⟩ (.string ⟨o2.toArray⟩)) := HB.out.setCell (Nat.le_refl _) _
  replace E := Lib.hid E2
  replace R := Lib.hid R2
  replace HB := Lib.hid HB2
  clear E2 R2 HB2
  generalize w5.setCell ⟨w.heap.size, 2, none⟩ (.string ⟨o2.toArray⟩) = w6 at E R HB ⊢
  refine (scmay_any k u2 o2 st id a b c hsh HM _).mono ?_
  rintro e w7 ⟨rfl, b7⟩
  replace E := Lib.hid (upQ E.out b7)
  replace R := Lib.hid (upQ R.out b7)
  replace HB := Lib.hid (below2Z HB.out b7)
  clear b7
  obtain ⟨⟨Rc0, Rc1, Rc2, Rc3, Rc4, Rc5, Rc6, Rc7⟩, ⟨Rf0, Rf1, Rf2, Rf3, Rf4, Rf5, Rf6, Rf7⟩⟩ := blk8 R.out
  obtain ⟨⟨Ec0, Ec1, Ec2, Ec3, Ec4, Ec5, Ec6, Ec7⟩, ⟨Ef0, Ef1, Ef2, Ef3, Ef4, Ef5, Ef6, Ef7⟩⟩ := blk8 E.out
  go_wp2_with fail
  refine bodyPost_ret (v := .tuple #[.agg #[.int .i64 k, .string ⟨u2.toArray⟩, .string ⟨o2.toArray⟩, .int .i64 id, .int .i64 a, .int .i64 b, .int .i64 c, .string ⟨st.toArray⟩], .bool true]) (by simp [results, Tryz.results8, go_sem, Rc0, Rc1, Rc2, Rc3, Rc4, Rc5, Rc6, Rc7]) rfl ⟨rfl, ?_⟩
  exact ((((((((HB.out.setCell (Nat.le_succ _) _).setCell (Nat.le_succ _) _).setCell (Nat.le_succ _) _).setCell (Nat.le_succ _) _).setCell (Nat.le_succ _) _).setCell (Nat.le_succ _) _).setCell (Nat.le_succ _) _).setCell (Nat.le_succ _) _)

set_option maxHeartbeats 1600000 in
set_option maxRecDepth 100000 in
theorem scfold_nn (k : Int) (u st : List UInt8) (id a b c : Int) (hu : u.length ≤ 4294967296) {u2 : List UInt8} {q : Bool} (HU : Hid (idFold u = (u2, q))) (hsh : evShort ⟨k, u2, [], id, ⟨a, b, c, st⟩⟩) (HM : Hid (scMay ⟨k, u2, [], id, ⟨a, b, c, st⟩⟩ = false)) (w : World) :
    Calls Tryz.prog 8 #[.agg #[.int .i64 k, .string ⟨u.toArray⟩, .string ⟨#[]⟩, .int .i64 id, .int .i64 a, .int .i64 b, .int .i64 c, .string ⟨st.toArray⟩]] w fun e w' => e = .returned (.tuple #[.agg #[.int .i64 0, .string ⟨#[]⟩, .string ⟨#[]⟩, .int .i64 0, .int .i64 0, .int .i64 0, .int .i64 0, .string ⟨#[]⟩], .bool false]) ∧ Below w.heap.size w w' := by
  have b0 := bl_newZ w (.cells #[.int .i64 k, .string ⟨u.toArray⟩, .string ⟨#[]⟩, .int .i64 id, .int .i64 a, .int .i64 b, .int .i64 c, .string ⟨st.toArray⟩] 29)
  have b1 := bl_newZ (w.alloc (.cells #[.int .i64 k, .string ⟨u.toArray⟩, .string ⟨#[]⟩, .int .i64 id, .int .i64 a, .int .i64 b, .int .i64 c, .string ⟨st.toArray⟩] 29)) (.cells #[.int .i64 0, .string ⟨#[]⟩, .string ⟨#[]⟩, .int .i64 0, .int .i64 0, .int .i64 0, .int .i64 0, .string ⟨#[]⟩] 29)
  have HB := Lib.hid (below2Z b0 b1)
  have E := newQ w (.cells #[.int .i64 k, .string ⟨u.toArray⟩, .string ⟨#[]⟩, .int .i64 id, .int .i64 a, .int .i64 b, .int .i64 c, .string ⟨st.toArray⟩] 29)
  replace E := upQ E b1
  replace E := Lib.hid E
  have R := newQ (w.alloc (.cells #[.int .i64 k, .string ⟨u.toArray⟩, .string ⟨#[]⟩, .int .i64 id, .int .i64 a, .int .i64 b, .int .i64 c, .string ⟨st.toArray⟩] 29)) (.cells #[.int .i64 0, .string ⟨#[]⟩, .string ⟨#[]⟩, .int .i64 0, .int .i64 0, .int .i64 0, .int .i64 0, .string ⟨#[]⟩] 29)
  rw [World.size_alloc] at R
  replace R := Lib.hid R
  clear b0 b1
  go_enter Tryz.func8, Tryz.ntmps8
  go_wp2_with fail
  refine (fold_eq u hu HU _).mono ?_
  rintro e w3 ⟨rfl, b3⟩
  replace E := Lib.hid (upQ E.out b3)
  replace R := Lib.hid (upQ R.out b3)
  replace HB := Lib.hid (below2Z HB.out b3)
  clear b3
  obtain ⟨⟨Ec0, Ec1, Ec2, Ec3, Ec4, Ec5, Ec6, Ec7⟩, ⟨Ef0, Ef1, Ef2, Ef3, Ef4, Ef5, Ef6, Ef7⟩⟩ := blk8 E.out
  go_wp2_with fail
  clear Ec0 Ec1 Ec2 Ec3 Ec4 Ec5 Ec6 Ec7 Ef0 Ef1 Ef2 Ef3 Ef4 Ef5 Ef6 Ef7
  have E2 : (w3.setCell ⟨w.heap.size, 1, none⟩ (.string ⟨u2.toArray⟩)).heap[w.heap.size]? = some (.cells #[.int .i64 k, .string ⟨u2.toArray⟩, .string ⟨#[]⟩, .int .i64 id, .int .i64 a, .int .i64 b, .int .i64 c, .string ⟨st.toArray⟩] 29 (0, 0)) := heap_setCell_same w3 w.heap.size 1 _ _ _ E.out
  have R2 : (w3.setCell ⟨w.heap.size, 1, none⟩ (.string ⟨u2.toArray⟩)).heap[w.heap.size + 1]? = some (.cells #[.int .i64 0, .string ⟨#[]⟩, .string ⟨#[]⟩, .int .i64 0, .int .i64 0, .int .i64 0, .int .i64 0, .string ⟨#[]⟩] 29 (0, 0)) := by rw [heap_setCell_other _ ⟨w.heap.size, 1, none⟩ (w.heap.size + 1) _ (by simp)]; exact R.out
  have HB2 : Below w.heap.size w (w3.setCell ⟨w.heap.size, 1, none⟩ (.string ⟨u2.toArray⟩)) := HB.out.setCell (Nat.le_refl _) _
  replace E := Lib.hid E2
  replace R := Lib.hid R2
  replace HB := Lib.hid HB2
  clear E2 R2 HB2
  generalize w3.setCell ⟨w.heap.size, 1, none⟩ (.string ⟨u2.toArray⟩) = w4 at E R HB ⊢
  refine (scmay_any k u2 [] st id a b c hsh HM _).mono ?_
  rintro e w5 ⟨rfl, b5⟩
  replace E := Lib.hid (upQ E.out b5)
  replace R := Lib.hid (upQ R.out b5)
  replace HB := Lib.hid (below2Z HB.out b5)
  clear b5
  obtain ⟨⟨Rc0, Rc1, Rc2, Rc3, Rc4, Rc5, Rc6, Rc7⟩, ⟨Rf0, Rf1, Rf2, Rf3, Rf4, Rf5, Rf6, Rf7⟩⟩ := blk8 R.out
  obtain ⟨⟨Ec0, Ec1, Ec2, Ec3, Ec4, Ec5, Ec6, Ec7⟩, ⟨Ef0, Ef1, Ef2, Ef3, Ef4, Ef5, Ef6, Ef7⟩⟩ := blk8 E.out
  go_wp2_with fail
  refine bodyPost_ret (v := .tuple #[.agg #[.int .i64 0, .string ⟨#[]⟩, .string ⟨#[]⟩, .int .i64 0, .int .i64 0, .int .i64 0, .int .i64 0, .string ⟨#[]⟩], .bool false]) (by simp [results, Tryz.results8, go_sem, Rc0, Rc1, Rc2, Rc3, Rc4, Rc5, Rc6, Rc7]) rfl ⟨rfl, ?_⟩
  exact ((((((((HB.out.setCell (Nat.le_succ _) _).setCell (Nat.le_succ _) _).setCell (Nat.le_succ _) _).setCell (Nat.le_succ _) _).setCell (Nat.le_succ _) _).setCell (Nat.le_succ _) _).setCell (Nat.le_succ _) _).setCell (Nat.le_succ _) _)

set_option maxHeartbeats 1600000 in
set_option maxRecDepth 100000 in
theorem scfold_on (k : Int) (u st : List UInt8) (x : UInt8) (o : List UInt8) (id a b c : Int) (hu : u.length ≤ 4294967296) (ho : (x :: o).length ≤ 4294967296) {u2 : List UInt8} {q : Bool} (HU : Hid (idFold u = (u2, q))) {o2 : List UInt8} (HO : Hid (idFold (x :: o) = (o2, true))) (hsh : evShort ⟨k, u2, o2, id, ⟨a, b, c, st⟩⟩) (HM : Hid (scMay ⟨k, u2, o2, id, ⟨a, b, c, st⟩⟩ = false)) (w : World) :
    Calls Tryz.prog 8 #[.agg #[.int .i64 k, .string ⟨u.toArray⟩, .string ⟨(x :: o).toArray⟩, .int .i64 id, .int .i64 a, .int .i64 b, .int .i64 c, .string ⟨st.toArray⟩]] w fun e w' => e = .returned (.tuple #[.agg #[.int .i64 0, .string ⟨#[]⟩, .string ⟨#[]⟩, .int .i64 0, .int .i64 0, .int .i64 0, .int .i64 0, .string ⟨#[]⟩], .bool false]) ∧ Below w.heap.size w w' := by
  have b0 := bl_newZ w (.cells #[.int .i64 k, .string ⟨u.toArray⟩, .string ⟨(x :: o).toArray⟩, .int .i64 id, .int .i64 a, .int .i64 b, .int .i64 c, .string ⟨st.toArray⟩] 29)
  have b1 := bl_newZ (w.alloc (.cells #[.int .i64 k, .string ⟨u.toArray⟩, .string ⟨(x :: o).toArray⟩, .int .i64 id, .int .i64 a, .int .i64 b, .int .i64 c, .string ⟨st.toArray⟩] 29)) (.cells #[.int .i64 0, .string ⟨#[]⟩, .string ⟨#[]⟩, .int .i64 0, .int .i64 0, .int .i64 0, .int .i64 0, .string ⟨#[]⟩] 29)
  have HB := Lib.hid (below2Z b0 b1)
  have E := newQ w (.cells #[.int .i64 k, .string ⟨u.toArray⟩, .string ⟨(x :: o).toArray⟩, .int .i64 id, .int .i64 a, .int .i64 b, .int .i64 c, .string ⟨st.toArray⟩] 29)
  replace E := upQ E b1
  replace E := Lib.hid E
  have R := newQ (w.alloc (.cells #[.int .i64 k, .string ⟨u.toArray⟩, .string ⟨(x :: o).toArray⟩, .int .i64 id, .int .i64 a, .int .i64 b, .int .i64 c, .string ⟨st.toArray⟩] 29)) (.cells #[.int .i64 0, .string ⟨#[]⟩, .string ⟨#[]⟩, .int .i64 0, .int .i64 0, .int .i64 0, .int .i64 0, .string ⟨#[]⟩] 29)
  rw [World.size_alloc] at R
  replace R := Lib.hid R
  clear b0 b1
  go_enter Tryz.func8, Tryz.ntmps8
  go_wp2_with fail
  refine (fold_eq u hu HU _).mono ?_
  rintro e w3 ⟨rfl, b3⟩
  replace E := Lib.hid (upQ E.out b3)
  replace R := Lib.hid (upQ R.out b3)
  replace HB := Lib.hid (below2Z HB.out b3)
  clear b3
  obtain ⟨⟨Ec0, Ec1, Ec2, Ec3, Ec4, Ec5, Ec6, Ec7⟩, ⟨Ef0, Ef1, Ef2, Ef3, Ef4, Ef5, Ef6, Ef7⟩⟩ := blk8 E.out
  go_wp2_with fail
  clear Ec0 Ec1 Ec2 Ec3 Ec4 Ec5 Ec6 Ec7 Ef0 Ef1 Ef2 Ef3 Ef4 Ef5 Ef6 Ef7
  have E2 : (w3.setCell ⟨w.heap.size, 1, none⟩ (.string ⟨u2.toArray⟩)).heap[w.heap.size]? = some (.cells #[.int .i64 k, .string ⟨u2.toArray⟩, .string ⟨(x :: o).toArray⟩, .int .i64 id, .int .i64 a, .int .i64 b, .int .i64 c, .string ⟨st.toArray⟩] 29 (0, 0)) := heap_setCell_same w3 w.heap.size 1 _ _ _ E.out
  have R2 : (w3.setCell ⟨w.heap.size, 1, none⟩ (.string ⟨u2.toArray⟩)).heap[w.heap.size + 1]? = some (.cells #[.int .i64 0, .string ⟨#[]⟩, .string ⟨#[]⟩, .int .i64 0, .int .i64 0, .int .i64 0, .int .i64 0, .string ⟨#[]⟩] 29 (0, 0)) := by rw [heap_setCell_other _ ⟨w.heap.size, 1, none⟩ (w.heap.size + 1) _ (by simp)]; exact R.out
  have HB2 : Below w.heap.size w (w3.setCell ⟨w.heap.size, 1, none⟩ (.string ⟨u2.toArray⟩)) := HB.out.setCell (Nat.le_refl _) _
  replace E := Lib.hid E2
  replace R := Lib.hid R2
  replace HB := Lib.hid HB2
  clear E2 R2 HB2
  generalize w3.setCell ⟨w.heap.size, 1, none⟩ (.string ⟨u2.toArray⟩) = w4 at E R HB ⊢
  refine (fold_eq (x :: o) ho HO _).mono ?_
  rintro e w5 ⟨rfl, b5⟩
  replace E := Lib.hid (upQ E.out b5)
  replace R := Lib.hid (upQ R.out b5)
  replace HB := Lib.hid (below2Z HB.out b5)
  clear b5
  obtain ⟨⟨Ec0, Ec1, Ec2, Ec3, Ec4, Ec5, Ec6, Ec7⟩, ⟨Ef0, Ef1, Ef2, Ef3, Ef4, Ef5, Ef6, Ef7⟩⟩ := blk8 E.out
  go_wp2_with fail
  clear Ec0 Ec1 Ec2 Ec3 Ec4 Ec5 Ec6 Ec7 Ef0 Ef1 Ef2 Ef3 Ef4 Ef5 Ef6 Ef7
  have E2 : (w5.setCell ⟨w.heap.size, 2, none⟩ (.string ⟨o2.toArray⟩)).heap[w.heap.size]? = some (.cells #[.int .i64 k, .string ⟨u2.toArray⟩, .string ⟨o2.toArray⟩, .int .i64 id, .int .i64 a, .int .i64 b, .int .i64 c, .string ⟨st.toArray⟩] 29 (0, 0)) := heap_setCell_same w5 w.heap.size 2 _ _ _ E.out
  have R2 : (w5.setCell ⟨w.heap.size, 2, none⟩ (.string ⟨o2.toArray⟩)).heap[w.heap.size + 1]? = some (.cells #[.int .i64 0, .string ⟨#[]⟩, .string ⟨#[]⟩, .int .i64 0, .int .i64 0, .int .i64 0, .int .i64 0, .string ⟨#[]⟩] 29 (0, 0)) := by rw [heap_setCell_other _ ⟨w.heap.size, 2, none⟩ (w.heap.size + 1) _ (by simp)]; exact R.out
  have HB2 : Below w.heap.size w (w5.setCell ⟨w.heap.size, 2, none⟩ (.string ⟨o2.toArray⟩)) := HB.out.setCell (Nat.le_refl _) _
  replace E := Lib.hid E2
  replace R := Lib.hid R2
  replace HB := Lib.hid HB2
  clear E2 R2 HB2
  generalize w5.setCell ⟨w.heap.size, 2, none⟩ (.string ⟨o2.toArray⟩) = w6 at E R HB ⊢
  refine (scmay_any k u2 o2 st id a b c hsh HM _).mono ?_
  rintro e w7 ⟨rfl, b7⟩
  replace E := Lib.hid (upQ E.out b7)
  replace R := Lib.hid (upQ R.out b7)
  replace HB := Lib.hid (below2Z HB.out b7)
  clear b7
  obtain ⟨⟨Rc0, Rc1, Rc2, Rc3, Rc4, Rc5, Rc6, Rc7⟩, ⟨Rf0, Rf1, Rf2, Rf3, Rf4, Rf5, Rf6, Rf7⟩⟩ := blk8 R.out
  obtain ⟨⟨Ec0, Ec1, Ec2, Ec3, Ec4, Ec5, Ec6, Ec7⟩, ⟨Ef0, Ef1, Ef2, Ef3, Ef4, Ef5, Ef6, Ef7⟩⟩ := blk8 E.out
  go_wp2_with fail
  refine bodyPost_ret (v := .tuple #[.agg #[.int .i64 0, .string ⟨#[]⟩, .string ⟨#[]⟩, .int .i64 0, .int .i64 0, .int .i64 0, .int .i64 0, .string ⟨#[]⟩], .bool false]) (by simp [results, Tryz.results8, go_sem, Rc0, Rc1, Rc2, Rc3, Rc4, Rc5, Rc6, Rc7]) rfl ⟨rfl, ?_⟩
  exact ((((((((HB.out.setCell (Nat.le_succ _) _).setCell (Nat.le_succ _) _).setCell (Nat.le_succ _) _).setCell (Nat.le_succ _) _).setCell (Nat.le_succ _) _).setCell (Nat.le_succ _) _).setCell (Nat.le_succ _) _).setCell (Nat.le_succ _) _)

set_option maxHeartbeats 1600000 in
set_option maxRecDepth 100000 in
theorem scfold_bad (k : Int) (u st : List UInt8) (x : UInt8) (o : List UInt8) (id a b c : Int) (hu : u.length ≤ 4294967296) (ho : (x :: o).length ≤ 4294967296) {u2 : List UInt8} {q : Bool} (HU : Hid (idFold u = (u2, q))) {o2 : List UInt8} (HO : Hid (idFold (x :: o) = (o2, false))) (w : World) :
    Calls Tryz.prog 8 #[.agg #[.int .i64 k, .string ⟨u.toArray⟩, .string ⟨(x :: o).toArray⟩, .int .i64 id, .int .i64 a, .int .i64 b, .int .i64 c, .string ⟨st.toArray⟩]] w fun e w' => e = .returned (.tuple #[.agg #[.int .i64 0, .string ⟨#[]⟩, .string ⟨#[]⟩, .int .i64 0, .int .i64 0, .int .i64 0, .int .i64 0, .string ⟨#[]⟩], .bool false]) ∧ Below w.heap.size w w' := by
  have b0 := bl_newZ w (.cells #[.int .i64 k, .string ⟨u.toArray⟩, .string ⟨(x :: o).toArray⟩, .int .i64 id, .int .i64 a, .int .i64 b, .int .i64 c, .string ⟨st.toArray⟩] 29)
  have b1 := bl_newZ (w.alloc (.cells #[.int .i64 k, .string ⟨u.toArray⟩, .string ⟨(x :: o).toArray⟩, .int .i64 id, .int .i64 a, .int .i64 b, .int .i64 c, .string ⟨st.toArray⟩] 29)) (.cells #[.int .i64 0, .string ⟨#[]⟩, .string ⟨#[]⟩, .int .i64 0, .int .i64 0, .int .i64 0, .int .i64 0, .string ⟨#[]⟩] 29)
  have HB := Lib.hid (below2Z b0 b1)
  have E := newQ w (.cells #[.int .i64 k, .string ⟨u.toArray⟩, .string ⟨(x :: o).toArray⟩, .int .i64 id, .int .i64 a, .int .i64 b, .int .i64 c, .string ⟨st.toArray⟩] 29)
  replace E := upQ E b1
  replace E := Lib.hid E
  have R := newQ (w.alloc (.cells #[.int .i64 k, .string ⟨u.toArray⟩, .string ⟨(x :: o).toArray⟩, .int .i64 id, .int .i64 a, .int .i64 b, .int .i64 c, .string ⟨st.toArray⟩] 29)) (.cells #[.int .i64 0, .string ⟨#[]⟩, .string ⟨#[]⟩, .int .i64 0, .int .i64 0, .int .i64 0, .int .i64 0, .string ⟨#[]⟩] 29)
  rw [World.size_alloc] at R
  replace R := Lib.hid R
  clear b0 b1
  go_enter Tryz.func8, Tryz.ntmps8
  go_wp2_with fail
  refine (fold_eq u hu HU _).mono ?_
  rintro e w3 ⟨rfl, b3⟩
  replace E := Lib.hid (upQ E.out b3)
  replace R := Lib.hid (upQ R.out b3)
  replace HB := Lib.hid (below2Z HB.out b3)
  clear b3
  obtain ⟨⟨Ec0, Ec1, Ec2, Ec3, Ec4, Ec5, Ec6, Ec7⟩, ⟨Ef0, Ef1, Ef2, Ef3, Ef4, Ef5, Ef6, Ef7⟩⟩ := blk8 E.out
  go_wp2_with fail
  clear Ec0 Ec1 Ec2 Ec3 Ec4 Ec5 Ec6 Ec7 Ef0 Ef1 Ef2 Ef3 Ef4 Ef5 Ef6 Ef7
  have E2 : (w3.setCell ⟨w.heap.size, 1, none⟩ (.string ⟨u2.toArray⟩)).heap[w.heap.size]? = some (.cells #[.int .i64 k, .string ⟨u2.toArray⟩, .string ⟨(x :: o).toArray⟩, .int .i64 id, .int .i64 a, .int .i64 b, .int .i64 c, .string ⟨st.toArray⟩] 29 (0, 0)) := heap_setCell_same w3 w.heap.size 1 _ _ _ E.out
  have R2 : (w3.setCell ⟨w.heap.size, 1, none⟩ (.string ⟨u2.toArray⟩)).heap[w.heap.size + 1]? = some (.cells #[.int .i64 0, .string ⟨#[]⟩, .string ⟨#[]⟩, .int .i64 0, .int .i64 0, .int .i64 0, .int .i64 0, .string ⟨#[]⟩] 29 (0, 0)) := by rw [heap_setCell_other _ ⟨w.heap.size, 1, none⟩ (w.heap.size + 1) _ (by simp)]; exact R.out
  have HB2 : Below w.heap.size w (w3.setCell ⟨w.heap.size, 1, none⟩ (.string ⟨u2.toArray⟩)) := HB.out.setCell (Nat.le_refl _) _
  replace E := Lib.hid E2
  replace R := Lib.hid R2
  replace HB := Lib.hid HB2
  clear E2 R2 HB2
  generalize w3.setCell ⟨w.heap.size, 1, none⟩ (.string ⟨u2.toArray⟩) = w4 at E R HB ⊢
  refine (fold_eq (x :: o) ho HO _).mono ?_
  rintro e w5 ⟨rfl, b5⟩
  replace E := Lib.hid (upQ E.out b5)
  replace R := Lib.hid (upQ R.out b5)
  replace HB := Lib.hid (below2Z HB.out b5)
  clear b5
  obtain ⟨⟨Rc0, Rc1, Rc2, Rc3, Rc4, Rc5, Rc6, Rc7⟩, ⟨Rf0, Rf1, Rf2, Rf3, Rf4, Rf5, Rf6, Rf7⟩⟩ := blk8 R.out
  go_wp2_with fail
  refine bodyPost_ret (v := .tuple #[.agg #[.int .i64 0, .string ⟨#[]⟩, .string ⟨#[]⟩, .int .i64 0, .int .i64 0, .int .i64 0, .int .i64 0, .string ⟨#[]⟩], .bool false]) (by simp [results, Tryz.results8, go_sem, Rc0, Rc1, Rc2, Rc3, Rc4, Rc5, Rc6, Rc7]) rfl ⟨rfl, ?_⟩
  exact ((((((((HB.out.setCell (Nat.le_succ _) _).setCell (Nat.le_succ _) _).setCell (Nat.le_succ _) _).setCell (Nat.le_succ _) _).setCell (Nat.le_succ _) _).setCell (Nat.le_succ _) _).setCell (Nat.le_succ _) _).setCell (Nat.le_succ _) _)

theorem evb_inj {k k' id id' a b c a' b' c' : Int} {u u' o o' st st' : List UInt8} {r r' : Bool} (h : ((⟨k, u, o, id, ⟨a, b, c, st⟩⟩ : Ev), r) = (⟨k', u', o', id', ⟨a', b', c', st'⟩⟩, r')) : k = k' ∧ u = u' ∧ o = o' ∧ id = id' ∧ a = a' ∧ b = b' ∧ c = c' ∧ st = st' ∧ r = r' := by
  simp only [Prod.mk.injEq, Ev.mk.injEq, Val.mk.injEq] at h
  obtain ⟨⟨h1, h2, h3, h4, h5, h6, h7, h8⟩, h9⟩ := h
  exact ⟨h1, h2, h3, h4, h5, h6, h7, h8, h9⟩

/-- P23.1, the code's Fold. -/
theorem scfold_any (k : Int) (u o st : List UInt8) (id a b c : Int) (hs : evShort ⟨k, u, o, id, ⟨a, b, c, st⟩⟩) {k2 id2 a2 b2 c2 : Int} {u2 o2 st2 : List UInt8} {r : Bool} (h : Hid (scFold ⟨k, u, o, id, ⟨a, b, c, st⟩⟩ = (⟨k2, u2, o2, id2, ⟨a2, b2, c2, st2⟩⟩, r))) (w : World) :
    Calls Tryz.prog 8 #[.agg #[.int .i64 k, .string ⟨u.toArray⟩, .string ⟨o.toArray⟩, .int .i64 id, .int .i64 a, .int .i64 b, .int .i64 c, .string ⟨st.toArray⟩]] w fun e w' => e = .returned (.tuple #[.agg #[.int .i64 k2, .string ⟨u2.toArray⟩, .string ⟨o2.toArray⟩, .int .i64 id2, .int .i64 a2, .int .i64 b2, .int .i64 c2, .string ⟨st2.toArray⟩], .bool r]) ∧ Below w.heap.size w w' := by
  have e := h.out
  clear h
  obtain ⟨s1, s2, s3⟩ := hs
  simp only at s1 s2 s3
  unfold scFold scFolded at e
  simp only at e
  obtain ⟨u0, q, hu⟩ : ∃ x q, idFold u = (x, q) := ⟨_, _, rfl⟩
  have hul := idFold_short u
  rw [hu] at e hul
  simp only at e hul
  cases o with
  | nil =>
    rw [if_neg (by simp), idFold_nil] at e
    simp only at e
    have hsh : evShort ⟨k, u0, [], id, ⟨a, b, c, st⟩⟩ := ⟨Nat.le_trans hul s1, by simp, s3⟩
    cases hm : scMay ⟨k, u0, [], id, ⟨a, b, c, st⟩⟩ with
    | false =>
      rw [if_neg (by rw [hm]; decide)] at e
      obtain ⟨rfl, rfl, rfl, rfl, rfl, rfl, rfl, rfl, rfl⟩ := evb_inj (show ((⟨0, [], [], 0, ⟨0, 0, 0, []⟩⟩ : Ev), false) = _ from e)
      exact scfold_nn k u st id a b c s1 (Lib.hid hu) hsh (Lib.hid hm) w
    | true =>
      rw [if_pos hm] at e
      obtain ⟨rfl, rfl, rfl, rfl, rfl, rfl, rfl, rfl, rfl⟩ := evb_inj e
      exact scfold_ny k u st id a b c s1 (Lib.hid hu) hsh (Lib.hid hm) w
  | cons x o =>
    obtain ⟨o0, p, ho⟩ : ∃ x2 q, idFold (x :: o) = (x2, q) := ⟨_, _, rfl⟩
    have hol := idFold_short (x :: o)
    rw [ho] at e hol
    simp only at e hol
    cases p with
    | false =>
      rw [if_pos ⟨by simp, rfl⟩] at e
      obtain ⟨rfl, rfl, rfl, rfl, rfl, rfl, rfl, rfl, rfl⟩ := evb_inj (show ((⟨0, [], [], 0, ⟨0, 0, 0, []⟩⟩ : Ev), false) = _ from e)
      exact scfold_bad k u st x o id a b c s1 s2 (Lib.hid hu) (Lib.hid ho) w
    | true =>
      rw [if_neg (by simp)] at e
      have hsh : evShort ⟨k, u0, o0, id, ⟨a, b, c, st⟩⟩ := ⟨Nat.le_trans hul s1, Nat.le_trans hol s2, s3⟩
      cases hm : scMay ⟨k, u0, o0, id, ⟨a, b, c, st⟩⟩ with
      | false =>
        rw [if_neg (by rw [hm]; decide)] at e
        obtain ⟨rfl, rfl, rfl, rfl, rfl, rfl, rfl, rfl, rfl⟩ := evb_inj (show ((⟨0, [], [], 0, ⟨0, 0, 0, []⟩⟩ : Ev), false) = _ from e)
        exact scfold_on k u st x o id a b c s1 s2 (Lib.hid hu) (Lib.hid ho) hsh (Lib.hid hm) w
      | true =>
        rw [if_pos hm] at e
        obtain ⟨rfl, rfl, rfl, rfl, rfl, rfl, rfl, rfl, rfl⟩ := evb_inj e
        exact scfold_oy k u st x o id a b c s1 s2 (Lib.hid hu) (Lib.hid ho) hsh (Lib.hid hm) w

end Go.Proofs.YthfkfonfiejbmaaGreat

end
