/-
  TEXTS OF THE PROOF, one behind the other: StaTwoP.
-/
import Derived.Test.YtdilcckoapaimaaGreatD01
import Derived.Test.YtdilcckoapaimaaGreatD10

/-
  LAYER 14, PLAIN: two events that touch nobody in common come to the same in any order.
-/
namespace Go.Proofs.YtdilcckoapaimaaGreat

def evSes (e : Ev) : Ses := ⟨e.u, e.id, e.v⟩

/-- What a session's event makes, by members. -/
theorem st_ses {t t' : Sta} {e : Ev} (h : stApply t e = (t', 0)) (h7 : e.k = 7 ∨ e.k = 8) : t'.e = t.e ∧ RiseO seLt t.s ∧ RiseO seLt t'.s ∧ ∀ y, y ∈ t'.s ↔ (e.k = 7 ∧ y = evSes e) ∨ (y ∈ t.s ∧ ¬ (y.u = e.u ∧ y.id = e.id)) := by
  obtain ⟨_, ⟨_, _, _, _⟩ | ⟨h7, hd, he⟩ | ⟨h8, hd, he⟩⟩ := stApply_ok h
  · omega
  · obtain ⟨m1, _, hm, _⟩ := sePut_ok hd
    have hr := (seMay_rise m1).2.1
    refine ⟨he, hr, hm ▸ rise_putO seOrd hr _, fun y => ?_⟩
    rw [hm, mem_putO seOrd hr, Bool.eq_false_iff, Ne, seIs_iff]
    simp only [h7, true_and]
    rfl
  · obtain ⟨m1, hm, _⟩ := seDrop_ok hd
    have hr := (seMay_rise m1).2.1
    refine ⟨he, hr, hm ▸ rise_dropO hr _, fun y => ?_⟩
    rw [hm, mem_dropO, Bool.eq_false_iff, Ne, seIs_iff, h8]
    simp [keyS]

/-- What a pair's event makes, by members. -/
theorem st_ent {t t' : Sta} {e : Ev} (h : stApply t e = (t', 0)) (h6 : e.k ≤ 6) : t'.s = t.s ∧ Rise t.e ∧ Rise t'.e ∧ e.u ≠ e.o ∧ ∃ a b, suAct (roIt t.e e.u e.o) (roIt t.e e.o e.u) e.k = (a, b, 0) ∧
    ∀ y, y ∈ t'.e ↔ ((!(suEmpty a && suEmpty b)) = true ∧ (y = ⟨e.u, e.o, a⟩ ∨ y = ⟨e.o, e.u, b⟩)) ∨ (y ∈ t.e ∧ ¬ (y.o = e.u ∧ y.c = e.o) ∧ ¬ (y.o = e.o ∧ y.c = e.u)) := by
  obtain ⟨_, ⟨_, _, hd, hs⟩ | ⟨h7, _, _⟩ | ⟨h8, _, _⟩⟩ := stApply_ok h
  · obtain ⟨hr, hr'⟩ := roDo_rises hd
    obtain ⟨_, _, _, huo, _, _, a, b, hx, _, hm⟩ := roDo_ok hd
    refine ⟨hs, hr, hr', huo, a, b, hx, fun y => ?_⟩
    rw [hm, roSet_mem hr huo]
  · omega
  · omega

theorem st_kind {t t' : Sta} {e : Ev} (h : stApply t e = (t', 0)) : (1 ≤ e.k ∧ e.k ≤ 6) ∨ e.k = 7 ∨ e.k = 8 := by
  obtain ⟨_, ⟨h1, h6, _, _⟩ | ⟨h7, _, _⟩ | ⟨h8, _, _⟩⟩ := stApply_ok h
  · exact .inl ⟨h1, h6⟩
  · exact .inr (.inl h7)
  · exact .inr (.inr h8)

theorem touch_u {e : Ev} (h1 : 1 ≤ e.k) (h8 : e.k ≤ 8) : e.u ∈ stTouch e := by
  by_cases h6 : e.k ≤ 6
  · rw [stTouch_two h1 h6, mrg_mem]; simp
  · rw [stTouch_one (by omega)]; simp

theorem touch_o {e : Ev} (h1 : 1 ≤ e.k) (h6 : e.k ≤ 6) : e.o ∈ stTouch e := by
  rw [stTouch_two h1 h6, mrg_mem]; simp

/-- The number of a Do hangs on the two alone. -/
theorem roDo_num {l m : List Ent} {k k2 : Int} {u o u2 o2 : List UInt8} (h : roDo l k2 u2 o2 = (m, 0)) (h1 : u ≠ u2) (h2 : u ≠ o2) (h3 : o ≠ u2) (h4 : o ≠ o2) : (roDo m k u o).2 = (roDo l k u o).2 := by
  have e1 : roMayC m = roMayC l := by rw [roDo_mayC h, roMay_iff.2 (roDo_ok h).1]
  have e2 : roIt m u o = roIt l u o := roDo_other h (fun e => h1 e.1) (fun e => h2 e.1)
  have e3 : roIt m o u = roIt l o u := roDo_other h (fun e => h3 e.1) (fun e => h4 e.1)
  have e4 := roDo_of h h1 h2
  have e5 := roDo_of h h3 h4
  have e6 : (m.any fun x => entIs x ⟨u, o, It.zero⟩) = (l.any fun x => entIs x ⟨u, o, It.zero⟩) := by
    rw [Bool.eq_iff_iff, roAny, roAny]
    constructor
    · rintro ⟨f, hf, a, b⟩
      exact ⟨f, (roDo_mem h (fun e => h1 (a.symm.trans e.1)) (fun e => h2 (a.symm.trans e.1))).1 hf, a, b⟩
    · rintro ⟨f, hf, a, b⟩
      exact ⟨f, (roDo_mem h (fun e => h1 (a.symm.trans e.1)) (fun e => h2 (a.symm.trans e.1))).2 hf, a, b⟩
  unfold roDo
  rw [e1, e2, e3, e4, e5, e6]
  split
  · obtain ⟨⟨a, b⟩, e, hx⟩ : ∃ p e, suAct (roIt l u o) (roIt l o u) k = (p.1, p.2, e) := ⟨(_, _), _, rfl⟩
    simp only at hx
    rw [hx]
    simp only
    split
    · rfl
    · split <;> rfl
  · rfl

theorem any_of (l : List Ses) (u : List UInt8) (id : Int) : (findO seIs l (keyS u id)).isSome = (seOf l u).any fun e => seIs e (keyS u id) := by
  rw [findO_isSome, Bool.eq_iff_iff, List.any_eq_true, List.any_eq_true]
  unfold seOf
  constructor
  · rintro ⟨x, hx, he⟩
    exact ⟨x, by rw [List.mem_filter, decide_eq_true_eq]; exact ⟨hx, (seIs_iff.1 he).1⟩, he⟩
  · rintro ⟨x, hx, he⟩
    exact ⟨x, (List.mem_filter.1 hx).1, he⟩

theorem sePut_num {l : List Ses} (hm : seMay l = true) (hl : l.length < 32) (x : Ses) : (sePut l x).2 = if seOne x = true then 0 else 1 := by
  unfold sePut
  by_cases h : seOne x = true
  · rw [if_pos ⟨hm, h⟩, if_pos (.inr hl), if_pos h]
  · rw [if_neg (fun e => h e.2), if_neg h]

theorem st_slen {t t' : Sta} {e : Ev} (h : stApply t e = (t', 0)) : t'.s.length ≤ t.s.length + 1 := by
  obtain ⟨_, ⟨_, _, _, hs⟩ | ⟨_, hd, _⟩ | ⟨_, hd, _⟩⟩ := stApply_ok h
  · rw [hs]; omega
  · obtain ⟨_, _, hm, _⟩ := sePut_ok hd
    rw [hm, putO_len]
    split <;> omega
  · obtain ⟨_, hm, _⟩ := seDrop_ok hd
    rw [hm]
    exact Nat.le_trans (List.length_filter_le _ _) (Nat.le_succ _)

/-- An event's number behind another that touches nobody of it. -/
theorem st_num {s u : Sta} {a b : Ev} (hm : stMay s = true) (h30 : s.s.length ≤ 30) (hb : stApply s b = (u, 0)) (hd : ∀ p ∈ stTouch a, p ∉ stTouch b) : (stApply u a).2 = (stApply s a).2 := by
  have hu := stApply_may hb
  have hms : seMay s.s = true := by unfold stMay at hm; rw [Bool.and_eq_true] at hm; exact hm.2
  have hmu : seMay u.s = true := by unfold stMay at hu; rw [Bool.and_eq_true] at hu; exact hu.2
  have hl := st_slen hb
  by_cases h1 : 1 ≤ a.k
  · by_cases h6 : a.k ≤ 6
    · have pu := hd _ (touch_u h1 (by omega))
      have po := hd _ (touch_o h1 h6)
      obtain ⟨m1, n1, hd1⟩ : ∃ m n, roDo u.e a.k a.u a.o = (m, n) := ⟨_, _, rfl⟩
      obtain ⟨m2, n2, hd2⟩ : ∃ m n, roDo s.e a.k a.u a.o = (m, n) := ⟨_, _, rfl⟩
      rw [stApply_do hu h1 h6 hd1, stApply_do hm h1 h6 hd2]
      show n1 = n2
      have e1 : n1 = (roDo u.e a.k a.u a.o).2 := by rw [hd1]
      have e2 : n2 = (roDo s.e a.k a.u a.o).2 := by rw [hd2]
      rw [e1, e2]
      obtain ⟨_, ⟨g1, g6, hdb, _⟩ | ⟨_, _, he⟩ | ⟨_, _, he⟩⟩ := stApply_ok hb
      · have qu := touch_u g1 (by omega : b.k ≤ 8)
        have qo := touch_o g1 g6
        exact roDo_num hdb (fun e => pu (e ▸ qu)) (fun e => pu (e ▸ qo)) (fun e => po (e ▸ qu)) (fun e => po (e ▸ qo))
      · rw [he]
      · rw [he]
    · by_cases h7 : a.k = 7
      · obtain ⟨m1, n1, hd1⟩ : ∃ m n, sePut u.s ⟨a.u, a.id, a.v⟩ = (m, n) := ⟨_, _, rfl⟩
        obtain ⟨m2, n2, hd2⟩ : ∃ m n, sePut s.s ⟨a.u, a.id, a.v⟩ = (m, n) := ⟨_, _, rfl⟩
        rw [stApply_put hu h7 hd1, stApply_put hm h7 hd2]
        show n1 = n2
        have e1 : n1 = (sePut u.s ⟨a.u, a.id, a.v⟩).2 := by rw [hd1]
        have e2 : n2 = (sePut s.s ⟨a.u, a.id, a.v⟩).2 := by rw [hd2]
        rw [e1, e2, sePut_num hmu (by omega), sePut_num hms (by omega)]
      · by_cases h8 : a.k = 8
        · have pu := hd _ (touch_u h1 (by omega))
          have hof := (st_leaves hb pu).1
          obtain ⟨m1, n1, hd1⟩ : ∃ m n, seDrop u.s a.u a.id = (m, n) := ⟨_, _, rfl⟩
          obtain ⟨m2, n2, hd2⟩ : ∃ m n, seDrop s.s a.u a.id = (m, n) := ⟨_, _, rfl⟩
          rw [stApply_drop hu h8 hd1, stApply_drop hm h8 hd2]
          show n1 = n2
          unfold seDrop at hd1 hd2
          rw [if_pos hmu, any_of, hof, ← any_of] at hd1
          rw [if_pos hms] at hd2
          split at hd1
          · next h => rw [if_pos h] at hd2; exact (Prod.mk.inj hd1).2.symm.trans (Prod.mk.inj hd2).2
          · next h => rw [if_neg h] at hd2; exact (Prod.mk.inj hd1).2.symm.trans (Prod.mk.inj hd2).2
        · rw [stApply_bad (.inr (.inr (by omega))), stApply_bad (.inr (.inr (by omega)))]
  · rw [stApply_bad (.inr (.inl (by omega))), stApply_bad (.inr (.inl (by omega)))]

theorem or_turn {A B C X Y : Prop} (h1 : A → ¬ Y) (h2 : B → ¬ X) : (B ∨ ((A ∨ (C ∧ ¬ X)) ∧ ¬ Y)) ↔ (A ∨ ((B ∨ (C ∧ ¬ Y)) ∧ ¬ X)) := by
  constructor
  · rintro (h | ⟨h | ⟨h, hx⟩, hy⟩)
    · exact .inr ⟨.inl h, h2 h⟩
    · exact .inl h
    · exact .inr ⟨.inr ⟨h, hy⟩, hx⟩
  · rintro (h | ⟨h | ⟨h, hy⟩, hx⟩)
    · exact .inr ⟨.inl h, h1 h⟩
    · exact .inl h
    · exact .inr ⟨.inr ⟨h, hx⟩, hy⟩

theorem sta_ext {a b : Sta} (h1 : a.e = b.e) (h2 : a.s = b.s) : a = b := by
  obtain ⟨x, y⟩ := a
  obtain ⟨x', y'⟩ := b
  simp only at h1 h2
  rw [h1, h2]

/-- Both are done: in any order the same. -/
theorem st_comm {s t u ab ba : Sta} {a b : Ev} (ha : stApply s a = (t, 0)) (hab : stApply t b = (ab, 0)) (hb : stApply s b = (u, 0)) (hba : stApply u a = (ba, 0)) (hd : ∀ p ∈ stTouch a, p ∉ stTouch b) : ab = ba := by
  have ka := st_kind ha
  have kb := st_kind hb
  have pu := hd _ (touch_u (e := a) (by omega) (by omega))
  have qu := touch_u (e := b) (by omega) (by omega)
  have huu : a.u ≠ b.u := fun e => pu (e ▸ qu)
  rcases ka with ⟨a1, a6⟩ | ka
  · have po := hd _ (touch_o a1 a6)
    obtain ⟨s1, r1, r1', n1, x, z, f1, m1⟩ := st_ent ha a6
    obtain ⟨s4, r4, r4', _, x', z', f4, m4⟩ := st_ent hba a6
    rcases kb with ⟨b1, b6⟩ | kb
    · have qo := touch_o b1 b6
      obtain ⟨s2, r2, r2', n2, p, q, f2, m2⟩ := st_ent hb b6
      obtain ⟨s3, r3, r3', _, p', q', f3, m3⟩ := st_ent hab b6
      have huo : a.u ≠ b.o := fun e => pu (e ▸ qo)
      have hou : a.o ≠ b.u := fun e => po (e ▸ qu)
      have hoo : a.o ≠ b.o := fun e => po (e ▸ qo)
      have ht : ∀ c, roIt t.e b.u c = roIt s.e b.u c := fun c => (st_leaves ha (fun h => hd _ h qu)).2 c
      have ht2 : ∀ c, roIt t.e b.o c = roIt s.e b.o c := fun c => (st_leaves ha (fun h => hd _ h qo)).2 c
      have hu : ∀ c, roIt u.e a.u c = roIt s.e a.u c := fun c => (st_leaves hb pu).2 c
      have hu2 : ∀ c, roIt u.e a.o c = roIt s.e a.o c := fun c => (st_leaves hb po).2 c
      rw [ht, ht2, f2] at f3
      rw [hu, hu2, f1] at f4
      obtain ⟨rfl, rfl, -⟩ : p = p' ∧ q = q' ∧ True := by simpa only [Prod.mk.injEq, and_true] using f3
      obtain ⟨rfl, rfl, -⟩ : x = x' ∧ z = z' ∧ True := by simpa only [Prod.mk.injEq, and_true] using f4
      refine sta_ext (rises_ext r3' r4' fun y => ?_) (by rw [s3, s1, s4, s2])
      rw [m3, m1, m4, m2]
      rw [← not_or, ← not_or]
      refine or_turn ?_ ?_
      · rintro ⟨_, rfl | rfl⟩ (⟨h, _⟩ | ⟨h, _⟩)
        · exact huu h
        · exact huo h
        · exact hou h
        · exact hoo h
      · rintro ⟨_, rfl | rfl⟩ (⟨h, _⟩ | ⟨h, _⟩)
        · exact huu h.symm
        · exact hou h.symm
        · exact huo h.symm
        · exact hoo h.symm
    · obtain ⟨g2, _, q2, k2⟩ := st_ses hb kb
      obtain ⟨g3, _, q3, k3⟩ := st_ses hab kb
      refine sta_ext ?_ ?_
      · rw [g3]
        rw [g2, f1] at f4
        obtain ⟨rfl, rfl, -⟩ : x = x' ∧ z = z' ∧ True := by simpa only [Prod.mk.injEq, and_true] using f4
        refine rises_ext r1' r4' fun y => ?_
        rw [m1, m4, g2]
      · rw [s4]
        refine rise_unique seOrd q3 q2 fun y => ?_
        rw [k3, k2, s1]
  · obtain ⟨g1, _, q1, k1⟩ := st_ses ha ka
    obtain ⟨g4, _, q4, k4⟩ := st_ses hba ka
    rcases kb with ⟨b1, b6⟩ | kb
    · obtain ⟨s2, r2, r2', n2, p, q, f2, m2⟩ := st_ent hb b6
      obtain ⟨s3, r3, r3', _, p', q', f3, m3⟩ := st_ent hab b6
      refine sta_ext ?_ ?_
      · rw [g4]
        rw [g1, f2] at f3
        obtain ⟨rfl, rfl, -⟩ : p = p' ∧ q = q' ∧ True := by simpa only [Prod.mk.injEq, and_true] using f3
        refine rises_ext r3' r2' fun y => ?_
        rw [m3, m2, g1]
      · rw [s3]
        refine rise_unique seOrd q1 q4 fun y => ?_
        rw [k1, k4, s2]
    · obtain ⟨g2, _, q2, k2⟩ := st_ses hb kb
      obtain ⟨g3, _, q3, k3⟩ := st_ses hab kb
      refine sta_ext (by rw [g3, g1, g4, g2]) (rise_unique seOrd q3 q4 fun y => ?_)
      rw [k3, k1, k4, k2]
      refine or_turn ?_ ?_
      · rintro ⟨_, rfl⟩ ⟨h, _⟩
        exact huu h
      · rintro ⟨_, rfl⟩ ⟨h, _⟩
        exact huu h.symm

/-- Two events that touch nobody in common. -/
theorem st_two {s t u ab ba : Sta} {a b : Ev} {d e f g : Nat} (hm : stMay s = true) (h30 : s.s.length ≤ 30) (hd : ∀ p ∈ stTouch a, p ∉ stTouch b) (ha : stApply s a = (t, d)) (hab : stApply t b = (ab, e)) (hb : stApply s b = (u, f)) (hba : stApply u a = (ba, g)) : d = g ∧ e = f ∧ ab = ba := by
  have hd' : ∀ p ∈ stTouch b, p ∉ stTouch a := fun p h1 h2 => hd p h2 h1
  by_cases h0 : d = 0
  · subst h0
    have hn := st_num hm h30 ha hd'
    rw [hab, hb] at hn
    simp only at hn
    subst hn
    by_cases he : e = 0
    · subst he
      have hn := st_num hm h30 hb hd
      rw [hba, ha] at hn
      simp only at hn
      subst hn
      exact ⟨rfl, rfl, st_comm ha hab hb hba hd⟩
    · have := stApply_err hb he
      subst this
      have := stApply_err hab he
      subst this
      rw [ha] at hba
      obtain ⟨rfl, rfl⟩ := Prod.mk.inj hba
      exact ⟨rfl, rfl, rfl⟩
  · have := stApply_err ha h0
    subst this
    rw [hb] at hab
    obtain ⟨rfl, rfl⟩ := Prod.mk.inj hab
    by_cases hf : f = 0
    · subst hf
      have hn := st_num hm h30 hb hd
      rw [hba, ha] at hn
      simp only at hn
      subst hn
      have := stApply_err hba h0
      subst this
      exact ⟨rfl, rfl, rfl⟩
    · have := stApply_err hb hf
      subst this
      rw [ha] at hba
      obtain ⟨rfl, rfl⟩ := Prod.mk.inj hba
      exact ⟨rfl, rfl, rfl⟩

end Go.Proofs.YtdilcckoapaimaaGreat
