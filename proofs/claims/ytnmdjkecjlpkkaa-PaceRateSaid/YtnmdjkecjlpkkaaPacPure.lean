/-
  LAYER 16, PLAIN: configs, buckets, levels, what is taken; and what the statements of the layer say of them.
-/
namespace Go.Proofs.Ytnmdjkecjlpkkaa

structure Cfg where
  room : Int
  burst : Int
  rate : Int
  per : Int

structure Bkt where
  tok : Int
  at' : Int

def pcMay (c : Cfg) : Bool := decide (1 ≤ c.room) && (decide (c.room ≤ 16) && (decide (1 ≤ c.burst) && (decide (c.burst ≤ 64) && (decide (1 ≤ c.rate) && (decide (c.rate ≤ 16) && (decide (1 ≤ c.per) && decide (c.per ≤ 1000)))))))
def pcTime (n : Int) : Bool := decide (0 ≤ n) && decide (n ≤ 1099511627776)
def pcOne (c : Cfg) (b : Bkt) : Bool := pcMay c && (decide (0 ≤ b.tok) && (decide (b.tok ≤ c.burst) && pcTime b.at'))

def pcNew (c : Cfg) (now : Int) : Bkt × Nat := if (pcMay c && pcTime now) = true then (⟨c.burst, now⟩, 0) else (⟨0, 0⟩, 1)

/-- The level, where all may be. -/
def pcLev (c : Cfg) (b : Bkt) (now : Int) : Int := if now ≤ b.at' then b.tok else min c.burst (b.tok + (now - b.at') * c.rate)

def pcLevel (c : Cfg) (b : Bkt) (now : Int) : Int := if (pcOne c b && pcTime now) = true then pcLev c b now else 0

def pcTake (c : Cfg) (b : Bkt) (now : Int) : Bkt × Bool :=
  if (pcOne c b && pcTime now) = true then
    (if pcLev c b now = 0 then (⟨0, max now b.at'⟩, false) else (⟨pcLev c b now - 1, max now b.at'⟩, true))
  else (b, false)

def pcWait (c : Cfg) (b : Bkt) (now : Int) : Int := if (pcOne c b && pcTime now) = true then (if 1 ≤ pcLev c b now then 0 else 1) else 0

theorem pcMay_iff {c : Cfg} : pcMay c = true ↔ 1 ≤ c.room ∧ c.room ≤ 16 ∧ 1 ≤ c.burst ∧ c.burst ≤ 64 ∧ 1 ≤ c.rate ∧ c.rate ≤ 16 ∧ 1 ≤ c.per ∧ c.per ≤ 1000 := by
  unfold pcMay; simp only [Bool.and_eq_true, decide_eq_true_eq]

theorem pcTime_iff {n : Int} : pcTime n = true ↔ 0 ≤ n ∧ n ≤ 1099511627776 := by
  unfold pcTime; simp only [Bool.and_eq_true, decide_eq_true_eq]

theorem pcOne_iff {c : Cfg} {b : Bkt} : pcOne c b = true ↔ pcMay c = true ∧ 0 ≤ b.tok ∧ b.tok ≤ c.burst ∧ 0 ≤ b.at' ∧ b.at' ≤ 1099511627776 := by
  unfold pcOne; simp only [Bool.and_eq_true, decide_eq_true_eq, pcTime_iff]

theorem mul_ge {a r : Int} (ha : 1 ≤ a) (hr : 1 ≤ r) : a ≤ a * r ∧ r ≤ a * r := by
  have h1 : a * 1 ≤ a * r := Int.mul_le_mul_of_nonneg_left hr (by omega)
  have h2 : 1 * r ≤ a * r := Int.mul_le_mul_of_nonneg_right ha (by omega)
  omega

theorem pcLev_ge {c : Cfg} {b : Bkt} {now : Int} (h : pcOne c b = true) : 0 ≤ pcLev c b now ∧ pcLev c b now ≤ c.burst ∧ min c.burst b.tok ≤ pcLev c b now := by
  obtain ⟨hm, h1, h2, h3, h4⟩ := pcOne_iff.1 h
  obtain ⟨_, _, m1, m2, m3, m4, _, _⟩ := pcMay_iff.1 hm
  unfold pcLev
  split
  · omega
  · next hn =>
    obtain ⟨g1, g2⟩ := mul_ge (a := now - b.at') (r := c.rate) (by omega) m3
    omega

theorem pcLev_le {c : Cfg} {b : Bkt} {now : Int} (_h : pcOne c b = true) (hn : b.at' ≤ now) : pcLev c b now ≤ b.tok + (now - b.at') * c.rate := by
  unfold pcLev
  split
  · next h' =>
    have : now = b.at' := by omega
    subst this
    simp
  · omega

theorem pcLev_mono {c : Cfg} {b : Bkt} {m n : Int} (h : pcOne c b = true) (hmn : m ≤ n) : pcLev c b m ≤ pcLev c b n := by
  obtain ⟨hm, h1, h2, h3, h4⟩ := pcOne_iff.1 h
  obtain ⟨_, _, m1, m2, m3, m4, _, _⟩ := pcMay_iff.1 hm
  unfold pcLev
  by_cases hn : n ≤ b.at'
  · rw [if_pos hn, if_pos (by omega)]
    exact Int.le_refl _
  · rw [if_neg hn]
    obtain ⟨g1, g2⟩ := mul_ge (a := n - b.at') (r := c.rate) (by omega) m3
    split
    · omega
    · next hx =>
      have : (m - b.at') * c.rate ≤ (n - b.at') * c.rate := Int.mul_le_mul_of_nonneg_right (by omega) (by omega)
      omega

theorem pcTake_in {c : Cfg} {b : Bkt} {now : Int} (h : pcOne c b = true) (hn : pcTime now = true) :
    pcTake c b now = if pcLev c b now = 0 then (⟨0, max now b.at'⟩, false) else (⟨pcLev c b now - 1, max now b.at'⟩, true) := by
  unfold pcTake
  rw [if_pos (by rw [h, hn]; rfl)]

theorem pcLevel_in {c : Cfg} {b : Bkt} {now : Int} (h : pcOne c b = true) (hn : pcTime now = true) : pcLevel c b now = pcLev c b now := by
  unfold pcLevel
  rw [if_pos (by rw [h, hn]; rfl)]

theorem pcWait_in {c : Cfg} {b : Bkt} {now : Int} (h : pcOne c b = true) (hn : pcTime now = true) : pcWait c b now = if 1 ≤ pcLev c b now then 0 else 1 := by
  unfold pcWait
  rw [if_pos (by rw [h, hn]; rfl)]

/-- PaceMay. -/
theorem pace_may {c : Cfg} {b : Bkt} {n0 n1 : Int} (h : pcOne c b = true) (h0 : pcTime n0 = true) (h1 : pcTime n1 = true) {x : Bkt} {is : Bool} (hx : pcTake c b n0 = (x, is)) :
    pcOne c x = true ∧ x.at' = max n0 b.at' ∧ is = decide (0 < pcLevel c b n0) ∧ pcLevel c b n0 ≤ c.burst ∧ 0 ≤ pcLevel c b n0 ∧ (is = true → x.tok = pcLevel c b n0 - 1) ∧ (is = false → x.tok = 0) ∧
    (n0 ≤ n1 → pcLevel c b n0 ≤ pcLevel c b n1) ∧ pcTake c b (min n0 b.at') = pcTake c b b.at' := by
  obtain ⟨g1, g2, g3⟩ := pcLev_ge (now := n0) h
  obtain ⟨hm, e1, e2, e3, e4⟩ := pcOne_iff.1 h
  obtain ⟨t1, t2⟩ := pcTime_iff.1 h0
  obtain ⟨_, _, m1, m2, m3, m4, _, _⟩ := pcMay_iff.1 hm
  have hmin : pcTake c b (min n0 b.at') = pcTake c b b.at' := by
    rw [pcTake_in h (pcTime_iff.2 (by omega)), pcTake_in h (pcTime_iff.2 (by omega))]
    have k1 : pcLev c b (min n0 b.at') = b.tok := by unfold pcLev; rw [if_pos (by omega)]
    have k2 : pcLev c b b.at' = b.tok := by unfold pcLev; rw [if_pos (by omega)]
    rw [k1, k2, show max (min n0 b.at') b.at' = max b.at' b.at' by omega]
  rw [pcTake_in h h0] at hx
  rw [pcLevel_in h h0, pcLevel_in h h1]
  refine ⟨?_, ?_, ?_, g2, g1, ?_, ?_, fun h' => pcLev_mono h h', hmin⟩
  all_goals
    split at hx
    all_goals
      simp only [Prod.mk.injEq] at hx
      obtain ⟨rfl, rfl⟩ := hx
      first
        | (refine pcOne_iff.2 ⟨hm, ?_, ?_, ?_, ?_⟩ <;> simp only <;> omega)
        | rfl
        | (simp; omega)
        | (intro _; rfl)
        | (intro h'; cases h'; done)

/-- PaceFull. -/
theorem pace_full {c : Cfg} {b : Bkt} (h : pcOne c b = true) (hb : b.at' ≤ 1099511627776 - 64) :
    pcLevel c b (b.at' + c.burst) = c.burst ∧ pcTake c b (b.at' + c.burst) = (⟨c.burst - 1, b.at' + c.burst⟩, true) ∧ pcNew c (b.at' + c.burst) = (⟨c.burst, b.at' + c.burst⟩, 0) ∧
    pcTake c ⟨c.burst, b.at' + c.burst⟩ (b.at' + c.burst) = (⟨c.burst - 1, b.at' + c.burst⟩, true) ∧ pcWait c b (b.at' + c.burst) = 0 := by
  obtain ⟨hm, e1, e2, e3, e4⟩ := pcOne_iff.1 h
  obtain ⟨_, _, m1, m2, m3, m4, _, _⟩ := pcMay_iff.1 hm
  have ht : pcTime (b.at' + c.burst) = true := pcTime_iff.2 (by omega)
  have hl : pcLev c b (b.at' + c.burst) = c.burst := by
    unfold pcLev
    rw [if_neg (by omega)]
    obtain ⟨g1, g2⟩ := mul_ge (a := b.at' + c.burst - b.at') (r := c.rate) (by omega) m3
    omega
  have h2 : pcOne c ⟨c.burst, b.at' + c.burst⟩ = true := pcOne_iff.2 ⟨hm, by simp only; omega, by simp only; omega, by simp only; omega, by simp only; omega⟩
  have hl2 : pcLev c ⟨c.burst, b.at' + c.burst⟩ (b.at' + c.burst) = c.burst := by
    unfold pcLev
    rw [if_pos (Int.le_refl _)]
  refine ⟨by rw [pcLevel_in h ht, hl], ?_, ?_, ?_, ?_⟩
  · rw [pcTake_in h ht, hl, if_neg (by omega), show max (b.at' + c.burst) b.at' = b.at' + c.burst by omega]
  · unfold pcNew
    rw [if_pos (by rw [hm, ht]; rfl)]
  · rw [pcTake_in h2 ht, hl2, if_neg (by omega)]
    simp
  · rw [pcWait_in h ht, hl, if_pos m1]

/-- PaceMore: one ask. -/
theorem pace_more {c : Cfg} {a b : Bkt} {now : Int} (ha : pcOne c a = true) (hb : pcOne c b = true) (hat : a.at' = b.at') (hle : a.tok ≤ b.tok) (hn : pcTime now = true)
    {x y : Bkt} {d e : Bool} (hx : pcTake c a now = (x, d)) (hy : pcTake c b now = (y, e)) :
    pcLevel c a now ≤ pcLevel c b now ∧ pcWait c b now ≤ pcWait c a now ∧ (d = true → e = true) ∧ pcOne c x = true ∧ pcOne c y = true ∧ x.at' = y.at' ∧ x.tok ≤ y.tok := by
  have hl : pcLev c a now ≤ pcLev c b now := by
    unfold pcLev
    rw [hat]
    split
    · exact hle
    · omega
  obtain ⟨a1, a2, _⟩ := pcLev_ge (now := now) ha
  obtain ⟨b1, b2, _⟩ := pcLev_ge (now := now) hb
  obtain ⟨p1, p2, p3, _, _, p6, p7, _⟩ := pace_may ha hn hn hx
  obtain ⟨q1, q2, q3, _, _, q6, q7, _⟩ := pace_may hb hn hn hy
  rw [pcLevel_in ha hn] at *
  rw [pcLevel_in hb hn] at *
  refine ⟨hl, ?_, ?_, p1, q1, by rw [p2, q2, hat], ?_⟩
  · rw [pcWait_in ha hn, pcWait_in hb hn]
    split <;> split <;> omega
  · rw [p3, q3]
    simp only [decide_eq_true_eq]
    omega
  · cases d with
    | false =>
      rw [p7 rfl]
      exact (pcOne_iff.1 q1).2.1
    | true =>
      have hd : 0 < pcLev c a now := by simpa using p3.symm
      have he : e = true := by rw [q3]; simp; omega
      rw [p6 rfl, q6 he]
      omega

/-- PaceRate: what holds of the ticks at which was taken, and of the bucket that is left. -/
structure RateOK (c : Cfg) (b : Bkt) (at' : List Int) : Prop where
  left : ∀ i (hi : i < at'.length), ((at'.length - i : Nat) : Int) + b.tok ≤ c.burst + c.rate * (b.at' - at'[i])
  all : ∀ i k (hk : k < at'.length) (hik : i ≤ k), ((k - i + 1 : Nat) : Int) ≤ c.burst + c.rate * (at'[k] - at'[i]'(by omega))

theorem rate_start (c : Cfg) (b : Bkt) : RateOK c b [] := ⟨fun i hi => absurd hi (by simp), fun i k hk => absurd hk (by simp)⟩

theorem rate_no {c : Cfg} {b x : Bkt} {l : List Int} {now : Int} (h : RateOK c b l) (hb : pcOne c b = true) (hn : pcTime now = true) (hat : b.at' ≤ now) (hx : pcTake c b now = (x, false)) : RateOK c x l ∧ (now < 1099511627776 → (pcTake c x (now + 1)).2 = true) := by
  obtain ⟨p1, p2, p3, p4, p5, p6, p7, _⟩ := pace_may hb hn hn hx
  obtain ⟨hm, e1, e2, e3, e4⟩ := pcOne_iff.1 hb
  obtain ⟨_, _, m1, m2, m3, m4, _, _⟩ := pcMay_iff.1 hm
  have hxa : x.at' = now := by rw [p2]; omega
  refine ⟨⟨fun i hi => ?_, h.all⟩, fun hlt => ?_⟩
  · have := h.left i hi
    rw [p7 rfl, hxa]
    have hmul : c.rate * (b.at' - l[i]) ≤ c.rate * (now - l[i]) := Int.mul_le_mul_of_nonneg_left (by omega) (by omega)
    omega
  · have ht : pcTime (now + 1) = true := pcTime_iff.2 (by have := pcTime_iff.1 hn; omega)
    rw [pcTake_in p1 ht]
    have hl : pcLev c x (now + 1) ≠ 0 := by
      unfold pcLev
      rw [if_neg (by omega), hxa, show now + 1 - now = 1 by omega, Int.one_mul, p7 rfl]
      omega
    rw [if_neg hl]

theorem rate_yes {c : Cfg} {b x : Bkt} {l : List Int} {now : Int} (h : RateOK c b l) (hb : pcOne c b = true) (hn : pcTime now = true) (hat : b.at' ≤ now) (hx : pcTake c b now = (x, true)) : RateOK c x (l ++ [now]) := by
  obtain ⟨p1, p2, p3, p4, p5, p6, p7, _⟩ := pace_may hb hn hn hx
  obtain ⟨hm, e1, e2, e3, e4⟩ := pcOne_iff.1 hb
  obtain ⟨_, _, m1, m2, m3, m4, _, _⟩ := pcMay_iff.1 hm
  have hxa : x.at' = now := by rw [p2]; omega
  have hle := pcLev_le hb hat
  rw [pcLevel_in hb hn] at *
  have hleft : ∀ i (hi : i < (l ++ [now]).length), (((l ++ [now]).length - i : Nat) : Int) + x.tok ≤ c.burst + c.rate * (x.at' - (l ++ [now])[i]) := by
    intro i hi
    rw [p6 rfl, hxa, List.length_append, List.length_singleton]
    by_cases hil : i < l.length
    · rw [List.getElem_append_left hil]
      have := h.left i hil
      have e : c.rate * (now - l[i]) = c.rate * (b.at' - l[i]) + (now - b.at') * c.rate := by
        rw [Int.mul_comm (now - b.at') c.rate, ← Int.mul_add]
        congr 1
        omega
      omega
    · have : i = l.length := by simp at hi; omega
      subst this
      rw [List.getElem_append_right (Nat.le_refl _)]
      simp only [Nat.sub_self, List.getElem_cons_zero, Int.sub_self, Int.mul_zero]
      omega
  refine ⟨hleft, fun i k hk hik => ?_⟩
  by_cases hkl : k < l.length
  · rw [List.getElem_append_left hkl, List.getElem_append_left (by omega)]
    exact h.all i k hkl hik
  · have hke : k = l.length := by simp at hk; omega
    subst hke
    have := hleft i (by simp; omega)
    have hll : (l ++ [now]).length = l.length + 1 := by simp
    rw [hxa] at this
    rw [List.getElem_append_right (Nat.le_refl _)]
    simp only [Nat.sub_self, List.getElem_cons_zero]
    have htok := (pcOne_iff.1 p1).2.1
    omega

end Go.Proofs.Ytnmdjkecjlpkkaa
