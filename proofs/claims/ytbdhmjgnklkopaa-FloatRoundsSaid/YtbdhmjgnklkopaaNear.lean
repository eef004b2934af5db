/-
  A whole number is told by the nearest number with a point: neither neighbour of the one that tells it lies nearer. No program stands in this text.
-/
import Derived.Test.YtbdhmjgnklkopaaFacts
namespace Go.Proofs.Ytbdhmjgnklkopaa.Fm

theorem shift_val (d p c : Nat) : (if c ≤ p then d * 2 ^ (p - c) else d / 2 ^ (c - p)) = d * 2 ^ p / 2 ^ c := by
  have hc : 0 < 2 ^ c := Nat.two_pow_pos c
  split
  · next h =>
    have e : 2 ^ p = 2 ^ (p - c) * 2 ^ c := by rw [← Nat.pow_add, Nat.sub_add_cancel h]
    rw [e, ← Nat.mul_assoc, Nat.mul_div_cancel _ hc]
  · next h =>
    have e : 2 ^ c = 2 ^ p * 2 ^ (c - p) := by rw [← Nat.pow_add, show p + (c - p) = c from by omega]
    rw [e, ← Nat.div_div_eq_div_mul, Nat.mul_div_cancel _ (Nat.two_pow_pos p)]

theorem trunc_mono {r r' : Nat} (h : r ≤ r') : trunc r ≤ trunc r' := by
  have e : ∀ x, trunc x = val x / 2 ^ 1074 := fun x => shift_val (dig x) (plc x) 1074
  rw [e r, e r']
  refine Nat.div_le_div_right ?_
  rcases Nat.lt_or_ge r r' with h1 | h1
  · exact Nat.le_of_lt (val_lt h1)
  · rw [show r = r' from by omega]; exact Nat.le_refl _

/-- the number that stands at a place of a binade above 52 -/
theorem trunc_at {L K : Nat} (hL : 53 ≤ L) (h1 : 4503599627370496 ≤ K) (h2 : K ≤ 9007199254740992) (h3 : (L + 1022) * 4503599627370496 + K ≤ 4890909195324358656) : trunc ((L + 1022) * 4503599627370496 + K) = K * 2 ^ (L - 52) := by
  rcases whole_cases h3 with ⟨a, _⟩ | ⟨_, e, he, hq, _⟩ | ⟨_, e, he, he2, hq, ht, _⟩
  · omega
  · omega
  · by_cases hK : K = 9007199254740992
    · have : e = L + 1 := by omega
      subst this
      rw [ht, show 4503599627370496 + ((L + 1022) * 4503599627370496 + K) % 4503599627370496 = 4503599627370496 from by omega, show L + 1 - 52 = (L - 52) + 1 from by omega, Nat.pow_succ, hK]
      omega
    · have : e = L := by omega
      subst this
      rw [ht, show 4503599627370496 + ((e + 1022) * 4503599627370496 + K) % 4503599627370496 = K from by omega]

/-- with more than 53 digits: how far the one that tells it lies, and its neighbours -/
theorem near {m : Nat} (h1 : 9007199254740992 ≤ m) (h2 : m ≤ 9223372036854775808) :
    9007199254740992 ≤ ofN m ∧ ofN (trunc (ofN m)) = ofN m ∧
    (trunc (ofN m) ≤ m → ofN m + 1 ≤ 4890909195324358656 → 2 * m ≤ trunc (ofN m) + trunc (ofN m + 1)) ∧
    (m ≤ trunc (ofN m) → trunc (ofN m) + trunc (ofN m - 1) ≤ 2 * m) ∧ (m = 9007199254740992 → trunc (ofN m) = m) := by
  have h0 : m ≠ 0 := by omega
  obtain ⟨L, hLe⟩ : ∃ L, m.log2 = L := ⟨_, rfl⟩
  have hL1 : 53 ≤ L := by rw [← hLe]; exact (Nat.le_log2 h0).2 h1
  have hL2 : L ≤ 63 := by rw [← hLe]; exact log2_le h0 (by omega)
  have hb := down_bounds (m := m) h0 (by omega)
  have hle := ofN_le h2
  have hp : 0 < 2 ^ (L - 52) := Nat.two_pow_pos _
  have hdm := Nat.div_add_mod m (2 ^ (L - 52))
  have hmm : m % 2 ^ (L - 52) < 2 ^ (L - 52) := Nat.mod_lt _ hp
  have ho : ofN m = (L + 1022) * 4503599627370496 + m / 2 ^ (L - 52) + if 2 ^ (L - 52) < 2 * (m % 2 ^ (L - 52)) ∨ (2 ^ (L - 52) = 2 * (m % 2 ^ (L - 52)) ∧ m / 2 ^ (L - 52) % 2 = 1) then 1 else 0 := by
    unfold ofN; rw [if_neg h0, hLe, if_neg (by omega)]
  have h53 : m = 9007199254740992 → m % 2 ^ (L - 52) = 0 := by
    intro e
    have : L = 53 := by rw [← hLe, e]; exact log2_eq (by decide) (by decide)
    subst this
    rw [e]
  rw [hLe] at hb
  have ta := fun K a1 a2 a3 => trunc_at (L := L) (K := K) hL1 a1 a2 a3
  have hw : ofN (trunc (ofN m)) = ofN m := by
    rcases whole_cases hle with ⟨a, _⟩ | ⟨_, e, he, hq, _⟩ | ⟨_, e, _, _, _, _, _, _, h⟩
    · omega
    · omega
    · exact h
  generalize m / 2 ^ (L - 52) = Q at *
  generalize m % 2 ^ (L - 52) = R at *
  generalize 2 ^ (L - 52) = S at *
  have e1 : (Q + 1) * S = Q * S + S := by rw [Nat.add_mul, Nat.one_mul]
  have e2 : S * Q = Q * S := Nat.mul_comm _ _
  refine ⟨by omega, hw, ?_⟩
  by_cases hc : S < 2 * R ∨ (S = 2 * R ∧ Q % 2 = 1)
  · rw [if_pos hc] at ho
    have t0 := ta (Q + 1) (by omega) (by omega) (by omega)
    have t1 := ta Q (by omega) (by omega) (by omega)
    rw [ho, show (L + 1022) * 4503599627370496 + Q + 1 = (L + 1022) * 4503599627370496 + (Q + 1) from by omega, t0,
      show (L + 1022) * 4503599627370496 + (Q + 1) - 1 = (L + 1022) * 4503599627370496 + Q from by omega, t1]
    refine ⟨fun h _ => ?_, fun _ => by omega, fun h => ?_⟩
    · omega
    · have := h53 h; omega
  · rw [if_neg hc] at ho
    have t0 := ta Q (by omega) (by omega) (by omega)
    rw [ho, show (L + 1022) * 4503599627370496 + Q + 0 = (L + 1022) * 4503599627370496 + Q from by omega, t0]
    refine ⟨fun hx hr => ?_, fun h => ?_, fun h => ?_⟩
    · have hr' : (L + 1022) * 4503599627370496 + (Q + 1) ≤ 4890909195324358656 := by rw [← Nat.add_assoc]; exact hr
      clear hr hx
      have t1 := ta (Q + 1) (by omega) (by omega) hr'
      rw [show (L + 1022) * 4503599627370496 + Q + 1 = (L + 1022) * 4503599627370496 + (Q + 1) from by omega, t1]
      omega
    · have t2 := trunc_mono (Nat.sub_le ((L + 1022) * 4503599627370496 + Q) 1)
      rw [t0] at t2
      omega
    · have := h53 h; omega

theorem ok_at {b : Nat} (h : okI b = true) : -4890909195324358656 ≤ sk b ∧ sk b < 4890909195324358656 ∧ intV b = if 9223372036854775808 ≤ b then -(trunc (rung b) : Int) else (trunc (rung b) : Int) := by
  have hk := of_decide_eq_true h
  refine ⟨hk.1, hk.2.1, ?_⟩
  unfold intV wholeOf
  rw [h, if_pos rfl]

theorem next_pos {b : Nat} (h1 : 0 < rung b) (h2 : rung b < 9218868437227405312) (h3 : b < 9223372036854775808) : next b = b + 1 := by
  have h : rung b = b := rung_small h3
  unfold next nanB
  rw [decide_eq_false (by omega), if_neg (by decide), if_neg (by omega), if_neg (by omega), if_neg (by omega)]

theorem next_neg {b : Nat} (h1 : 0 < rung b) (h2 : rung b < 9218868437227405312) (h3 : 9223372036854775808 ≤ b) : next b = b - 1 := by
  unfold next nanB
  rw [decide_eq_false (by omega), if_neg (by decide), if_neg (by omega), if_neg (by omega), if_pos h3]

/-- below 0: what stands above it and below it -/
theorem sides_neg {b r : Nat} (hb : b = 9223372036854775808 + r) (h0 : 0 < r) (h1 : r ≤ 4890909195324358656) : ∃ x y : Nat, next b = x ∧ x + 1 = b ∧ rung x = r - 1 ∧ neg (next (neg b)) = y ∧ y = b + 1 ∧ rung y = r + 1 := by
  have hr : rung b = r := by unfold rung; omega
  have e1 : next b = b - 1 := next_neg (by omega) (by omega) (by omega)
  have e2 : neg b = r := by unfold neg; rw [if_pos (by omega)]; omega
  have hr2 : rung r = r := rung_small (by omega)
  have e3 : next r = r + 1 := next_pos (by omega) (by omega) (by omega)
  refine ⟨b - 1, b + 1, e1, by omega, by unfold rung; omega, ?_, rfl, by unfold rung; omega⟩
  rw [e2, e3]
  unfold neg
  split <;> omega

theorem sides_pos {b r : Nat} (hb : b = r) (h0 : 0 < r) (h1 : r ≤ 4890909195324358656) : ∃ x y : Nat, next b = x ∧ x = b + 1 ∧ rung x = r + 1 ∧ neg (next (neg b)) = y ∧ y + 1 = b ∧ rung y = r - 1 := by
  have hr : rung b = r := by unfold rung; omega
  have e1 : next b = b + 1 := next_pos (by omega) (by omega) (by omega)
  obtain ⟨q, e2, hq⟩ : ∃ q, neg b = q ∧ q = b + 9223372036854775808 := ⟨_, rfl, by unfold neg; split <;> omega⟩
  have hr2 : rung q = r := by unfold rung; omega
  have e3 : next q = q - 1 := next_neg (by omega) (by omega) (by omega)
  refine ⟨b + 1, b - 1, e1, rfl, by unfold rung; omega, ?_, by omega, by unfold rung; omega⟩
  rw [e2, e3]
  unfold neg
  split <;> omega

theorem ofN_top {n : Int} (h0 : 0 < n) (h : n ≤ 4611686018427387904) : ofN n.natAbs < 4890909195324358656 := by
  have h62 : ofN 4611686018427387904 = 4886405595696988160 := by decide
  by_cases he : n = 4611686018427387904
  · rw [he]; exact Nat.lt_of_le_of_lt (Nat.le_of_eq h62) (by decide)
  · have hl : n.natAbs.log2 ≤ 61 := log2_le (by omega) (by omega)
    have h0 : n.natAbs ≠ 0 := by omega
    unfold ofN
    rw [if_neg h0]
    split
    · next h => have := up_bounds h0 h; omega
    · next h =>
      have := down_bounds h0 (by omega)
      split <;> omega

/-- how far a whole number is told, and by what neither neighbour is nearer -/
def Near (n : Int) (b : Nat) : Prop := okI b = true ∧ ∃ D : Nat, (n ≤ intV b → intV b - n = (D : Int)) ∧ (intV b ≤ n → n - intV b = (D : Int)) ∧
  (okI (next b) = false ∨ D = 0 ∨ (D : Int) ≤ intV (next b) - n) ∧
  (okI (neg (next (neg b))) = false ∨ D = 0 ∨ (D : Int) ≤ n - intV (neg (next (neg b)))) ∧
  (D = 0 ∨ 9007199254740992 < n ∨ n < -9007199254740992)

theorem near_neg {n : Int} (h1 : -9223372036854775808 ≤ n) (h2 : n < 0) (hf : 9007199254740992 ≤ n.natAbs) : Near n (ofI n) := by
  obtain ⟨b1, b2, b3, b4, b5⟩ := near (m := n.natAbs) hf (by omega)
  have hle := ofN_le (m := n.natAbs) (by omega)
  have m1 := trunc_mono (Nat.sub_le (ofN n.natAbs) 1)
  have m2 := trunc_mono (Nat.le_add_right (ofN n.natAbs) 1)
  have hb : ofI n = 9223372036854775808 + ofN n.natAbs := by unfold ofI; rw [if_pos h2]
  have hm : (n.natAbs : Int) = -n := by omega
  generalize n.natAbs = m at *
  generalize ofN m = r at *
  obtain ⟨x, y, e1, e2, e3, e4, e5, e6⟩ := sides_neg hb (by omega) hle
  have hr : rung (ofI n) = r := by unfold rung; omega
  generalize ofI n = b at *
  have hsk := sk_rung (b := b) (by omega)
  have hk : okI b = true := decide_eq_true ⟨by omega, by omega, by rw [hr]; exact b2⟩
  obtain ⟨_, _, hv⟩ := ok_at hk
  rw [hr, if_pos (by omega)] at hv
  unfold Near
  rw [e1, e4]
  have hx : okI x = true → intV x = -(trunc (r - 1) : Int) := fun h => by rw [(ok_at h).2.2, e3, if_pos (by omega)]
  have hy : okI y = true → r + 1 ≤ 4890909195324358656 ∧ intV y = -(trunc (r + 1) : Int) := fun h => by
    obtain ⟨c1, c2, c3⟩ := ok_at h
    have hs := sk_rung (b := y) (by omega)
    refine ⟨by omega, ?_⟩
    rw [c3, e6, if_pos (by omega)]
  clear e1 e2 e3 e4 e5 e6 hsk hb hr hle b2
  generalize trunc r = t at *
  generalize trunc (r - 1) = t1 at *
  generalize trunc (r + 1) = t2 at *
  refine ⟨hk, (t - m) + (m - t), by omega, by omega, ?_, ?_, ?_⟩
  · cases hc : okI x
    · exact Or.inl rfl
    · have := hx hc
      right; right
      omega
  · cases hc : okI y
    · exact Or.inl rfl
    · have := hy hc
      right; right
      omega
  · omega

theorem near_pos {n : Int} (h1 : 0 < n) (h2 : n ≤ 9223372036854775807) (hf : 9007199254740992 ≤ n.natAbs) (ht : ofN n.natAbs ≠ 4890909195324358656) : Near n (ofI n) := by
  obtain ⟨b1, b2, b3, b4, b5⟩ := near (m := n.natAbs) hf (by omega)
  have hle := ofN_le (m := n.natAbs) (by omega)
  have m1 := trunc_mono (Nat.sub_le (ofN n.natAbs) 1)
  have m2 := trunc_mono (Nat.le_add_right (ofN n.natAbs) 1)
  have hb : ofI n = ofN n.natAbs := by unfold ofI; rw [if_neg (by omega)]
  have hm : (n.natAbs : Int) = n := by omega
  generalize n.natAbs = m at *
  generalize ofN m = r at *
  obtain ⟨x, y, e1, e2, e3, e4, e5, e6⟩ := sides_pos hb (by omega) hle
  have hr : rung (ofI n) = r := by unfold rung; omega
  generalize ofI n = b at *
  have hsk := sk_rung (b := b) (by omega)
  have hk : okI b = true := decide_eq_true ⟨by omega, by omega, by rw [hr]; exact b2⟩
  obtain ⟨_, _, hv⟩ := ok_at hk
  rw [hr, if_neg (by omega)] at hv
  unfold Near
  rw [e1, e4]
  have hy : okI y = true → intV y = (trunc (r - 1) : Int) := fun h => by rw [(ok_at h).2.2, e6, if_neg (by omega)]
  have hx : okI x = true → r + 1 ≤ 4890909195324358656 ∧ intV x = (trunc (r + 1) : Int) := fun h => by
    obtain ⟨c1, c2, c3⟩ := ok_at h
    have hs := sk_rung (b := x) (by omega)
    refine ⟨by omega, ?_⟩
    rw [c3, e3, if_neg (by omega)]
  clear e1 e2 e3 e4 e5 e6 hsk hb hr hle b2 ht
  generalize trunc r = t at *
  generalize trunc (r - 1) = t1 at *
  generalize trunc (r + 1) = t2 at *
  refine ⟨hk, (t - m) + (m - t), by omega, by omega, ?_, ?_, ?_⟩
  · cases hc : okI x
    · exact Or.inl rfl
    · have := hx hc
      right; right
      omega
  · cases hc : okI y
    · exact Or.inl rfl
    · have := hy hc
      right; right
      omega
  · omega

theorem rounds {n : Int} (h1 : -9223372036854775808 ≤ n) (h2 : n ≤ 9223372036854775807) :
    (okI (ofI n) = false ∧ 4611686018427387904 < n ∧ lessB (ofI 4611686018427387904) (ofI n) = true) ∨ Near n (ofI n) := by
  by_cases hf : n.natAbs < 9007199254740992
  · obtain ⟨a1, a2, _, _⟩ := few_back (n := n) (by omega) (by omega)
    right
    unfold Near
    rw [a2]
    exact ⟨a1, 0, by omega, by omega, Or.inr (Or.inl rfl), Or.inr (Or.inl rfl), Or.inl rfl⟩
  · by_cases hs : n < 0
    · exact Or.inr (near_neg h1 hs (by omega))
    · by_cases hx : ofN n.natAbs = 4890909195324358656
      · left
        obtain ⟨hr, hsk⟩ := sk_ofI h1 h2
        rw [if_neg hs] at hsk
        refine ⟨decide_eq_false (by omega), ?_, ?_⟩
        · by_cases hh : n ≤ 4611686018427387904
          · have := ofN_top (by omega) hh; omega
          · omega
        · have q1 : rung (ofI 4611686018427387904) = 4886405595696988160 := by decide
          have q2 : sk (ofI 4611686018427387904) = 4886405595696988160 := by decide
          exact lessB_true.2 (by omega)
      · exact Or.inr (near_pos (by omega) h2 (by omega) hx)

theorem ofI_sign {n : Int} (h1 : -9223372036854775808 ≤ n) (h2 : n ≤ 9223372036854775807) : lessB (ofI n) 0 = decide (n < 0) := by
  obtain ⟨hr, hsk⟩ := sk_ofI h1 h2
  have hle := ofN_le (m := n.natAbs) (by omega)
  have k0 : rung 0 = 0 ∧ sk 0 = 0 := ⟨rfl, rfl⟩
  have hp : n < 0 → 0 < ofN n.natAbs := by
    intro h
    by_cases hf : n.natAbs < 9007199254740992
    · have := ofN_lt (m := 0) hf (by omega)
      omega
    · have := (near (m := n.natAbs) (by omega) (by omega)).1
      omega
  by_cases h : n < 0
  · have := hp h
    rw [if_pos h] at hsk
    rw [decide_eq_true h, lessB_true]; omega
  · rw [if_neg h] at hsk
    rw [decide_eq_false h, lessB_false]; omega

end Go.Proofs.Ytbdhmjgnklkopaa.Fm
