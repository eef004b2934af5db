/-
  What follows from what the calls answer: keys are the order; the next is above; whole numbers of few digits are told exactly. No program stands in this text.
-/
import Derived.Test.YtbdhmjgnklkopaaWhole
import Derived.IntWalk
namespace Go.Proofs.Ytbdhmjgnklkopaa.Fm

def next (b : Nat) : Nat := if nanB b then b else if b = 9218868437227405312 then b else if rung b = 0 then 1 else if 9223372036854775808 ≤ b then b - 1 else b + 1

theorem key_inj {a b : Nat} (ha : a < 18446744073709551616) (hb : b < 18446744073709551616) (h : key a = key b) : a = b := by
  unfold key at h
  split at h <;> split at h <;> omega

theorem key_sk {a : Nat} (ha : a < 18446744073709551616) : (9223372036854775808 ≤ a ∧ (key a : Int) = 9223372036854775807 + sk a) ∨ (a < 9223372036854775808 ∧ (key a : Int) = 9223372036854775808 + sk a) := by
  unfold key sk
  split
  · left; rw [if_neg (by omega)]; omega
  · right; rw [if_pos (by omega)]; omega

theorem less_key {a b : Nat} (ha : a < 18446744073709551616) (hb : b < 18446744073709551616) (h1 : nanB a = false) (h2 : nanB b = false) (hz : ¬ (rung a = 0 ∧ rung b = 0)) : lessB a b = decide (key a < key b) := by
  have n1 := of_decide_eq_false h1
  have n2 := of_decide_eq_false h2
  have k1 := key_sk ha
  have k2 := key_sk hb
  have s1 := sk_rung ha
  have s2 := sk_rung hb
  by_cases h : sk a < sk b
  · rw [lessB_true.2 (by omega), decide_eq_true (by omega)]
  · rw [lessB_false.2 (by omega), decide_eq_false (by omega)]

theorem eq_bits {a b : Nat} (ha : a < 18446744073709551616) (hb : b < 18446744073709551616) (h1 : nanB a = false) (h2 : nanB b = false) (hz : ¬ (rung a = 0 ∧ rung b = 0)) : eqB a b = (((a : Nat) : Int) == ((b : Nat) : Int)) := by
  have n1 := of_decide_eq_false h1
  have n2 := of_decide_eq_false h2
  have s1 := sk_rung ha
  have s2 := sk_rung hb
  by_cases h : a = b
  · subst h
    rw [eqB_true.2 (by omega)]; simp
  · rw [eqB_false.2 (by omega)]
    symm
    rw [beq_eq_false_iff_ne]; omega

theorem next_step {a : Nat} (ha : a < 18446744073709551616) (h1 : nanB a = false) (h2 : a ≠ 9218868437227405312) : rung (next a) ≤ 9218868437227405312 ∧ sk (next a) = sk a + 1 := by
  have n1 := of_decide_eq_false h1
  have s1 := sk_rung ha
  unfold next
  rw [h1, if_neg (by decide), if_neg h2]
  by_cases hz : rung a = 0
  · rw [if_pos hz]
    refine ⟨by decide, ?_⟩
    have : sk 1 = 1 := rfl
    omega
  · rw [if_neg hz]
    split
    · have s2 := sk_rung (b := a - 1) (by omega)
      have : rung (a - 1) = rung a - 1 := by unfold rung at *; omega
      omega
    · have s2 := sk_rung (b := a + 1) (by omega)
      have : rung (a + 1) = rung a + 1 := by unfold rung at *; omega
      omega

theorem next_above {a : Nat} (ha : a < 18446744073709551616) (h1 : nanB a = false) (h2 : a ≠ 9218868437227405312) : lessB a (next a) = true := by
  have n1 := of_decide_eq_false h1
  obtain ⟨s1, s2⟩ := next_step ha h1 h2
  exact lessB_true.2 (by omega)

theorem next_tight {a : Nat} (b : Nat) (ha : a < 18446744073709551616) (h1 : nanB a = false) (h2 : a ≠ 9218868437227405312) : lessB a b = false ∨ lessB b (next a) = false := by
  obtain ⟨s1, s2⟩ := next_step ha h1 h2
  rw [lessB_false, lessB_false]
  omega

/-! whole numbers of 53 digits at most -/

theorem ofN_zero : ofN 0 = 0 := rfl

theorem ofN_few {m : Nat} (h0 : m ≠ 0) (h : m.log2 ≤ 52) : ofN m = (m.log2 + 1022) * 4503599627370496 + m * 2 ^ (52 - m.log2) := by
  unfold ofN; rw [if_neg h0, if_pos h]

theorem few_log2 {m : Nat} (h0 : m ≠ 0) (h : m < 9007199254740992) : m.log2 ≤ 52 := log2_le h0 h

theorem trunc_ofN {m : Nat} (h : m < 9007199254740992) : trunc (ofN m) = m := by
  by_cases h0 : m = 0
  · subst h0
    rcases whole_cases (r := 0) (by decide) with ⟨_, h, _⟩ | ⟨h, _⟩ | ⟨h, _⟩
    · exact h
    · omega
    · omega
  · have hl := few_log2 h0 h
    have hb := up_bounds h0 hl
    have ho := ofN_few h0 hl
    have hle := ofN_le (m := m) (by omega)
    rcases whole_cases hle with ⟨a, _⟩ | ⟨_, e, he, hq, ht, _⟩ | ⟨_, e, he, _, hq, _⟩
    · omega
    · have : e = m.log2 := by omega
      subst this
      have hd : 4503599627370496 + ofN m % 4503599627370496 = m * 2 ^ (52 - m.log2) := by omega
      rw [ht, hd, Nat.mul_div_cancel _ (Nat.two_pow_pos _)]
    · omega

theorem ofN_lt {m m' : Nat} (h' : m' < 9007199254740992) (h : m < m') : ofN m < ofN m' := by
  have h0' : m' ≠ 0 := by omega
  have hl' := few_log2 h0' h'
  have hb' := up_bounds h0' hl'
  have ho' := ofN_few h0' hl'
  by_cases h0 : m = 0
  · subst h0; rw [ofN_zero]; omega
  · have hl := few_log2 h0 (by omega)
    have hb := up_bounds h0 hl
    have ho := ofN_few h0 hl
    have hm : m.log2 ≤ m'.log2 := by
      have h1 := log2_lo h0
      exact (Nat.le_log2 h0').2 (by omega)
    by_cases he : m.log2 = m'.log2
    · rw [ho, ho', he]
      have := Nat.mul_lt_mul_of_pos_right h (Nat.two_pow_pos (52 - m'.log2))
      omega
    · omega

theorem sk_ofI {n : Int} (h1 : -9223372036854775808 ≤ n) (h2 : n ≤ 9223372036854775807) : rung (ofI n) = ofN n.natAbs ∧ sk (ofI n) = if n < 0 then -(ofN n.natAbs : Int) else (ofN n.natAbs : Int) := by
  have ho := ofN_le (m := n.natAbs) (by omega)
  unfold ofI rung sk
  split
  · rw [if_neg (by omega)]; omega
  · rw [if_pos (by omega)]; omega

/-- less and equal are as the whole numbers are -/
theorem few_order {x y : Int} (hx1 : -9007199254740992 < x) (hx2 : x < 9007199254740992) (hy1 : -9007199254740992 < y) (hy2 : y < 9007199254740992) : lessB (ofI x) (ofI y) = decide (x < y) ∧ eqB (ofI x) (ofI y) = (x == y) := by
  obtain ⟨r1, s1⟩ := sk_ofI (n := x) (by omega) (by omega)
  obtain ⟨r2, s2⟩ := sk_ofI (n := y) (by omega) (by omega)
  have o1 := ofN_le (m := x.natAbs) (by omega)
  have o2 := ofN_le (m := y.natAbs) (by omega)
  have z1 : x.natAbs ≠ 0 → ofN 0 < ofN x.natAbs := fun h => ofN_lt (by omega) (by omega)
  have z2 : y.natAbs ≠ 0 → ofN 0 < ofN y.natAbs := fun h => ofN_lt (by omega) (by omega)
  rw [ofN_zero] at z1 z2
  have key : (x < y → sk (ofI x) < sk (ofI y)) ∧ (y < x → sk (ofI y) < sk (ofI x)) := by
    have t1 : x.natAbs < y.natAbs → ofN x.natAbs < ofN y.natAbs := fun h => ofN_lt (by omega) h
    have t2 : y.natAbs < x.natAbs → ofN y.natAbs < ofN x.natAbs := fun h => ofN_lt (by omega) h
    constructor
    · intro h
      split at s1 <;> split at s2 <;> omega
    · intro h
      split at s1 <;> split at s2 <;> omega
  rcases Int.lt_trichotomy x y with h | h | h
  · have := key.1 h
    refine ⟨?_, ?_⟩
    · rw [decide_eq_true h, lessB_true]; omega
    · rw [show (x == y) = false from by rw [beq_eq_false_iff_ne]; omega, eqB_false]; omega
  · subst h
    refine ⟨?_, ?_⟩
    · rw [decide_eq_false (by omega), lessB_false]; omega
    · rw [show (x == x) = true from by simp, eqB_true]; omega
  · have := key.2 h
    refine ⟨?_, ?_⟩
    · rw [decide_eq_false (by omega), lessB_false]; omega
    · rw [show (x == y) = false from by rw [beq_eq_false_iff_ne]; omega, eqB_false]; omega

/-- a word whose rung is a whole number's of few digits -/
theorem few_int {b m : Nat} (hb : b < 18446744073709551616) (hm : m < 9007199254740992) (hr : rung b = ofN m) : okI b = true ∧ intV b = if 9223372036854775808 ≤ b then -(m : Int) else (m : Int) := by
  have ht := trunc_ofN hm
  have hs := sk_rung hb
  have ho : ofN m < 4890909195324358656 := by
    have h := ofN_lt (m := m) (m' := 9007199254740991) (by omega)
    have e : ofN 9007199254740991 = 4845873199050653695 := by decide
    by_cases h1 : m < 9007199254740991
    · have := h h1; omega
    · have : m = 9007199254740991 := by omega
      subst this; omega
  have hk : okI b = true := decide_eq_true ⟨by omega, by omega, by rw [hr, ht]⟩
  refine ⟨hk, ?_⟩
  unfold intV wholeOf
  rw [hk, if_pos rfl, hr, ht]

theorem few_back {n : Int} (h1 : -9007199254740992 < n) (h2 : n < 9007199254740992) : okI (ofI n) = true ∧ intV (ofI n) = n ∧ okI (neg (ofI n)) = true ∧ intV (neg (ofI n)) = -n := by
  have hlt := ofI_lt (n := n) (by omega) (by omega)
  obtain ⟨hr, _⟩ := sk_ofI (n := n) (by omega) (by omega)
  have ho := ofN_le (m := n.natAbs) (by omega)
  have hlt' := neg_lt hlt
  have hr' : rung (neg (ofI n)) = ofN n.natAbs := by
    rw [← hr]; unfold neg rung; split <;> omega
  obtain ⟨a1, a2⟩ := few_int hlt (m := n.natAbs) (by omega) hr
  obtain ⟨b1, b2⟩ := few_int hlt' (m := n.natAbs) (by omega) hr'
  refine ⟨a1, ?_, b1, ?_⟩
  · rw [a2]
    unfold ofI
    split <;> split <;> omega
  · rw [b2]
    unfold neg ofI
    split <;> split <;> split <;> omega

theorem i64_and53 (n : Int) : bits .and .i64 n 9007199254740991 = n % 9007199254740992 := by
  show IntKind.i64.wrap ((BitVec.ofInt 64 n &&& BitVec.ofInt 64 9007199254740991).toNat : Int) = _
  have h1 : (BitVec.ofInt 64 n).toNat = (n % 18446744073709551616).toNat := by
    rw [BitVec.toNat_ofInt]
    congr 1
  have h2 : (BitVec.ofInt 64 9007199254740991).toNat = 2 ^ 53 - 1 := by decide
  rw [BitVec.toNat_and, h1, h2, Nat.and_two_pow_sub_one_eq_mod]
  have h3 : (n % 18446744073709551616).toNat % 2 ^ 53 = (n % 9007199254740992).toNat := by
    have e : (2 : Nat) ^ 53 = 9007199254740992 := by decide
    rw [e]
    omega
  rw [h3]
  have h4 : ((n % 9007199254740992).toNat : Int) = n % 9007199254740992 := by omega
  rw [h4]
  exact IntWalk.i64_in _ ⟨by omega, by omega⟩

end Go.Proofs.Ytbdhmjgnklkopaa.Fm
