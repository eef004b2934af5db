/-
  Plain facts on numbers of 64 bits with a point, by their bits: how two stand to each other, which of them a whole number is, which whole number one is. No program stands in this text.
-/
import Ieee.Arith
namespace Go.Proofs.Ytbdhmjgnklkopaa.Fm
open Ieee

theorem signWeight_eq : double.signWeight = 9223372036854775808 := by decide
theorem binade_eq : double.binade = 4503599627370496 := by decide
theorem infRung_eq : double.infRung = 9218868437227405312 := by decide
theorem leastPlace_eq : double.leastPlace = -1074 := by decide
theorem fractionBits_eq : double.fractionBits = 52 := rfl

/-- a number's place among all of its sign -/
def rung (b : Nat) : Nat := b % 9223372036854775808
/-- its place among all; both zeros are one -/
def sk (b : Nat) : Int := if b < 9223372036854775808 then (b : Int) else -((b : Int) - 9223372036854775808)
/-- the digits of a finite number, and how many places they are pushed up -/
def dig (r : Nat) : Nat := if r < 4503599627370496 then r else 4503599627370496 + r % 4503599627370496
def plc (r : Nat) : Nat := r / 4503599627370496 - 1

theorem rung_lt (b : Nat) : rung b < 9223372036854775808 := Nat.mod_lt _ (by decide)

/-- the number itself, in the least one's units -/
def val (r : Nat) : Nat := dig r * 2 ^ plc r

theorem val_lt {r r' : Nat} (h : r < r') : val r < val r' := by
  have hp : ∀ k, 0 < 2 ^ k := fun k => Nat.two_pow_pos k
  unfold val
  by_cases hq : plc r = plc r'
  · rw [hq]
    refine Nat.mul_lt_mul_of_pos_right ?_ (hp _)
    unfold plc at hq
    unfold dig
    split <;> split <;> omega
  · have hq' : plc r + 1 ≤ plc r' := by
      have : r / 4503599627370496 ≤ r' / 4503599627370496 := Nat.div_le_div_right (Nat.le_of_lt h)
      unfold plc at *
      omega
    have h1 : dig r < 4503599627370496 * 2 := by unfold dig; split <;> omega
    have h2 : 4503599627370496 ≤ dig r' := by
      unfold plc at hq'
      unfold dig
      split <;> omega
    have h3 : 2 ^ (plc r + 1) ≤ 2 ^ plc r' := Nat.pow_le_pow_right (by decide) hq'
    rw [Nat.pow_succ] at h3
    have h4 : dig r * 2 ^ plc r < 4503599627370496 * 2 * 2 ^ plc r := Nat.mul_lt_mul_of_pos_right h1 (hp _)
    have h5 : 4503599627370496 * (2 ^ plc r * 2) ≤ dig r' * 2 ^ plc r' := Nat.mul_le_mul h2 h3
    have h6 : 4503599627370496 * 2 * 2 ^ plc r = 4503599627370496 * (2 ^ plc r * 2) := by
      rw [Nat.mul_assoc, Nat.mul_comm 2]
    omega

theorem val_zero : val 0 = 0 := by decide
theorem val_lt_iff {r r' : Nat} : val r < val r' ↔ r < r' := by
  constructor
  · intro h
    rcases Nat.lt_trichotomy r r' with h1 | h1 | h1
    · exact h1
    · subst h1; omega
    · have := val_lt h1; omega
  · exact val_lt
theorem val_inj {r r' : Nat} : val r = val r' ↔ r = r' := by
  constructor
  · intro h
    rcases Nat.lt_trichotomy r r' with h1 | h1 | h1
    · have := val_lt h1; omega
    · exact h1
    · have := val_lt h1; omega
  · exact fun h => h ▸ rfl

/-- what a word is read as -/
theorem read_eq (b : Nat) (hb : b < 18446744073709551616) : double.read b =
    if rung b < 9218868437227405312 then .number (decide (9223372036854775808 ≤ b)) (dig (rung b)) (-1074 + (plc (rung b) : Int))
    else if rung b = 9218868437227405312 then .infinity (decide (9223372036854775808 ≤ b)) else .nan (decide (9223372036854775808 ≤ b)) (rung b - 9218868437227405312) := by
  have hs : (b / 9223372036854775808 % 2 == 1) = decide (9223372036854775808 ≤ b) := by
    by_cases h : 9223372036854775808 ≤ b
    · have : b / 9223372036854775808 % 2 = 1 := by omega
      rw [this]; simp [h]
    · have : b / 9223372036854775808 % 2 = 0 := by omega
      rw [this]; simp [h]
  unfold Format.read
  dsimp only
  rw [signWeight_eq, binade_eq, infRung_eq, leastPlace_eq, hs]
  show (if rung b < 4503599627370496 then _ else _) = _
  have hr : rung b = b % 9223372036854775808 := rfl
  rw [← hr]
  by_cases h1 : rung b < 4503599627370496
  · rw [if_pos h1, if_pos (by omega)]
    congr 1
    · unfold dig; rw [if_pos h1]
    · unfold plc; omega
  · rw [if_neg h1]
    by_cases h2 : rung b < 9218868437227405312
    · rw [if_pos h2, if_pos h2]
      congr 1
      unfold dig; rw [if_neg h1]
    · rw [if_neg h2, if_neg h2]

theorem signed_eq (s : Bool) (m u : Nat) : signed s m u = if s then -((m * 2 ^ u : Nat) : Int) else ((m * 2 ^ u : Nat) : Int) := by
  unfold signed; rw [Nat.shiftLeft_eq]

theorem compare_congr {a b c d : Int} (h1 : a < b ↔ c < d) (h2 : a = b ↔ c = d) : compare a b = compare c d := by
  simp only [compare, compareOfLessAndEq]
  by_cases h : a < b
  · rw [if_pos h, if_pos (h1.1 h)]
  · rw [if_neg h, if_neg (fun k => h (h1.2 k))]
    by_cases h' : a = b
    · rw [if_pos h', if_pos (h2.1 h')]
    · rw [if_neg h', if_neg (fun k => h' (h2.2 k))]

/-- two numbers with places in common: as their values are -/
theorem scaled {r r' k : Nat} (h1 : k ≤ plc r) (h2 : k ≤ plc r') :
    (dig r * 2 ^ (plc r - k) < dig r' * 2 ^ (plc r' - k) ↔ r < r') ∧ (dig r * 2 ^ (plc r - k) = dig r' * 2 ^ (plc r' - k) ↔ r = r') ∧ (dig r * 2 ^ (plc r - k) = 0 ↔ r = 0) := by
  have e : ∀ x, k ≤ plc x → val x = dig x * 2 ^ (plc x - k) * 2 ^ k := fun x hx => by
    unfold val
    rw [Nat.mul_assoc, ← Nat.pow_add, Nat.sub_add_cancel hx]
  have hp : 0 < 2 ^ k := Nat.two_pow_pos k
  refine ⟨?_, ?_, ?_⟩
  · rw [← val_lt_iff (r := r) (r' := r'), e r h1, e r' h2, Nat.mul_lt_mul_right hp]
  · rw [← val_inj (r := r) (r' := r'), e r h1, e r' h2, Nat.mul_left_inj (by omega)]
  · have h0 : val r = 0 ↔ r = 0 := by
      have := @val_inj r 0
      rwa [val_zero] at this
    rw [← h0, e r h1]
    constructor
    · intro h; rw [h, Nat.zero_mul]
    · intro h
      rcases Nat.mul_eq_zero.1 h with h | h
      · exact h
      · omega

theorem order_eq (a b : Nat) (ha : a < 18446744073709551616) (hb : b < 18446744073709551616) : double.order a b =
    if 9218868437227405312 < rung a ∨ 9218868437227405312 < rung b then none else some (compare (sk a) (sk b)) := by
  unfold Format.order
  rw [read_eq a ha, read_eq b hb]
  have hra : rung a = a % 9223372036854775808 := rfl
  have hrb : rung b = b % 9223372036854775808 := rfl
  by_cases h1 : rung a < 9218868437227405312 <;> by_cases h2 : rung b < 9218868437227405312
  · rw [if_pos h1, if_pos h2, if_neg (by omega)]
    simp only [Datum.order]
    congr 1
    have hm : min (-1074 + (plc (rung a) : Int)) (-1074 + (plc (rung b) : Int)) = -1074 + ((min (plc (rung a)) (plc (rung b)) : Nat) : Int) := by omega
    rw [hm]
    have e1 : (-1074 + (plc (rung a) : Int) - (-1074 + ((min (plc (rung a)) (plc (rung b)) : Nat) : Int))).toNat = plc (rung a) - min (plc (rung a)) (plc (rung b)) := by omega
    have e2 : (-1074 + (plc (rung b) : Int) - (-1074 + ((min (plc (rung a)) (plc (rung b)) : Nat) : Int))).toNat = plc (rung b) - min (plc (rung a)) (plc (rung b)) := by omega
    rw [e1, e2, signed_eq, signed_eq]
    obtain ⟨s1, s2, s3⟩ := scaled (r := rung a) (r' := rung b) (k := min (plc (rung a)) (plc (rung b))) (by omega) (by omega)
    obtain ⟨t1, t2, t3⟩ := scaled (r := rung b) (r' := rung a) (k := min (plc (rung a)) (plc (rung b))) (by omega) (by omega)
    generalize dig (rung a) * 2 ^ (plc (rung a) - min (plc (rung a)) (plc (rung b))) = A at *
    generalize dig (rung b) * 2 ^ (plc (rung b) - min (plc (rung a)) (plc (rung b))) = B at *
    have ka : sk a = if decide (9223372036854775808 ≤ a) then -((rung a : Nat) : Int) else ((rung a : Nat) : Int) := by
      unfold sk; by_cases h : a < 9223372036854775808
      · rw [if_pos h]; simp [Nat.not_le.2 h]; omega
      · rw [if_neg h]; simp [Nat.not_lt.1 h]; omega
    have kb : sk b = if decide (9223372036854775808 ≤ b) then -((rung b : Nat) : Int) else ((rung b : Nat) : Int) := by
      unfold sk; by_cases h : b < 9223372036854775808
      · rw [if_pos h]; simp [Nat.not_le.2 h]; omega
      · rw [if_neg h]; simp [Nat.not_lt.1 h]; omega
    rw [ka, kb]
    generalize decide (9223372036854775808 ≤ a) = sa
    generalize decide (9223372036854775808 ≤ b) = sb
    cases sa <;> cases sb <;> simp only [if_true, if_false, Bool.false_eq_true] <;> refine compare_congr ?_ ?_ <;> omega
  · by_cases h3 : rung b = 9218868437227405312
    · rw [if_pos h1, if_neg h2, if_pos h3, if_neg (by omega)]
      simp only [Datum.order]
      congr 1
      unfold sk
      by_cases h : 9223372036854775808 ≤ b
      · simp only [h, decide_true, if_true]
        symm
        rw [if_neg (show ¬ b < 9223372036854775808 from by omega)]
        rw [Int.compare_eq_gt]
        split <;> omega
      · simp only [h, decide_false, Bool.false_eq_true, if_false]
        symm
        rw [if_pos (show b < 9223372036854775808 from by omega)]
        rw [Int.compare_eq_lt]
        split <;> omega
    · rw [if_pos h1, if_neg h2, if_neg h3, if_pos (by omega)]
      rfl
  · by_cases h3 : rung a = 9218868437227405312
    · rw [if_neg h1, if_pos h3, if_pos h2, if_neg (by omega)]
      simp only [Datum.order]
      congr 1
      unfold sk
      by_cases h : 9223372036854775808 ≤ a
      · simp only [h, decide_true, if_true]
        symm
        rw [if_neg (show ¬ a < 9223372036854775808 from by omega)]
        rw [Int.compare_eq_lt]
        split <;> omega
      · simp only [h, decide_false, Bool.false_eq_true, if_false]
        symm
        rw [if_pos (show a < 9223372036854775808 from by omega)]
        rw [Int.compare_eq_gt]
        split <;> omega
    · rw [if_neg h1, if_neg h3, if_pos h2, if_pos (show 9218868437227405312 < rung a ∨ 9218868437227405312 < rung b from by omega)]
      rfl
  · by_cases h3 : rung a = 9218868437227405312 <;> by_cases h4 : rung b = 9218868437227405312
    · rw [if_neg h1, if_pos h3, if_neg h2, if_pos h4, if_neg (by omega)]
      simp only [Datum.order]
      congr 1
      unfold sk
      by_cases h : 9223372036854775808 ≤ a <;> by_cases h' : 9223372036854775808 ≤ b
      all_goals
        simp only [h, h', decide_true, decide_false, Bool.toNat_true, Bool.toNat_false]
        first | rw [if_pos (show a < 9223372036854775808 from by omega)] | rw [if_neg (show ¬ a < 9223372036854775808 from by omega)]
        first | rw [if_pos (show b < 9223372036854775808 from by omega)] | rw [if_neg (show ¬ b < 9223372036854775808 from by omega)]
        symm
        first
        | (show _ = Ordering.eq; rw [Int.compare_eq_eq]; omega)
        | (show _ = Ordering.lt; rw [Int.compare_eq_lt]; omega)
        | (show _ = Ordering.gt; rw [Int.compare_eq_gt]; omega)
    all_goals
      rw [if_neg h1, if_neg h2, if_pos (show 9218868437227405312 < rung a ∨ 9218868437227405312 < rung b from by omega)]
      first | rw [if_pos h3] | rw [if_neg h3]
      first | rw [if_pos h4] | rw [if_neg h4]
      rfl

end Go.Proofs.Ytbdhmjgnklkopaa.Fm
