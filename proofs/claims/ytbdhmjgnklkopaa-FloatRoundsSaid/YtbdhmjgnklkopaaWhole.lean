/-
  Which number with a point a whole one is, and which whole one such a number is: plain facts. No program stands in this text.
-/
import Derived.Test.YtbdhmjgnklkopaaOrd
import Derived.Laws.FloatArith
namespace Go.Proofs.Ytbdhmjgnklkopaa.Fm
open Ieee

/-- the rung of a whole number's size -/
def ofN (m : Nat) : Nat :=
  if m = 0 then 0
  else if m.log2 ≤ 52 then (m.log2 + 1022) * 4503599627370496 + m * 2 ^ (52 - m.log2)
  else (m.log2 + 1022) * 4503599627370496 + m / 2 ^ (m.log2 - 52) + if 2 ^ (m.log2 - 52) < 2 * (m % 2 ^ (m.log2 - 52)) ∨ (2 ^ (m.log2 - 52) = 2 * (m % 2 ^ (m.log2 - 52)) ∧ m / 2 ^ (m.log2 - 52) % 2 = 1) then 1 else 0

def ofI (n : Int) : Nat := if n < 0 then 9223372036854775808 + ofN n.natAbs else ofN n.natAbs

theorem log2_le {m k : Nat} (h0 : m ≠ 0) (h : m < 2 ^ (k + 1)) : m.log2 ≤ k := by
  have := (Nat.log2_lt h0).2 h
  omega

theorem log2_eq {m k : Nat} (h1 : 2 ^ k ≤ m) (h2 : m < 2 ^ (k + 1)) : m.log2 = k := by
  have h0 : m ≠ 0 := by have := Nat.two_pow_pos k; omega
  have := (Nat.log2_lt h0).2 h2
  have := (Nat.le_log2 h0).2 h1
  omega

theorem log2_lo {m : Nat} (h0 : m ≠ 0) : 2 ^ m.log2 ≤ m := Nat.log2_self_le h0
theorem log2_hi (m : Nat) : m < 2 ^ (m.log2 + 1) := Nat.lt_log2_self

/-- the digits that are kept, pushed up: one binade's -/
theorem up_bounds {m : Nat} (h0 : m ≠ 0) (h : m.log2 ≤ 52) : 4503599627370496 ≤ m * 2 ^ (52 - m.log2) ∧ m * 2 ^ (52 - m.log2) < 9007199254740992 := by
  have h1 := log2_lo h0
  have h2 := log2_hi m
  have hp : 0 < 2 ^ (52 - m.log2) := Nat.two_pow_pos _
  have e1 : 2 ^ m.log2 * 2 ^ (52 - m.log2) = 4503599627370496 := by rw [← Nat.pow_add, show m.log2 + (52 - m.log2) = 52 from by omega]
  have e2 : 2 ^ (m.log2 + 1) * 2 ^ (52 - m.log2) = 9007199254740992 := by rw [← Nat.pow_add, show m.log2 + 1 + (52 - m.log2) = 53 from by omega]
  constructor
  · rw [← e1]; exact Nat.mul_le_mul_right _ h1
  · rw [← e2]; exact Nat.mul_lt_mul_of_pos_right h2 hp

theorem down_bounds {m : Nat} (h0 : m ≠ 0) (h : 52 ≤ m.log2) : 4503599627370496 ≤ m / 2 ^ (m.log2 - 52) ∧ m / 2 ^ (m.log2 - 52) < 9007199254740992 := by
  have h1 := log2_lo h0
  have h2 := log2_hi m
  have hp : 0 < 2 ^ (m.log2 - 52) := Nat.two_pow_pos _
  have e1 : 4503599627370496 * 2 ^ (m.log2 - 52) = 2 ^ m.log2 := by
    rw [show (4503599627370496 : Nat) = 2 ^ 52 from by decide, ← Nat.pow_add, show 52 + (m.log2 - 52) = m.log2 from by omega]
  have e2 : 9007199254740992 * 2 ^ (m.log2 - 52) = 2 ^ (m.log2 + 1) := by
    rw [show (9007199254740992 : Nat) = 2 ^ 53 from by decide, ← Nat.pow_add, show 53 + (m.log2 - 52) = m.log2 + 1 from by omega]
  constructor
  · rw [Nat.le_div_iff_mul_le hp, e1]; exact h1
  · rw [Nat.div_lt_iff_lt_mul hp, e2]; exact h2

theorem ofN_le {m : Nat} (hm : m ≤ 9223372036854775808) : ofN m ≤ 4890909195324358656 := by
  unfold ofN
  by_cases h0 : m = 0
  · rw [if_pos h0]; omega
  · rw [if_neg h0]
    have hL : m.log2 ≤ 63 := log2_le h0 (by omega)
    by_cases h : m.log2 ≤ 52
    · rw [if_pos h]
      have := up_bounds h0 h
      omega
    · rw [if_neg h]
      have := down_bounds h0 (by omega)
      by_cases h63 : m.log2 = 63
      · have : m = 9223372036854775808 := by
          have := log2_lo h0
          rw [h63] at this
          have e : (2 : Nat) ^ 63 = 9223372036854775808 := by decide
          omega
        subst this
        rw [h63]
        decide
      · split <;> omega

theorem ofI_lt {n : Int} (h1 : -9223372036854775808 ≤ n) (h2 : n ≤ 9223372036854775808) : ofI n < 18446744073709551616 := by
  have := ofN_le (m := n.natAbs) (by omega)
  unfold ofI
  split <;> omega

theorem cut_zero (way : Toward) (neg : Bool) (n : Nat) : way.cut neg n 0 = n := by
  unfold Toward.cut
  simp [Nat.mod_one]
  cases way <;> simp

theorem cut_even (neg : Bool) (n d : Nat) (h : d ≤ n.log2 + 2) : Toward.even.cut neg n d = n / 2 ^ d + if 2 ^ d < 2 * (n % 2 ^ d) ∨ (2 ^ d = 2 * (n % 2 ^ d) ∧ n / 2 ^ d % 2 = 1) then 1 else 0 := by
  unfold Toward.cut
  have e : 1 <<< min d (n.log2 + 2) = 2 ^ d := by rw [Nat.min_eq_left h, Nat.shiftLeft_eq, Nat.one_mul]
  dsimp only
  rw [e]
  congr 1
  by_cases h1 : 2 ^ d < 2 * (n % 2 ^ d)
  · simp [h1]
  · by_cases h2 : 2 ^ d = 2 * (n % 2 ^ d)
    · by_cases h3 : n / 2 ^ d % 2 = 1
      · simp [h3, ← h2]
      · simp [h3, ← h2]
    · simp [h1, h2]

/-- the nearest one to a whole number -/
theorem nearest_eq (n : Int) (h1 : -9223372036854775808 ≤ n) (h2 : n ≤ 9223372036854775808) : floatOfInt .f64 n = ofI n := by
  show double.nearest (decide (n < 0)) n.natAbs 0 = ofI n
  unfold Format.nearest ofI
  by_cases h0 : n.natAbs = 0
  · have : n = 0 := by omega
    subst this
    decide
  · rw [if_neg h0]
    dsimp only
    have hle := ofN_le (m := n.natAbs) (by omega)
    have hofN : ofN n.natAbs = _ := rfl
    have hL : n.natAbs.log2 ≤ 63 := log2_le h0 (by omega)
    rw [fractionBits_eq, leastPlace_eq, binade_eq, infRung_eq]
    generalize hm : n.natAbs = m at *
    have hlast : max ((0 : Int) + (m.log2 : Int) - ((52 : Nat) : Int)) (-1074) = (m.log2 : Int) - 52 := by omega
    rw [hlast]
    have e1 : ((0 : Int) - ((m.log2 : Int) - 52)).toNat = 52 - m.log2 := by omega
    have e2 : ((m.log2 : Int) - 52 - 0).toNat = m.log2 - 52 := by omega
    have e3 : ((m.log2 : Int) - 52 - -1074).toNat = m.log2 + 1022 := by omega
    rw [e1, e2, e3]
    have key : (m.log2 + 1022) * 4503599627370496 + Toward.even.cut (decide (n < 0)) (m <<< (52 - m.log2)) (m.log2 - 52) = ofN m := by
      unfold ofN
      rw [if_neg h0]
      by_cases h : m.log2 ≤ 52
      · rw [if_pos h, show m.log2 - 52 = 0 from by omega, cut_zero, Nat.shiftLeft_eq]
      · rw [if_neg h, show 52 - m.log2 = 0 from by omega, Nat.shiftLeft_zero, cut_even _ _ _ (by omega), Nat.add_assoc]
    rw [key, Nat.min_eq_left (by omega)]
    unfold Format.word
    rw [signWeight_eq]
    by_cases h : n < 0
    · simp [h]
    · simp [h]

/-- what is whole in a finite number -/
def trunc (r : Nat) : Nat := if 1074 ≤ plc r then dig r * 2 ^ (plc r - 1074) else dig r / 2 ^ (1074 - plc r)

theorem cut_trunc (neg : Bool) (n d : Nat) : Toward.zero.cut neg n d = n / 2 ^ d := by
  unfold Toward.cut
  dsimp only
  rw [Nat.shiftLeft_eq, Nat.one_mul]
  show n / _ + 0 = _
  rw [Nat.add_zero]
  by_cases h : d ≤ n.log2 + 2
  · rw [Nat.min_eq_left h]
  · rw [Nat.min_eq_right (by omega)]
    have h1 : n < 2 ^ (n.log2 + 2) := Nat.lt_trans (log2_hi n) (Nat.pow_lt_pow_right (by decide) (by omega))
    have h2 : n < 2 ^ d := Nat.lt_trans h1 (Nat.pow_lt_pow_right (by decide) (by omega))
    rw [Nat.div_eq_of_lt h1, Nat.div_eq_of_lt h2]

theorem toInt_eq (b : Nat) (hb : b < 18446744073709551616) (h : rung b < 9218868437227405312) : (double.read b).toInt .zero = some (if 9223372036854775808 ≤ b then -(trunc (rung b) : Int) else (trunc (rung b) : Int)) := by
  rw [read_eq b hb, if_pos h]
  unfold Datum.toInt Datum.integral
  simp only
  rw [cut_trunc, signed_eq]
  have e : dig (rung b) <<< (-1074 + (plc (rung b) : Int)).toNat / 2 ^ (-(-1074 + (plc (rung b) : Int))).toNat = trunc (rung b) := by
    unfold trunc
    by_cases hp : 1074 ≤ plc (rung b)
    · rw [if_pos hp, show (-1074 + (plc (rung b) : Int)).toNat = plc (rung b) - 1074 from by omega, show (-(-1074 + (plc (rung b) : Int))).toNat = 0 from by omega, Nat.shiftLeft_eq, Nat.pow_zero, Nat.div_one]
    · rw [if_neg hp, show (-1074 + (plc (rung b) : Int)).toNat = 0 from by omega, show (-(-1074 + (plc (rung b) : Int))).toNat = 1074 - plc (rung b) from by omega, Nat.shiftLeft_zero]
  rw [e, Nat.pow_zero, Nat.mul_one]
  by_cases hs : 9223372036854775808 ≤ b
  · simp [hs]
  · simp [hs]

/-- a number by its binade: below 1, up to 53 digits, more -/
theorem whole_cases {r : Nat} (h : r ≤ 4890909195324358656) :
    (r < 4607182418800017408 ∧ trunc r = 0 ∧ (ofN (trunc r) = r ↔ r = 0)) ∨
    (4607182418800017408 ≤ r ∧ ∃ e, e ≤ 52 ∧ r / 4503599627370496 = e + 1023 ∧ trunc r = (4503599627370496 + r % 4503599627370496) / 2 ^ (52 - e) ∧ 2 ^ e ≤ trunc r ∧ trunc r < 2 ^ (e + 1) ∧ (ofN (trunc r) = r ↔ trunc r * 2 ^ (52 - e) = 4503599627370496 + r % 4503599627370496)) ∨
    (4607182418800017408 ≤ r ∧ ∃ e, 52 < e ∧ e ≤ 63 ∧ r / 4503599627370496 = e + 1023 ∧ trunc r = (4503599627370496 + r % 4503599627370496) * 2 ^ (e - 52) ∧ 2 ^ e ≤ trunc r ∧ trunc r < 2 ^ (e + 1) ∧ ofN (trunc r) = r) := by
  by_cases h1 : r < 4607182418800017408
  · left
    have ht : trunc r = 0 := by
      unfold trunc
      have hp : plc r < 1022 := by unfold plc; omega
      have hd : dig r < 9007199254740992 := by unfold dig; split <;> omega
      rw [if_neg (by omega)]
      refine Nat.div_eq_of_lt (Nat.lt_of_lt_of_le hd ?_)
      rw [show (9007199254740992 : Nat) = 2 ^ 53 from by decide]
      exact Nat.pow_le_pow_right (by decide) (by omega)
    refine ⟨h1, ht, ?_⟩
    rw [ht]
    have : ofN 0 = 0 := rfl
    rw [this]
    omega
  · right
    have hdig : dig r = 4503599627370496 + r % 4503599627370496 := by unfold dig; rw [if_neg (by omega)]
    have hd1 : 4503599627370496 ≤ dig r := by omega
    have hd2 : dig r < 9007199254740992 := by omega
    obtain ⟨e, he⟩ : ∃ e, r / 4503599627370496 = e + 1023 := ⟨r / 4503599627370496 - 1023, by omega⟩
    have hplc : plc r = e + 1022 := by unfold plc; omega
    rw [← hdig]
    by_cases h2 : e ≤ 52
    · left
      have ht : trunc r = dig r / 2 ^ (52 - e) := by
        unfold trunc
        rw [hplc]
        by_cases h3 : e = 52
        · subst h3; rw [if_pos (by omega)]; simp
        · rw [if_neg (by omega), show 1074 - (e + 1022) = 52 - e from by omega]
      have hp : 0 < 2 ^ (52 - e) := Nat.two_pow_pos _
      have b1 : 2 ^ e ≤ trunc r := by
        rw [ht, Nat.le_div_iff_mul_le hp, ← Nat.pow_add, show e + (52 - e) = 52 from by omega]; exact hd1
      have b2 : trunc r < 2 ^ (e + 1) := by
        rw [ht, Nat.div_lt_iff_lt_mul hp, ← Nat.pow_add, show e + 1 + (52 - e) = 53 from by omega]; exact hd2
      refine ⟨by omega, e, h2, he, ht, b1, b2, ?_⟩
      have hl : (trunc r).log2 = e := log2_eq b1 b2
      have h0 : trunc r ≠ 0 := by have := Nat.two_pow_pos e; omega
      have ho : ofN (trunc r) = (e + 1022) * 4503599627370496 + trunc r * 2 ^ (52 - e) := by
        unfold ofN; rw [if_neg h0, hl, if_pos h2]
      rw [ho]
      omega
    · right
      have ht : trunc r = dig r * 2 ^ (e - 52) := by
        unfold trunc
        rw [hplc, if_pos (by omega), show e + 1022 - 1074 = e - 52 from by omega]
      have hp : 0 < 2 ^ (e - 52) := Nat.two_pow_pos _
      have b1 : 2 ^ e ≤ trunc r := by
        rw [ht, show e = 52 + (e - 52) from by omega, Nat.pow_add, show 52 + (e - 52) - 52 = e - 52 from by omega]
        exact Nat.mul_le_mul_right _ hd1
      have b2 : trunc r < 2 ^ (e + 1) := by
        rw [ht, show e + 1 = 53 + (e - 52) from by omega, Nat.pow_add]
        exact Nat.mul_lt_mul_of_pos_right hd2 hp
      refine ⟨by omega, e, by omega, by omega, he, ht, b1, b2, ?_⟩
      have hl : (trunc r).log2 = e := log2_eq b1 b2
      have h0 : trunc r ≠ 0 := by have := Nat.two_pow_pos e; omega
      unfold ofN
      rw [if_neg h0, hl, if_neg h2, ht, Nat.mul_div_cancel _ hp, Nat.mul_mod_left, Nat.mul_zero, if_neg (by omega)]
      omega

theorem trunc_le {r : Nat} (h : r ≤ 4890909195324358656) : trunc r ≤ 9223372036854775808 ∧ (r < 4890909195324358656 → trunc r < 9223372036854775808) := by
  rcases whole_cases h with ⟨_, ht, _⟩ | ⟨_, e, he, _, _, _, hb, _⟩ | ⟨hr, e, he1, he2, hq, ht, _, hb, _⟩
  · omega
  · have : (2 : Nat) ^ (e + 1) ≤ 2 ^ 53 := Nat.pow_le_pow_right (by decide) (by omega)
    have e53 : (2 : Nat) ^ 53 = 9007199254740992 := by decide
    omega
  · by_cases h63 : e = 63
    · subst h63
      have : r = 4890909195324358656 := by omega
      subst this
      rw [ht]
      decide
    · have : (2 : Nat) ^ (e + 1) ≤ 2 ^ 63 := Nat.pow_le_pow_right (by decide) (by omega)
      have e63 : (2 : Nat) ^ 63 = 9223372036854775808 := by decide
      omega

/-- is a number a whole one that fits? -/
def okI (b : Nat) : Bool := decide (-4890909195324358656 ≤ sk b ∧ sk b < 4890909195324358656 ∧ ofN (trunc (rung b)) = rung b)
/-- a number's whole part, with its sign -/
def wholeOf (b : Nat) : Int := if 9223372036854775808 ≤ b then -(trunc (rung b) : Int) else (trunc (rung b) : Int)
def intV (b : Nat) : Int := if okI b then wholeOf b else 0

theorem wholeOf_bounds {b : Nat} (hb : b < 18446744073709551616) (h1 : -4890909195324358656 ≤ sk b) (h2 : sk b < 4890909195324358656) : -9223372036854775808 ≤ wholeOf b ∧ wholeOf b ≤ 9223372036854775807 := by
  have hs := sk_rung hb
  have ht := trunc_le (r := rung b) (by omega)
  unfold wholeOf
  split <;> omega

theorem toInt_val {b : Nat} (hb : b < 18446744073709551616) (h1 : -4890909195324358656 ≤ sk b) (h2 : sk b < 4890909195324358656) : floatToIntVal .f64 b .i64 = some (wholeOf b) := by
  have hp := wholeOf_bounds hb h1 h2
  have hs := sk_rung hb
  have ht : (FloatKind.f64.decode b).toInt .zero = some (wholeOf b) := toInt_eq b hb (by omega)
  unfold floatToIntVal
  rw [ht]
  have hmin : IntKind.i64.min = -9223372036854775808 := by decide
  have hmax : IntKind.i64.max = 9223372036854775807 := by decide
  simp only [hmin, hmax]
  rw [if_pos hp]

/-- the nearest to a number's whole part is the number itself just if it is whole -/
theorem back_eq {b : Nat} (hb : b < 18446744073709551616) (h1 : -4890909195324358656 ≤ sk b) (h2 : sk b < 4890909195324358656) : eqB (ofI (wholeOf b)) b = okI b := by
  have hs := sk_rung hb
  have ht := trunc_le (r := rung b) (by omega)
  have ho := ofN_le ht.1
  have ho0 : ofN 0 = 0 := rfl
  have key : rung (ofI (wholeOf b)) = ofN (trunc (rung b)) ∧ sk (ofI (wholeOf b)) = if 9223372036854775808 ≤ b then -(ofN (trunc (rung b)) : Int) else (ofN (trunc (rung b)) : Int) := by
    unfold wholeOf
    generalize trunc (rung b) = t at *
    by_cases h : 9223372036854775808 ≤ b
    · rw [if_pos h, if_pos h]
      by_cases h0 : t = 0
      · subst h0
        rw [ho0]
        decide
      · have e : ofI (-(t : Int)) = 9223372036854775808 + ofN t := by
          unfold ofI
          rw [if_pos (by omega), Int.natAbs_neg, Int.natAbs_natCast]
        rw [e]
        unfold rung sk
        rw [if_neg (by omega)]
        omega
    · rw [if_neg h, if_neg h]
      have e : ofI (t : Int) = ofN t := by
        unfold ofI
        rw [if_neg (by omega), Int.natAbs_natCast]
      rw [e]
      unfold rung sk
      rw [if_pos (by omega)]
      omega
  unfold okI
  by_cases hk : ofN (trunc (rung b)) = rung b
  · rw [decide_eq_true ⟨h1, h2, hk⟩, eqB_true, key.1, key.2]
    split <;> omega
  · rw [decide_eq_false (fun k => hk k.2.2), eqB_false, key.2]
    split <;> omega

end Go.Proofs.Ytbdhmjgnklkopaa.Fm
