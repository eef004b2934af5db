/-
  The bits of a number of 64 as plain arithmetic: the highest one looked at, turned, taken off; all turned; the lowest ones alone. Keys, and numbers with their sign turned. No program stands in this text.
-/
import Derived.Test.YtbdhmjgnklkopaaFm
import Derived.Laws.BitsAllLaws
namespace Go.Proofs.Ytbdhmjgnklkopaa.Fm

/-- the sign turned -/
def neg (b : Nat) : Nat := if 9223372036854775808 ≤ b then b - 9223372036854775808 else b + 9223372036854775808
def key (b : Nat) : Nat := if 9223372036854775808 ≤ b then 18446744073709551615 - b else b + 9223372036854775808
def fromKey (k : Nat) : Nat := if 9223372036854775808 ≤ k then k - 9223372036854775808 else 18446744073709551615 - k
/-- the sign, the exponent, the fraction -/
def sg (b : Nat) : Nat := b / 9223372036854775808
def ex (b : Nat) : Nat := b / 4503599627370496 % 2048
def fr (b : Nat) : Nat := b % 4503599627370496
/-- a number that is none, told so -/
def loud (b : Nat) : Nat := b ||| 2251799813685248

theorem neg_lt {b : Nat} (hb : b < 18446744073709551616) : neg b < 18446744073709551616 := by unfold neg; split <;> omega
theorem key_lt {b : Nat} (hb : b < 18446744073709551616) : key b < 18446744073709551616 := by unfold key; split <;> omega
theorem fromKey_lt {b : Nat} (hb : b < 18446744073709551616) : fromKey b < 18446744073709551616 := by unfold fromKey; split <;> omega
theorem rung_lt64 (b : Nat) : rung b < 18446744073709551616 := Nat.lt_trans (rung_lt b) (by decide)
theorem loud_lt {b : Nat} (hb : b < 18446744073709551616) : loud b < 18446744073709551616 :=
  Nat.or_lt_two_pow (n := 64) hb (by decide)

theorem xor_top (b : Nat) (hb : b < 18446744073709551616) : b ^^^ 9223372036854775808 = neg b := by
  have lo : ∀ x, x < 9223372036854775808 → x ^^^ 9223372036854775808 = x + 9223372036854775808 := fun x hx => by
    have hj : 9223372036854775808 ||| x = 9223372036854775808 + x := nat_join 63 _ x (by decide) hx
    rw [Nat.add_comm, ← hj]
    apply Nat.eq_of_testBit_eq
    intro j
    rw [Nat.testBit_xor, Nat.testBit_or]
    have ht : (9223372036854775808 : Nat).testBit j = decide (63 = j) := Nat.testBit_two_pow (n := 63) (m := j)
    rw [ht]
    by_cases h : 63 = j
    · subst h
      have h0 : x.testBit 63 = false := Nat.testBit_lt_two_pow hx
      rw [h0]; rfl
    · simp [h]
  unfold neg
  split
  · next h =>
    have h1 := lo (b - 9223372036854775808) (by omega)
    have h2 : b = (b - 9223372036854775808) ^^^ 9223372036854775808 := by omega
    rw [h2, Nat.xor_assoc, Nat.xor_self, Nat.xor_zero]
    omega
  · next h => exact lo b (by omega)

section
variable (b : Nat) (hb : b < 18446744073709551616)
include hb

theorem bits_xor_top : bits .xor .u64 (b : Int) 9223372036854775808 = ((neg b : Nat) : Int) := by
  rw [← xor_top b hb]; exact u64_xor_nat b 9223372036854775808 hb (by decide)

theorem bits_and_top : bits .and .u64 (b : Int) 9223372036854775808 = ((b / 9223372036854775808 % 2 * 9223372036854775808 : Nat) : Int) := by
  rw [← nat_bit63 b]; exact u64_and_nat b 9223372036854775808 hb (by decide)

theorem bits_and_size : bits .and .u64 (b : Int) 9223372036854775807 = ((rung b : Nat) : Int) := by
  have h := u64_and_nat b 9223372036854775807 hb (by decide)
  rw [show (9223372036854775807 : Nat) = 2 ^ 63 - 1 from by decide, Nat.and_two_pow_sub_one_eq_mod] at h
  exact h

theorem bits_and_frac : bits .and .u64 (b : Int) 4503599627370495 = ((fr b : Nat) : Int) := by
  have h := u64_and_nat b 4503599627370495 hb (by decide)
  rw [show (4503599627370495 : Nat) = 2 ^ 52 - 1 from by decide, Nat.and_two_pow_sub_one_eq_mod] at h
  exact h

theorem bits_and_exp : bits .and .u64 ((b : Int) / 4503599627370496) 2047 = ((ex b : Nat) : Int) := by
  have h := u64_and_nat (b / 4503599627370496) 2047 (by omega) (by decide)
  rw [show (2047 : Nat) = 2 ^ 11 - 1 from by decide, Nat.and_two_pow_sub_one_eq_mod] at h
  exact h

theorem bits_off_top : bits .andNot .u64 (b : Int) 9223372036854775808 = ((rung b : Nat) : Int) := by
  have h := u64_andNot_nat b 9223372036854775808 hb (by decide)
  rw [show (18446744073709551615 - 9223372036854775808 : Nat) = 2 ^ 63 - 1 from by decide, Nat.and_two_pow_sub_one_eq_mod] at h
  exact h

theorem bits_or_loud : bits .or .u64 (b : Int) 2251799813685248 = ((loud b : Nat) : Int) := u64_or_nat b 2251799813685248 hb (by decide)

theorem bits_xor_all : bits .xor .u64 IntKind.u64.max (b : Int) = ((18446744073709551615 - b : Nat) : Int) := by
  have hm : IntKind.u64.max = ((18446744073709551615 : Nat) : Int) := by decide
  rw [hm, u64_xor_nat 18446744073709551615 b (by decide) hb]
  congr 1
  have h2 : 18446744073709551615 ^^^ b = ((BitVec.allOnes 64) ^^^ (BitVec.ofNat 64 b)).toNat := by
    rw [BitVec.toNat_xor, BitVec.toNat_ofNat, BitVec.toNat_allOnes, Nat.mod_eq_of_lt (show b < 2 ^ 64 from hb)]
  rw [h2, BitVec.allOnes_xor, BitVec.toNat_not, BitVec.toNat_ofNat, Nat.mod_eq_of_lt (show b < 2 ^ 64 from hb)]

/-- is the sign 1? -/
theorem bits_top_test : (bits .and .u64 (b : Int) 9223372036854775808 != 0) = decide (9223372036854775808 ≤ b) := by
  rw [bits_and_top b hb]
  by_cases h : 9223372036854775808 ≤ b
  · rw [decide_eq_true h, bne_iff_ne]; omega
  · rw [decide_eq_false h, bne_eq_false_iff_eq]; omega
end

end Go.Proofs.Ytbdhmjgnklkopaa.Fm
