/-
  How two numbers with a point stand to each other, as the program's tests spell it, and their classes: plain facts. No program stands in this text.
-/
import Derived.Test.YtbdhmjgnklkopaaBit
import GoSem.Core.Float
namespace Go.Proofs.Ytbdhmjgnklkopaa.Fm

def nanB (b : Nat) : Bool := decide (9218868437227405312 < rung b)
def lessB (a b : Nat) : Bool := !nanB a && !nanB b && decide (sk a < sk b)
def eqB (a b : Nat) : Bool := !nanB a && !nanB b && decide (sk a = sk b)
/-- a number's class -/
def cls (b : Nat) : Nat := if rung b = 0 then 0 else if rung b < 4503599627370496 then 1 else if rung b < 9218868437227405312 then 2 else if rung b = 9218868437227405312 then 3 else 4

section
variable {a b : Nat} (ha : a < 18446744073709551616) (hb : b < 18446744073709551616)
include ha hb

theorem ord_lt : (FloatKind.f64.format.order a b == some Ordering.lt) = lessB a b := by
  show (Ieee.double.order a b == some Ordering.lt) = lessB a b
  rw [order_eq a b ha hb]
  unfold lessB nanB
  by_cases h1 : 9218868437227405312 < rung a
  · rw [if_pos (Or.inl h1), decide_eq_true h1]; rfl
  · by_cases h2 : 9218868437227405312 < rung b
    · rw [if_pos (Or.inr h2), decide_eq_true h2]; simp
    · rw [if_neg (by omega), decide_eq_false h1, decide_eq_false h2]
      by_cases h : sk a < sk b
      · rw [decide_eq_true h, Int.compare_eq_lt.2 h]; rfl
      · rw [decide_eq_false h]
        have : compare (sk a) (sk b) ≠ .lt := fun e => h (Int.compare_eq_lt.1 e)
        simp [this]

theorem ord_eq : (FloatKind.f64.format.order a b == some Ordering.eq) = eqB a b := by
  show (Ieee.double.order a b == some Ordering.eq) = eqB a b
  rw [order_eq a b ha hb]
  unfold eqB nanB
  by_cases h1 : 9218868437227405312 < rung a
  · rw [if_pos (Or.inl h1), decide_eq_true h1]; rfl
  · by_cases h2 : 9218868437227405312 < rung b
    · rw [if_pos (Or.inr h2), decide_eq_true h2]; simp
    · rw [if_neg (by omega), decide_eq_false h1, decide_eq_false h2]
      by_cases h : sk a = sk b
      · rw [decide_eq_true h, Int.compare_eq_eq.2 h]; rfl
      · rw [decide_eq_false h]
        have : compare (sk a) (sk b) ≠ .eq := fun e => h (Int.compare_eq_eq.1 e)
        simp [this]

theorem ord_gt : (FloatKind.f64.format.order a b == some Ordering.gt) = lessB b a := by
  show (Ieee.double.order a b == some Ordering.gt) = lessB b a
  rw [order_eq a b ha hb]
  unfold lessB nanB
  by_cases h1 : 9218868437227405312 < rung a
  · rw [if_pos (Or.inl h1), decide_eq_true h1]; simp
  · by_cases h2 : 9218868437227405312 < rung b
    · rw [if_pos (Or.inr h2), decide_eq_true h2]; simp
    · rw [if_neg (by omega), decide_eq_false h1, decide_eq_false h2]
      by_cases h : sk b < sk a
      · rw [decide_eq_true h, Int.compare_eq_gt.2 h]; rfl
      · rw [decide_eq_false h]
        have : compare (sk a) (sk b) ≠ .gt := fun e => h (Int.compare_eq_gt.1 e)
        simp [this]

theorem ord_ne : (FloatKind.f64.format.order a b != some Ordering.eq) = !eqB a b := by
  rw [← ord_eq ha hb]; rfl
end

theorem lessB_true {a b : Nat} : lessB a b = true ↔ rung a ≤ 9218868437227405312 ∧ rung b ≤ 9218868437227405312 ∧ sk a < sk b := by
  unfold lessB nanB; simp; omega
theorem lessB_false {a b : Nat} : lessB a b = false ↔ 9218868437227405312 < rung a ∨ 9218868437227405312 < rung b ∨ sk b ≤ sk a := by
  unfold lessB nanB; simp; omega
theorem eqB_true {a b : Nat} : eqB a b = true ↔ rung a ≤ 9218868437227405312 ∧ rung b ≤ 9218868437227405312 ∧ sk a = sk b := by
  unfold eqB nanB; simp; omega
theorem eqB_false {a b : Nat} : eqB a b = false ↔ 9218868437227405312 < rung a ∨ 9218868437227405312 < rung b ∨ sk a ≠ sk b := by
  unfold eqB nanB; simp; omega

/-- places and ranks, for arithmetic -/
theorem sk_rung {b : Nat} (hb : b < 18446744073709551616) : (b < 9223372036854775808 ∧ sk b = (rung b : Int) ∧ rung b = b) ∨ (9223372036854775808 ≤ b ∧ sk b = -(rung b : Int) ∧ b = 9223372036854775808 + rung b) := by
  unfold sk rung
  by_cases h : b < 9223372036854775808
  · left; rw [if_pos h]; omega
  · right; rw [if_neg h]; omega

theorem rung_small {b : Nat} (h : b < 9223372036854775808) : rung b = b := Nat.mod_eq_of_lt h
theorem sk_small {b : Nat} (h : b < 9223372036854775808) : sk b = b := if_pos h

theorem cls_cases (b : Nat) : (rung b = 0 ∧ cls b = 0) ∨ (0 < rung b ∧ rung b < 4503599627370496 ∧ cls b = 1) ∨ (4503599627370496 ≤ rung b ∧ rung b < 9218868437227405312 ∧ cls b = 2) ∨ (rung b = 9218868437227405312 ∧ cls b = 3) ∨ (9218868437227405312 < rung b ∧ cls b = 4) := by
  unfold cls
  by_cases h0 : rung b = 0
  · rw [if_pos h0]; omega
  · by_cases h1 : rung b < 4503599627370496
    · rw [if_neg h0, if_pos h1]; omega
    · by_cases h2 : rung b < 9218868437227405312
      · rw [if_neg h0, if_neg h1, if_pos h2]; omega
      · by_cases h3 : rung b = 9218868437227405312
        · rw [if_neg h0, if_neg h1, if_neg h2, if_pos h3]; omega
        · rw [if_neg h0, if_neg h1, if_neg h2, if_neg h3]; omega

theorem cls_le (b : Nat) : cls b ≤ 4 := by have := cls_cases b; omega

end Go.Proofs.Ytbdhmjgnklkopaa.Fm
