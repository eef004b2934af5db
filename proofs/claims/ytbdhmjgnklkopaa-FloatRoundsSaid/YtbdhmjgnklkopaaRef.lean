/-
  What the document's own answers on bits are: class, less, equal, keys; and the program's calls that stand on classes and keys: the lesser, the greater, the next above.
-/
import Derived.Test.YtbdhmjgnklkopaaFlt
namespace Go.Proofs.Ytbdhmjgnklkopaa
open Go.RowKit Fm

theorem refclass_any (b : Nat) (hb : b < 18446744073709551616) : Says 15 #[.int .u64 (b : Int)] (.int .i64 ((cls b : Nat) : Int)) := by
  intro w
  have he := exponent_any b hb
  have hf := fraction_any b hb
  have hr : rung b = b % 9223372036854775808 := rfl
  rcases cls_cases b with ⟨c1, c2⟩ | ⟨c1, c2, c3⟩ | ⟨c1, c2, c3⟩ | ⟨c1, c2⟩ | ⟨c1, c2⟩
  · have e1 : ex b = 0 := by unfold ex; omega
    have e2 : fr b = 0 := by unfold fr; omega
    rw [e1] at he; rw [e2] at hf; rw [c2]
    clear hr c1 c2 e1 e2 hb
    go_enter Try.func15, Try.ntmps15
    go_wp2_with fail
    refine (he _).mono ?_
    rintro e w' ⟨rfl, rfl⟩
    go_wp2_with fail
    refine (hf _).mono ?_
    rintro e w' ⟨rfl, rfl⟩
    go_wp2_with fail
    go_ret
    exact ⟨rfl, rfl⟩
  · have e1 : ex b = 0 := by unfold ex; omega
    have e2 : (((fr b : Nat) : Int) == 0) = false := by rw [beq_eq_false_iff_ne]; unfold fr; omega
    rw [e1] at he; rw [c3]
    generalize ((fr b : Nat) : Int) = x at hf e2
    clear hr c1 c2 c3 e1 hb
    go_enter Try.func15, Try.ntmps15
    go_wp2_with fail
    refine (he _).mono ?_
    rintro e w' ⟨rfl, rfl⟩
    go_wp2_with fail
    refine (hf _).mono ?_
    rintro e w' ⟨rfl, rfl⟩
    go_wp2_with fail
    go_ret
    exact ⟨rfl, rfl⟩
  · have e1 : (((ex b : Nat) : Int) == 0) = false := by rw [beq_eq_false_iff_ne]; unfold ex; omega
    have e2 : (((ex b : Nat) : Int) == 2047) = false := by rw [beq_eq_false_iff_ne]; unfold ex; omega
    rw [c3]
    generalize ((ex b : Nat) : Int) = x at he e1 e2
    clear hr c1 c2 c3 hb
    go_enter Try.func15, Try.ntmps15
    go_wp2_with fail
    refine (he _).mono ?_
    rintro e w' ⟨rfl, rfl⟩
    go_wp2_with fail
    go_ret
    exact ⟨rfl, rfl⟩
  · have e1 : ex b = 2047 := by unfold ex; omega
    have e2 : fr b = 0 := by unfold fr; omega
    rw [e1] at he; rw [e2] at hf; rw [c2]
    clear hr c1 c2 e1 e2 hb
    go_enter Try.func15, Try.ntmps15
    go_wp2_with fail
    refine (he _).mono ?_
    rintro e w' ⟨rfl, rfl⟩
    go_wp2_with fail
    refine (hf _).mono ?_
    rintro e w' ⟨rfl, rfl⟩
    go_wp2_with fail
    go_ret
    exact ⟨rfl, rfl⟩
  · have e1 : ex b = 2047 := by have := rung_lt b; unfold ex; omega
    have e2 : (((fr b : Nat) : Int) == 0) = false := by have := rung_lt b; rw [beq_eq_false_iff_ne]; unfold fr; omega
    rw [e1] at he; rw [c2]
    generalize ((fr b : Nat) : Int) = x at hf e2
    clear hr c1 c2 e1 hb
    go_enter Try.func15, Try.ntmps15
    go_wp2_with fail
    refine (he _).mono ?_
    rintro e w' ⟨rfl, rfl⟩
    go_wp2_with fail
    refine (hf _).mono ?_
    rintro e w' ⟨rfl, rfl⟩
    go_wp2_with fail
    go_ret
    exact ⟨rfl, rfl⟩

section
variable (b : Nat) (hb : b < 18446744073709551616)
include hb

theorem refkey_any : Says 17 #[.int .u64 (b : Int)] (.int .u64 ((key b : Nat) : Int)) := by
  intro w
  have hs := sign_any b
  by_cases h : 9223372036854775808 ≤ b
  · have e1 : sg b = 1 := by unfold sg; omega
    have hk : key b = 18446744073709551615 - b := if_pos h
    have hw : IntKind.u64.wrap (18446744073709551615 - (b : Int)) = ((key b : Nat) : Int) := by rw [hk, IntKind.wrap_u64]; omega
    rw [e1] at hs
    clear e1 hk
    go_enter Try.func17, Try.ntmps17
    go_wp2_with fail
    refine (hs _).mono ?_
    rintro e w' ⟨rfl, rfl⟩
    go_wp2_with fail
    go_ret
    exact ⟨by first | rfl | (congr 2; unfold key; rw [if_pos h]; omega), rfl⟩
  · have e1 : sg b = 0 := by unfold sg; omega
    rw [e1] at hs
    clear e1
    have hk : (b : Int) + 9223372036854775808 = ((key b : Nat) : Int) := by rw [show key b = b + 9223372036854775808 from if_neg h]; omega
    have hw : IntKind.u64.wrap ((b : Int) + 9223372036854775808) = ((key b : Nat) : Int) := by rw [IntKind.wrap_u64, ← hk]; omega
    clear h hk hb
    go_enter Try.func17, Try.ntmps17
    go_wp2_with fail
    refine (hs _).mono ?_
    rintro e w' ⟨rfl, rfl⟩
    go_wp2_with fail
    go_ret
    exact ⟨rfl, rfl⟩

theorem reffromkey_any : Says 19 #[.int .u64 (b : Int)] (.int .u64 ((fromKey b : Nat) : Int)) := by
  intro w
  by_cases h : 9223372036854775808 ≤ b
  · have h' : 9223372036854775808 ≤ (b : Int) := by omega
    have e : (b : Int) - 9223372036854775808 = ((fromKey b : Nat) : Int) := by rw [show fromKey b = b - 9223372036854775808 from if_pos h]; omega
    have hw : IntKind.u64.wrap ((b : Int) - 9223372036854775808) = ((fromKey b : Nat) : Int) := by rw [IntKind.wrap_u64, ← e]; omega
    clear h e hb
    go_enter Try.func19, Try.ntmps19
    go_wp2_with fail
    go_ret
    exact ⟨rfl, rfl⟩
  · have h' : decide (9223372036854775808 ≤ (b : Int)) = false := decide_eq_false (by omega)
    have e : 18446744073709551615 - (b : Int) = ((fromKey b : Nat) : Int) := by rw [show fromKey b = 18446744073709551615 - b from if_neg h]; omega
    have hw : IntKind.u64.wrap (18446744073709551615 - (b : Int)) = ((fromKey b : Nat) : Int) := by rw [IntKind.wrap_u64, ← e]; omega
    clear h e hb
    go_enter Try.func19, Try.ntmps19
    go_wp2_with fail
    go_ret
    exact ⟨rfl, rfl⟩
end

/-- the class is 4 just of what is none -/
theorem cls_nan (b : Nat) : (((cls b : Nat) : Int) == 4) = nanB b := by
  have h := cls_cases b
  unfold nanB
  by_cases hn : 9218868437227405312 < rung b
  · rw [decide_eq_true hn, beq_iff_eq]; omega
  · rw [decide_eq_false hn, beq_eq_false_iff_ne]; omega

theorem cls_zero (b : Nat) : (((cls b : Nat) : Int) == 0) = decide (rung b = 0) := by
  have h := cls_cases b
  by_cases hn : rung b = 0
  · rw [decide_eq_true hn, beq_iff_eq]; omega
  · rw [decide_eq_false hn, beq_eq_false_iff_ne]; omega

theorem nan_any (b : Nat) (hb : b < 18446744073709551616) : Says 36 #[.int .u64 (b : Int)] (.bool (nanB b)) := by
  intro w
  have h := class_any b hb
  have hc := cls_nan b
  go_enter Try.func36, Try.ntmps36
  go_wp2_with fail
  refine (h _).mono ?_
  rintro e w' ⟨rfl, rfl⟩
  go_wp2_with fail
  go_ret
  exact ⟨rfl, rfl⟩

/-- the first of two that is none -/
def firstB (a b : Nat) : Value := if nanB a then .tuple #[.int .u64 ((loud a : Nat) : Int), .bool true] else if nanB b then .tuple #[.int .u64 ((loud b : Nat) : Int), .bool true] else .tuple #[.int .u64 0, .bool false]

theorem first_any (a b : Nat) (ha : a < 18446744073709551616) (hb : b < 18446744073709551616) : Says 46 #[.int .u64 (a : Int), .int .u64 (b : Int)] (firstB a b) := by
  intro w
  have h1 := class_any a ha
  have h2 := class_any b hb
  have c1 := cls_nan a
  have c2 := cls_nan b
  have l1 := bits_or_loud a ha
  have l2 := bits_or_loud b hb
  clear ha hb
  unfold firstB
  generalize nanB a = x at *
  generalize nanB b = y at *
  cases x <;> cases y <;> simp only [if_true, if_false, Bool.false_eq_true]
  all_goals
    go_enter Try.func46, Try.ntmps46
    go_wp2_with fail
    refine (h1 _).mono ?_
    rintro e w' ⟨rfl, rfl⟩
    go_wp2_with fail
  · refine (h2 _).mono ?_
    rintro e w' ⟨rfl, rfl⟩
    go_wp2_with fail
    go_ret2
    exact ⟨rfl, rfl⟩
  · refine (h2 _).mono ?_
    rintro e w' ⟨rfl, rfl⟩
    go_wp2_with fail
    go_ret2
    exact ⟨rfl, rfl⟩
  · go_ret2
    exact ⟨rfl, rfl⟩
  · go_ret2
    exact ⟨rfl, rfl⟩

end Go.Proofs.Ytbdhmjgnklkopaa
