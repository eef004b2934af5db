/-
  Two numbers: the document's less and equal; the lesser and the greater, the program's and the document's.
-/
import Derived.Test.YtbdhmjgnklkopaaRef
namespace Go.Proofs.Ytbdhmjgnklkopaa
open Go.RowKit Fm

theorem refless_any (a b : Nat) (ha : a < 18446744073709551616) (hb : b < 18446744073709551616) : Says 29 #[.int .u64 (a : Int), .int .u64 (b : Int)] (.bool (lessB a b)) := by
  intro w
  have n1 := cls_nan a
  have n2 := cls_nan b
  have k1 := sk_rung ha
  have k2 := sk_rung hb
  by_cases x1 : 9218868437227405312 < rung a
  · have e : lessB a b = false := lessB_false.2 (by omega)
    rw [show nanB a = true from decide_eq_true x1] at n1
    rw [e]
    clear e x1 k1 k2 n2
    go_enter Try.func29, Try.ntmps29
    go_wp2_with (go_at_call 15; refine (refclass_any _ (by assumption) _).mono ?_; rintro e w' ⟨rfl, rfl⟩)
    go_ret
    exact ⟨rfl, rfl⟩
  rw [show nanB a = false from decide_eq_false x1] at n1
  by_cases x2 : 9218868437227405312 < rung b
  · have e : lessB a b = false := lessB_false.2 (by omega)
    rw [show nanB b = true from decide_eq_true x2] at n2
    rw [e]
    clear e x1 x2 k1 k2
    go_enter Try.func29, Try.ntmps29
    go_wp2_with (go_at_call 15; refine (refclass_any _ (by assumption) _).mono ?_; rintro e w' ⟨rfl, rfl⟩)
    go_ret
    exact ⟨rfl, rfl⟩
  rw [show nanB b = false from decide_eq_false x2] at n2
  by_cases z : rung a = 0 ∧ rung b = 0
  · have e : lessB a b = false := lessB_false.2 (by omega)
    obtain ⟨z1, z2⟩ := z
    rw [e]
    clear e x1 x2 k1 k2
    go_enter Try.func29, Try.ntmps29
    go_wp2_with (first
      | (go_at_call 15; refine (refclass_any _ (by assumption) _).mono ?_; rintro e w' ⟨rfl, rfl⟩)
      | (go_at_call 38; refine (size_any _ (by assumption) _).mono ?_; rintro e w' ⟨rfl, rfl⟩))
    go_ret
    exact ⟨rfl, rfl⟩
  have hz : ((((rung a : Nat) : Int) == 0) = false) ∨ ((((rung a : Nat) : Int) == 0) = true ∧ (((rung b : Nat) : Int) == 0) = false) := by
    by_cases h : rung a = 0
    · right; rw [beq_iff_eq, beq_eq_false_iff_ne]; omega
    · left; rw [beq_eq_false_iff_ne]; omega
  rcases k1 with ⟨s1, s2, s3⟩ | ⟨s1, s2, s3⟩ <;> rcases k2 with ⟨t1, t2, t3⟩ | ⟨t1, t2, t3⟩
  · have g1 : sg a = 0 := by unfold sg; omega
    have g2 : sg b = 0 := by unfold sg; omega
    have e : decide (rung a < rung b) = lessB a b := by
      by_cases h : rung a < rung b
      · rw [decide_eq_true h, lessB_true.2 (by omega)]
      · rw [decide_eq_false h, lessB_false.2 (by omega)]
    clear x1 x2 z s1 s2 s3 t1 t2 t3
    rcases hz with z1 | ⟨z1, z2⟩
    all_goals
      go_enter Try.func29, Try.ntmps29
      go_wp2_with (first
        | (go_at_call 15; refine (refclass_any _ (by assumption) _).mono ?_; rintro e w' ⟨rfl, rfl⟩)
        | (go_at_call 38; refine (size_any _ (by assumption) _).mono ?_; rintro e w' ⟨rfl, rfl⟩)
        | (go_at_call 41; refine (sign_any _ _).mono ?_; rintro e w' ⟨rfl, rfl⟩))
      go_ret
      exact ⟨rfl, rfl⟩
  · have g1 : sg a = 0 := by unfold sg; omega
    have g2 : sg b = 1 := by unfold sg; omega
    have e : lessB a b = false := lessB_false.2 (by omega)
    rw [e]
    clear e
    clear x1 x2 z s1 s2 s3 t1 t2 t3
    rcases hz with z1 | ⟨z1, z2⟩
    all_goals
      go_enter Try.func29, Try.ntmps29
      go_wp2_with (first
        | (go_at_call 15; refine (refclass_any _ (by assumption) _).mono ?_; rintro e w' ⟨rfl, rfl⟩)
        | (go_at_call 38; refine (size_any _ (by assumption) _).mono ?_; rintro e w' ⟨rfl, rfl⟩)
        | (go_at_call 41; refine (sign_any _ _).mono ?_; rintro e w' ⟨rfl, rfl⟩))
      go_ret
      exact ⟨rfl, rfl⟩
  · have g1 : sg a = 1 := by unfold sg; omega
    have g2 : sg b = 0 := by unfold sg; omega
    have e : lessB a b = true := lessB_true.2 (by omega)
    rw [e]
    clear e
    clear x1 x2 z s1 s2 s3 t1 t2 t3
    rcases hz with z1 | ⟨z1, z2⟩
    all_goals
      go_enter Try.func29, Try.ntmps29
      go_wp2_with (first
        | (go_at_call 15; refine (refclass_any _ (by assumption) _).mono ?_; rintro e w' ⟨rfl, rfl⟩)
        | (go_at_call 38; refine (size_any _ (by assumption) _).mono ?_; rintro e w' ⟨rfl, rfl⟩)
        | (go_at_call 41; refine (sign_any _ _).mono ?_; rintro e w' ⟨rfl, rfl⟩))
      go_ret
      exact ⟨rfl, rfl⟩
  · have g1 : sg a = 1 := by unfold sg; omega
    have g2 : sg b = 1 := by unfold sg; omega
    have e : decide (rung b < rung a) = lessB a b := by
      by_cases h : rung b < rung a
      · rw [decide_eq_true h, lessB_true.2 (by omega)]
      · rw [decide_eq_false h, lessB_false.2 (by omega)]
    clear x1 x2 z s1 s2 s3 t1 t2 t3
    rcases hz with z1 | ⟨z1, z2⟩
    all_goals
      go_enter Try.func29, Try.ntmps29
      go_wp2_with (first
        | (go_at_call 15; refine (refclass_any _ (by assumption) _).mono ?_; rintro e w' ⟨rfl, rfl⟩)
        | (go_at_call 38; refine (size_any _ (by assumption) _).mono ?_; rintro e w' ⟨rfl, rfl⟩)
        | (go_at_call 41; refine (sign_any _ _).mono ?_; rintro e w' ⟨rfl, rfl⟩))
      go_ret
      exact ⟨rfl, rfl⟩

/-- below, or above, or one -/
theorem less_tri (a b : Nat) : (nanB a = true ∧ eqB a b = false) ∨ (nanB a = false ∧ nanB b = true ∧ eqB a b = false) ∨ (nanB a = false ∧ nanB b = false ∧ lessB a b = true ∧ eqB a b = false) ∨ (nanB a = false ∧ nanB b = false ∧ lessB a b = false ∧ lessB b a = true ∧ eqB a b = false) ∨ (nanB a = false ∧ nanB b = false ∧ lessB a b = false ∧ lessB b a = false ∧ eqB a b = true) := by
  unfold lessB eqB
  generalize nanB a = x
  generalize nanB b = y
  cases x <;> cases y <;> simp <;> omega

theorem refequal_any (a b : Nat) (ha : a < 18446744073709551616) (hb : b < 18446744073709551616) : Says 31 #[.int .u64 (a : Int), .int .u64 (b : Int)] (.bool (eqB a b)) := by
  intro w
  have n1 : (((cls a : Nat) : Int) != 4) = !nanB a := by rw [← cls_nan]; rfl
  have n2 : (((cls b : Nat) : Int) != 4) = !nanB b := by rw [← cls_nan]; rfl
  rcases less_tri a b with ⟨h1, h2⟩ | ⟨h1, h2, h3⟩ | ⟨h1, h2, h3, h4⟩ | ⟨h1, h2, h3, h4, h5⟩ | ⟨h1, h2, h3, h4, h5⟩
  all_goals
    go_enter Try.func31, Try.ntmps31
    go_wp2_with (first
      | (go_at_call 15; refine (refclass_any _ (by assumption) _).mono ?_; rintro e w' ⟨rfl, rfl⟩)
      | (go_at_call 29; refine (refless_any _ _ (by assumption) (by assumption) _).mono ?_; rintro e w' ⟨rfl, rfl⟩))
    go_ret
    first | exact ⟨rfl, rfl⟩ | exact ⟨by rw [h2]; rfl, rfl⟩ | exact ⟨by rw [h3]; rfl, rfl⟩ | exact ⟨by rw [h4]; rfl, rfl⟩ | exact ⟨by rw [h5]; rfl, rfl⟩

/-- the lesser, the greater -/
def minB (a b : Nat) : Nat := if nanB a then loud a else if nanB b then loud b else if key b < key a then b else a
def maxB (a b : Nat) : Nat := if nanB a then loud a else if nanB b then loud b else if key a < key b then b else a

theorem refmin_any (a b : Nat) (ha : a < 18446744073709551616) (hb : b < 18446744073709551616) : Says 33 #[.int .u64 (a : Int), .int .u64 (b : Int)] (.int .u64 ((minB a b : Nat) : Int)) := by
  intro w
  have n1 := cls_nan a
  have n2 := cls_nan b
  have hm : minB a b = if nanB a then loud a else if nanB b then loud b else if key b < key a then b else a := rfl
  have hc : (nanB a = true ∧ minB a b = loud a) ∨ (nanB a = false ∧ nanB b = true ∧ minB a b = loud b) ∨ (nanB a = false ∧ nanB b = false ∧ key b < key a ∧ minB a b = b) ∨ (nanB a = false ∧ nanB b = false ∧ key a ≤ key b ∧ minB a b = a) := by
    rw [hm]
    cases nanB a <;> cases nanB b <;> simp <;> by_cases h : key b < key a <;> simp [h] <;> omega
  clear hm
  rcases hc with ⟨h1, h2⟩ | ⟨h1, h2, h3⟩ | ⟨h1, h2, h3, h4⟩ | ⟨h1, h2, h3, h4⟩
  all_goals
    go_enter Try.func33, Try.ntmps33
    go_wp2_with (first
      | (go_at_call 15; refine (refclass_any _ (by assumption) _).mono ?_; rintro e w' ⟨rfl, rfl⟩)
      | (go_at_call 47; refine (quiet_any _ (by assumption) _).mono ?_; rintro e w' ⟨rfl, rfl⟩)
      | (go_at_call 17; refine (refkey_any _ (by assumption) _).mono ?_; rintro e w' ⟨rfl, rfl⟩))
    go_ret
    first | exact ⟨rfl, rfl⟩ | exact ⟨by rw [h2]; rfl, rfl⟩ | exact ⟨by rw [h3]; rfl, rfl⟩ | exact ⟨by rw [h4]; rfl, rfl⟩

theorem refmax_any (a b : Nat) (ha : a < 18446744073709551616) (hb : b < 18446744073709551616) : Says 35 #[.int .u64 (a : Int), .int .u64 (b : Int)] (.int .u64 ((maxB a b : Nat) : Int)) := by
  intro w
  have n1 := cls_nan a
  have n2 := cls_nan b
  have hm : maxB a b = if nanB a then loud a else if nanB b then loud b else if key a < key b then b else a := rfl
  have hc : (nanB a = true ∧ maxB a b = loud a) ∨ (nanB a = false ∧ nanB b = true ∧ maxB a b = loud b) ∨ (nanB a = false ∧ nanB b = false ∧ key a < key b ∧ maxB a b = b) ∨ (nanB a = false ∧ nanB b = false ∧ key b ≤ key a ∧ maxB a b = a) := by
    rw [hm]
    cases nanB a <;> cases nanB b <;> simp <;> by_cases h : key a < key b <;> simp [h] <;> omega
  clear hm
  rcases hc with ⟨h1, h2⟩ | ⟨h1, h2, h3⟩ | ⟨h1, h2, h3, h4⟩ | ⟨h1, h2, h3, h4⟩
  all_goals
    go_enter Try.func35, Try.ntmps35
    go_wp2_with (first
      | (go_at_call 15; refine (refclass_any _ (by assumption) _).mono ?_; rintro e w' ⟨rfl, rfl⟩)
      | (go_at_call 47; refine (quiet_any _ (by assumption) _).mono ?_; rintro e w' ⟨rfl, rfl⟩)
      | (go_at_call 17; refine (refkey_any _ (by assumption) _).mono ?_; rintro e w' ⟨rfl, rfl⟩))
    go_ret
    first | exact ⟨rfl, rfl⟩ | exact ⟨by rw [h2]; rfl, rfl⟩ | exact ⟨by rw [h3]; rfl, rfl⟩ | exact ⟨by rw [h4]; rfl, rfl⟩

end Go.Proofs.Ytbdhmjgnklkopaa
