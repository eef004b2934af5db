/-
  The lesser and the greater of two are these two; a NaN takes all: the walk of the statement.
-/
import Derived.Test.YtbdhmjgnklkopaaMin
import Derived.Test.YtbdhmjgnklkopaaWake
namespace Go.Proofs.Ytbdhmjgnklkopaa
open Go.RowKit Fm

theorem loud_nan {a : Nat} (h : nanB a = true) : nanB (loud a) = true := by
  have h1 := of_decide_eq_true h
  refine decide_eq_true ?_
  have e : rung (loud a) = rung a ||| 2251799813685248 := by
    show (a ||| 2251799813685248) % 2 ^ 63 = _
    rw [Nat.or_mod_two_pow]
    rfl
  rw [e]
  exact Nat.lt_of_lt_of_le h1 Nat.left_le_or

theorem key_less {a b : Nat} (ha : a < 18446744073709551616) (hb : b < 18446744073709551616) (h : key a ≤ key b) : lessB b a = false := by
  have k1 := key_sk ha
  have k2 := key_sk hb
  have s1 := sk_rung ha
  have s2 := sk_rung hb
  exact lessB_false.2 (by omega)

set_option maxHeartbeats 1000000 in
theorem min_walk (a b : Nat) (ha : a < 18446744073709551616) (hb : b < 18446744073709551616) : Says 8 #[.int .u64 (a : Int), .int .u64 (b : Int)] (.bool true) := by
  intro w
  have c1 := min_any a b ha hb
  have c2 := max_any a b ha hb
  have c3 := min_any b a hb ha
  have c4 := max_any b a hb ha
  have c5 := min_any a a ha ha
  have n1 := nan_any a ha
  have n2 := nan_any b hb
  cases h1 : nanB a
  · rw [h1] at n1
    cases h2 : nanB b
    · rw [h2] at n2
      have e0 : minB a a = a := by unfold minB; rw [h1]; simp
      rw [e0] at c5
      rcases (show a = b ∨ (a ≠ b ∧ key a < key b) ∨ (a ≠ b ∧ key b < key a) from by
        by_cases h : a = b
        · exact Or.inl h
        · have : key a ≠ key b := fun k => h (key_inj ha hb k)
          omega) with h | ⟨h, hk⟩ | ⟨h, hk⟩
      · subst h
        have e1 : maxB a a = a := by unfold maxB; rw [h1]; simp
        have l1 := less_any a a ha ha
        have k1 := key_any a ha
        rw [key_less ha ha (Nat.le_refl _)] at l1
        rw [e0] at c1; rw [e1] at c2; rw [e0] at c3; rw [e1] at c4
        clear e0 e1 h1 h2 ha hb
        go_enter Try.func8, Try.ntmps8
        go_wp2_with fail
        refine (awake_any _).mono ?_
        rintro e w' ⟨rfl, rfl⟩
        go_wp2_with fail
        refine (c1 _).mono ?_
        rintro e w' ⟨rfl, rfl⟩
        go_wp2_with fail
        refine (c2 _).mono ?_
        rintro e w' ⟨rfl, rfl⟩
        go_wp2_with fail
        refine (n1 _).mono ?_
        rintro e w' ⟨rfl, rfl⟩
        go_wp2_with fail
        refine (n2 _).mono ?_
        rintro e w' ⟨rfl, rfl⟩
        go_wp2_with fail
        refine (l1 _).mono ?_
        rintro e w' ⟨rfl, rfl⟩
        go_wp2_with fail
        refine (c3 _).mono ?_
        rintro e w' ⟨rfl, rfl⟩
        go_wp2_with fail
        refine (c4 _).mono ?_
        rintro e w' ⟨rfl, rfl⟩
        go_wp2_with fail
        refine (k1 _).mono ?_
        rintro e w' ⟨rfl, rfl⟩
        go_wp2_with fail
        refine (k1 _).mono ?_
        rintro e w' ⟨rfl, rfl⟩
        go_wp2_with fail
        refine (c5 _).mono ?_
        rintro e w' ⟨rfl, rfl⟩
        go_wp2_with fail
        go_ret
        exact ⟨rfl, rfl⟩
      ·
        have e1 : minB a b = a := by unfold minB; rw [h1, h2]; simp; omega
        have e2 : maxB a b = b := by unfold maxB; rw [h1, h2]; simp; omega
        have e3 : minB b a = a := by unfold minB; rw [h1, h2]; simp; omega
        have e4 : maxB b a = b := by unfold maxB; rw [h1, h2]; simp; omega
        have l1 := less_any b a hb ha
        have k1 := key_any a ha
        have k2 := key_any b hb
        rw [key_less ha hb (by omega)] at l1
        rw [e1] at c1; rw [e2] at c2; rw [e3] at c3; rw [e4] at c4
        have hne : (((a : Nat) : Int) == ((b : Nat) : Int)) = false := by rw [beq_eq_false_iff_ne]; omega
        have hne' : (((b : Nat) : Int) == ((a : Nat) : Int)) = false := by rw [beq_eq_false_iff_ne]; omega
        have hkk : key a ≤ key b := by omega
        clear e0 e1 e2 e3 e4 h1 h2 ha hb h hk
        go_enter Try.func8, Try.ntmps8
        go_wp2_with fail
        refine (awake_any _).mono ?_
        rintro e w' ⟨rfl, rfl⟩
        go_wp2_with fail
        refine (c1 _).mono ?_
        rintro e w' ⟨rfl, rfl⟩
        go_wp2_with fail
        refine (c2 _).mono ?_
        rintro e w' ⟨rfl, rfl⟩
        go_wp2_with fail
        refine (n1 _).mono ?_
        rintro e w' ⟨rfl, rfl⟩
        go_wp2_with fail
        refine (n2 _).mono ?_
        rintro e w' ⟨rfl, rfl⟩
        go_wp2_with fail
        refine (l1 _).mono ?_
        rintro e w' ⟨rfl, rfl⟩
        go_wp2_with fail
        refine (c3 _).mono ?_
        rintro e w' ⟨rfl, rfl⟩
        go_wp2_with fail
        refine (c4 _).mono ?_
        rintro e w' ⟨rfl, rfl⟩
        go_wp2_with fail
        refine (k1 _).mono ?_
        rintro e w' ⟨rfl, rfl⟩
        go_wp2_with fail
        refine (k2 _).mono ?_
        rintro e w' ⟨rfl, rfl⟩
        go_wp2_with fail
        refine (c5 _).mono ?_
        rintro e w' ⟨rfl, rfl⟩
        go_wp2_with fail
        go_ret
        exact ⟨rfl, rfl⟩
      ·
        have e1 : minB a b = b := by unfold minB; rw [h1, h2]; simp; omega
        have e2 : maxB a b = a := by unfold maxB; rw [h1, h2]; simp; omega
        have e3 : minB b a = b := by unfold minB; rw [h1, h2]; simp; omega
        have e4 : maxB b a = a := by unfold maxB; rw [h1, h2]; simp; omega
        have l1 := less_any a b ha hb
        have k1 := key_any b hb
        have k2 := key_any a ha
        rw [key_less hb ha (by omega)] at l1
        rw [e1] at c1; rw [e2] at c2; rw [e3] at c3; rw [e4] at c4
        have hne : (((a : Nat) : Int) == ((b : Nat) : Int)) = false := by rw [beq_eq_false_iff_ne]; omega
        have hne' : (((b : Nat) : Int) == ((a : Nat) : Int)) = false := by rw [beq_eq_false_iff_ne]; omega
        have hkk : key b ≤ key a := by omega
        clear e0 e1 e2 e3 e4 h1 h2 ha hb h hk
        go_enter Try.func8, Try.ntmps8
        go_wp2_with fail
        refine (awake_any _).mono ?_
        rintro e w' ⟨rfl, rfl⟩
        go_wp2_with fail
        refine (c1 _).mono ?_
        rintro e w' ⟨rfl, rfl⟩
        go_wp2_with fail
        refine (c2 _).mono ?_
        rintro e w' ⟨rfl, rfl⟩
        go_wp2_with fail
        refine (n1 _).mono ?_
        rintro e w' ⟨rfl, rfl⟩
        go_wp2_with fail
        refine (n2 _).mono ?_
        rintro e w' ⟨rfl, rfl⟩
        go_wp2_with fail
        refine (l1 _).mono ?_
        rintro e w' ⟨rfl, rfl⟩
        go_wp2_with fail
        refine (c3 _).mono ?_
        rintro e w' ⟨rfl, rfl⟩
        go_wp2_with fail
        refine (c4 _).mono ?_
        rintro e w' ⟨rfl, rfl⟩
        go_wp2_with fail
        refine (k1 _).mono ?_
        rintro e w' ⟨rfl, rfl⟩
        go_wp2_with fail
        refine (k2 _).mono ?_
        rintro e w' ⟨rfl, rfl⟩
        go_wp2_with fail
        refine (c5 _).mono ?_
        rintro e w' ⟨rfl, rfl⟩
        go_wp2_with fail
        go_ret
        exact ⟨rfl, rfl⟩
    · rw [h2] at n2
      have e1 : minB a b = loud b := by unfold minB; rw [h1, h2]; simp
      have e2 : maxB a b = loud b := by unfold maxB; rw [h1, h2]; simp
      have n3 := nan_any (loud b) (loud_lt hb)
      rw [loud_nan h2] at n3
      rw [e1] at c1; rw [e2] at c2
      clear e1 e2 h1 h2 ha hb c3 c4 c5
      generalize loud b = u at *
      go_enter Try.func8, Try.ntmps8
      go_wp2_with fail
      refine (awake_any _).mono ?_
      rintro e w' ⟨rfl, rfl⟩
      go_wp2_with fail
      refine (c1 _).mono ?_
      rintro e w' ⟨rfl, rfl⟩
      go_wp2_with fail
      refine (c2 _).mono ?_
      rintro e w' ⟨rfl, rfl⟩
      go_wp2_with fail
      refine (n1 _).mono ?_
      rintro e w' ⟨rfl, rfl⟩
      go_wp2_with fail
      refine (n2 _).mono ?_
      rintro e w' ⟨rfl, rfl⟩
      go_wp2_with fail
      refine (n3 _).mono ?_
      rintro e w' ⟨rfl, rfl⟩
      go_wp2_with fail
      refine (n3 _).mono ?_
      rintro e w' ⟨rfl, rfl⟩
      go_wp2_with fail
      go_ret
      exact ⟨rfl, rfl⟩
  · rw [h1] at n1
    have e1 : minB a b = loud a := by unfold minB; rw [h1]; simp
    have e2 : maxB a b = loud a := by unfold maxB; rw [h1]; simp
    have n3 := nan_any (loud a) (loud_lt ha)
    rw [loud_nan h1] at n3
    rw [e1] at c1; rw [e2] at c2
    clear e1 e2 h1 ha hb c3 c4 c5 n2
    generalize loud a = u at *
    go_enter Try.func8, Try.ntmps8
    go_wp2_with fail
    refine (awake_any _).mono ?_
    rintro e w' ⟨rfl, rfl⟩
    go_wp2_with fail
    refine (c1 _).mono ?_
    rintro e w' ⟨rfl, rfl⟩
    go_wp2_with fail
    refine (c2 _).mono ?_
    rintro e w' ⟨rfl, rfl⟩
    go_wp2_with fail
    refine (n1 _).mono ?_
    rintro e w' ⟨rfl, rfl⟩
    go_wp2_with fail
    refine (n3 _).mono ?_
    rintro e w' ⟨rfl, rfl⟩
    go_wp2_with fail
    refine (n3 _).mono ?_
    rintro e w' ⟨rfl, rfl⟩
    go_wp2_with fail
    go_ret
    exact ⟨rfl, rfl⟩

end Go.Proofs.Ytbdhmjgnklkopaa
