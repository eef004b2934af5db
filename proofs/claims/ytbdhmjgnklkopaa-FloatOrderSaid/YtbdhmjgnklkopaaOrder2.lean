/-
  KEYS ARE THE ORDER: the walk of the statement.
-/
import Derived.Test.YtbdhmjgnklkopaaMin
import Derived.Test.YtbdhmjgnklkopaaWake
namespace Go.Proofs.Ytbdhmjgnklkopaa
open Go.RowKit Fm

set_option maxHeartbeats 1000000 in
theorem order_walk (a b : Nat) (ha : a < 18446744073709551616) (hb : b < 18446744073709551616) : Says 5 #[.int .u64 (a : Int), .int .u64 (b : Int)] (.bool true) := by
  intro w
  have ka := key_lt ha
  have fa := fromKey_lt ha
  have e1 := fromKey_key ha
  have e2 := key_fromKey ha
  have c1 := fromkey_any (key a) ka
  have c2 := key_any (fromKey a) fa
  rw [e1] at c1
  rw [e2] at c2
  have c3 := key_any a ha
  have c4 := key_any b hb
  have c5 := fromkey_any a ha
  have n1 := nan_any a ha
  have n2 := nan_any b hb
  have l1 := less_any a b ha hb
  have l2 := less_any b a hb ha
  have q1 := equal_any a b ha hb
  have g1 := class_any a ha
  have g2 := class_any b hb
  have z1 := cls_zero a
  have z2 := cls_zero b
  have hk : ∃ x : Bool, (((key a : Nat) : Int) == ((key b : Nat) : Int)) = x ∧ (((a : Nat) : Int) == ((b : Nat) : Int)) = x := by
    by_cases h : a = b
    · subst h; exact ⟨true, by simp, by simp⟩
    · refine ⟨false, ?_, ?_⟩
      · rw [beq_eq_false_iff_ne]; intro k; exact h (key_inj ha hb (by omega))
      · rw [beq_eq_false_iff_ne]; omega
  obtain ⟨x, k1, k2⟩ := hk
  rcases (show (nanB a = true ∧ lessB a b = false ∧ lessB b a = false ∧ eqB a b = false) ∨ (nanB a = false ∧ nanB b = true ∧ lessB a b = false ∧ lessB b a = false ∧ eqB a b = false) ∨ (nanB a = false ∧ nanB b = false ∧ decide (rung a = 0) = true ∧ decide (rung b = 0) = true ∧ eqB a b = true ∧ lessB a b = false) ∨ (nanB a = false ∧ nanB b = false ∧ decide (rung a = 0) = true ∧ decide (rung b = 0) = false ∧ lessB a b = decide (key a < key b) ∧ eqB a b = (((a : Nat) : Int) == ((b : Nat) : Int))) ∨ (nanB a = false ∧ nanB b = false ∧ decide (rung a = 0) = false ∧ lessB a b = decide (key a < key b) ∧ eqB a b = (((a : Nat) : Int) == ((b : Nat) : Int))) from by
    have s1 := sk_rung ha
    have s2 := sk_rung hb
    cases hn1 : nanB a
    · cases hn2 : nanB b
      · by_cases r1 : rung a = 0
        · by_cases r2 : rung b = 0
          · right; right; left
            exact ⟨rfl, rfl, decide_eq_true r1, decide_eq_true r2, eqB_true.2 (by omega), lessB_false.2 (by omega)⟩
          · right; right; right; left
            exact ⟨rfl, rfl, decide_eq_true r1, decide_eq_false r2, less_key ha hb hn1 hn2 (by omega), eq_bits ha hb hn1 hn2 (by omega)⟩
        · right; right; right; right
          exact ⟨rfl, rfl, decide_eq_false r1, less_key ha hb hn1 hn2 (by omega), eq_bits ha hb hn1 hn2 (by omega)⟩
      · right; left
        unfold lessB eqB
        rw [hn1, hn2]
        simp
    · left
      unfold lessB eqB
      rw [hn1]
      simp) with ⟨h1, h2, h3, h4⟩ | ⟨h1, h2, h3, h4, h5⟩ | ⟨h1, h2, h3, h4, h5, h6⟩ | ⟨h1, h2, h3, h4, h5, h6⟩ | ⟨h1, h2, h3, h4, h5⟩
  · rw [h1] at n1; rw [h2] at l1; rw [h3] at l2; rw [h4] at q1
    clear h1 h2 h3 h4 ka fa e1 e2 z1 z2 g1 g2 n2 ha hb
    go_enter Try.func5, Try.ntmps5
    go_wp2_with fail
    refine (awake_any _).mono ?_
    rintro e w' ⟨rfl, rfl⟩
    go_wp2_with fail
    refine (c3 _).mono ?_
    rintro e w' ⟨rfl, rfl⟩
    go_wp2_with fail
    refine (c1 _).mono ?_
    rintro e w' ⟨rfl, rfl⟩
    go_wp2_with fail
    refine (c5 _).mono ?_
    rintro e w' ⟨rfl, rfl⟩
    go_wp2_with fail
    refine (c2 _).mono ?_
    rintro e w' ⟨rfl, rfl⟩
    go_wp2_with fail
    refine (c3 _).mono ?_
    rintro e w' ⟨rfl, rfl⟩
    go_wp2_with fail
    refine (c4 _).mono ?_
    rintro e w' ⟨rfl, rfl⟩
    go_wp2_with fail
    refine (n1 _).mono ?_
    rintro e w' ⟨rfl, rfl⟩
    go_wp2_with fail
    refine (l1 _).mono ?_
    rintro e w' ⟨rfl, rfl⟩
    go_wp2_with fail
    refine (q1 _).mono ?_
    rintro e w' ⟨rfl, rfl⟩
    go_wp2_with fail
    refine (l2 _).mono ?_
    rintro e w' ⟨rfl, rfl⟩
    go_wp2_with fail
    go_ret
    exact ⟨rfl, rfl⟩
  · rw [h1] at n1; rw [h2] at n2; rw [h3] at l1; rw [h4] at l2; rw [h5] at q1
    clear h1 h2 h3 h4 h5 ka fa e1 e2 z1 z2 g1 g2 ha hb
    go_enter Try.func5, Try.ntmps5
    go_wp2_with fail
    refine (awake_any _).mono ?_
    rintro e w' ⟨rfl, rfl⟩
    go_wp2_with fail
    refine (c3 _).mono ?_
    rintro e w' ⟨rfl, rfl⟩
    go_wp2_with fail
    refine (c1 _).mono ?_
    rintro e w' ⟨rfl, rfl⟩
    go_wp2_with fail
    refine (c5 _).mono ?_
    rintro e w' ⟨rfl, rfl⟩
    go_wp2_with fail
    refine (c2 _).mono ?_
    rintro e w' ⟨rfl, rfl⟩
    go_wp2_with fail
    refine (c3 _).mono ?_
    rintro e w' ⟨rfl, rfl⟩
    go_wp2_with fail
    refine (c4 _).mono ?_
    rintro e w' ⟨rfl, rfl⟩
    go_wp2_with fail
    refine (n1 _).mono ?_
    rintro e w' ⟨rfl, rfl⟩
    go_wp2_with fail
    refine (n2 _).mono ?_
    rintro e w' ⟨rfl, rfl⟩
    go_wp2_with fail
    refine (l1 _).mono ?_
    rintro e w' ⟨rfl, rfl⟩
    go_wp2_with fail
    refine (q1 _).mono ?_
    rintro e w' ⟨rfl, rfl⟩
    go_wp2_with fail
    refine (l2 _).mono ?_
    rintro e w' ⟨rfl, rfl⟩
    go_wp2_with fail
    go_ret
    exact ⟨rfl, rfl⟩
  · rw [h1] at n1; rw [h2] at n2; rw [h3] at z1; rw [h4] at z2; rw [h5] at q1; rw [h6] at l1
    clear h1 h2 h3 h4 h5 h6 ka fa e1 e2 ha hb l2
    go_enter Try.func5, Try.ntmps5
    go_wp2_with fail
    refine (awake_any _).mono ?_
    rintro e w' ⟨rfl, rfl⟩
    go_wp2_with fail
    refine (c3 _).mono ?_
    rintro e w' ⟨rfl, rfl⟩
    go_wp2_with fail
    refine (c1 _).mono ?_
    rintro e w' ⟨rfl, rfl⟩
    go_wp2_with fail
    refine (c5 _).mono ?_
    rintro e w' ⟨rfl, rfl⟩
    go_wp2_with fail
    refine (c2 _).mono ?_
    rintro e w' ⟨rfl, rfl⟩
    go_wp2_with fail
    refine (c3 _).mono ?_
    rintro e w' ⟨rfl, rfl⟩
    go_wp2_with fail
    refine (c4 _).mono ?_
    rintro e w' ⟨rfl, rfl⟩
    go_wp2_with fail
    refine (n1 _).mono ?_
    rintro e w' ⟨rfl, rfl⟩
    go_wp2_with fail
    refine (n2 _).mono ?_
    rintro e w' ⟨rfl, rfl⟩
    go_wp2_with fail
    refine (g1 _).mono ?_
    rintro e w' ⟨rfl, rfl⟩
    go_wp2_with fail
    refine (g2 _).mono ?_
    rintro e w' ⟨rfl, rfl⟩
    go_wp2_with fail
    refine (q1 _).mono ?_
    rintro e w' ⟨rfl, rfl⟩
    go_wp2_with fail
    refine (l1 _).mono ?_
    rintro e w' ⟨rfl, rfl⟩
    go_wp2_with fail
    go_ret
    exact ⟨rfl, rfl⟩
  · rw [h1] at n1; rw [h2] at n2; rw [h3] at z1; rw [h4] at z2; rw [h6, k2] at q1; rw [h5] at l1
    clear h1 h2 h3 h4 h5 h6 ka fa e1 e2 ha hb l2
    go_enter Try.func5, Try.ntmps5
    go_wp2_with fail
    refine (awake_any _).mono ?_
    rintro e w' ⟨rfl, rfl⟩
    go_wp2_with fail
    refine (c3 _).mono ?_
    rintro e w' ⟨rfl, rfl⟩
    go_wp2_with fail
    refine (c1 _).mono ?_
    rintro e w' ⟨rfl, rfl⟩
    go_wp2_with fail
    refine (c5 _).mono ?_
    rintro e w' ⟨rfl, rfl⟩
    go_wp2_with fail
    refine (c2 _).mono ?_
    rintro e w' ⟨rfl, rfl⟩
    go_wp2_with fail
    refine (c3 _).mono ?_
    rintro e w' ⟨rfl, rfl⟩
    go_wp2_with fail
    refine (c4 _).mono ?_
    rintro e w' ⟨rfl, rfl⟩
    go_wp2_with fail
    refine (n1 _).mono ?_
    rintro e w' ⟨rfl, rfl⟩
    go_wp2_with fail
    refine (n2 _).mono ?_
    rintro e w' ⟨rfl, rfl⟩
    go_wp2_with fail
    refine (g1 _).mono ?_
    rintro e w' ⟨rfl, rfl⟩
    go_wp2_with fail
    refine (g2 _).mono ?_
    rintro e w' ⟨rfl, rfl⟩
    go_wp2_with fail
    refine (l1 _).mono ?_
    rintro e w' ⟨rfl, rfl⟩
    go_wp2_with fail
    refine (c3 _).mono ?_
    rintro e w' ⟨rfl, rfl⟩
    go_wp2_with fail
    refine (c4 _).mono ?_
    rintro e w' ⟨rfl, rfl⟩
    go_wp2_with fail
    refine (q1 _).mono ?_
    rintro e w' ⟨rfl, rfl⟩
    go_wp2_with fail
    go_ret
    exact ⟨rfl, rfl⟩
  · rw [h1] at n1; rw [h2] at n2; rw [h3] at z1; rw [h5, k2] at q1; rw [h4] at l1
    clear h1 h2 h3 h4 h5 ka fa e1 e2 ha hb l2 z2 g2
    go_enter Try.func5, Try.ntmps5
    go_wp2_with fail
    refine (awake_any _).mono ?_
    rintro e w' ⟨rfl, rfl⟩
    go_wp2_with fail
    refine (c3 _).mono ?_
    rintro e w' ⟨rfl, rfl⟩
    go_wp2_with fail
    refine (c1 _).mono ?_
    rintro e w' ⟨rfl, rfl⟩
    go_wp2_with fail
    refine (c5 _).mono ?_
    rintro e w' ⟨rfl, rfl⟩
    go_wp2_with fail
    refine (c2 _).mono ?_
    rintro e w' ⟨rfl, rfl⟩
    go_wp2_with fail
    refine (c3 _).mono ?_
    rintro e w' ⟨rfl, rfl⟩
    go_wp2_with fail
    refine (c4 _).mono ?_
    rintro e w' ⟨rfl, rfl⟩
    go_wp2_with fail
    refine (n1 _).mono ?_
    rintro e w' ⟨rfl, rfl⟩
    go_wp2_with fail
    refine (n2 _).mono ?_
    rintro e w' ⟨rfl, rfl⟩
    go_wp2_with fail
    refine (g1 _).mono ?_
    rintro e w' ⟨rfl, rfl⟩
    go_wp2_with fail
    refine (l1 _).mono ?_
    rintro e w' ⟨rfl, rfl⟩
    go_wp2_with fail
    refine (c3 _).mono ?_
    rintro e w' ⟨rfl, rfl⟩
    go_wp2_with fail
    refine (c4 _).mono ?_
    rintro e w' ⟨rfl, rfl⟩
    go_wp2_with fail
    refine (q1 _).mono ?_
    rintro e w' ⟨rfl, rfl⟩
    go_wp2_with fail
    go_ret
    exact ⟨rfl, rfl⟩

end Go.Proofs.Ytbdhmjgnklkopaa
