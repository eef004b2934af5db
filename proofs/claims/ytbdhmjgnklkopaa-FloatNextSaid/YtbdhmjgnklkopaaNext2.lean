/-
  ABOVE EACH IS ONE: the walk of the statement.
-/
import Derived.Test.YtbdhmjgnklkopaaMin
import Derived.Test.YtbdhmjgnklkopaaWake
namespace Go.Proofs.Ytbdhmjgnklkopaa
open Go.RowKit Fm

set_option maxHeartbeats 1000000 in
theorem next_walk (a b : Nat) (ha : a < 18446744073709551616) (hb : b < 18446744073709551616) : Says 6 #[.int .u64 (a : Int), .int .u64 (b : Int)] (.bool true) := by
  intro w
  have hn := next_lt ha
  have c1 := next_any a ha
  have n1 := nan_any a ha
  have n2 := nan_any b hb
  have g1 := class_any a ha
  have l0 : Says 28 #[.int .u64 0, .int .u64 (a : Int)] (.bool (lessB 0 a)) := less_any 0 a (by decide) ha
  have l1 := less_any a (next a) ha hn
  have l2 := less_any a b ha hb
  have l3 := less_any b (next a) hb hn
  have s1 := sk_rung ha
  have k0 : rung 0 = 0 ∧ sk 0 = 0 := ⟨rfl, rfl⟩
  have hc := cls_cases a
  cases hn1 : nanB a
  · have r1 := of_decide_eq_false hn1
    rw [hn1] at n1
    by_cases h1 : a = 9218868437227405312
    · have e : next a = a := by unfold next; rw [hn1, if_neg (by decide), if_pos h1]
      have hcl : cls a = 3 := by omega
      rw [e] at c1; rw [hcl] at g1; rw [lessB_true.2 (by omega)] at l0
      clear e hcl h1 r1 hn1 hc k0 s1 l1 l2 l3 n2 hn ha hb
      go_enter Try.func6, Try.ntmps6
      go_wp2_with fail
      refine (awake_any _).mono ?_
      rintro e w' ⟨rfl, rfl⟩
      go_wp2_with fail
      refine (c1 _).mono ?_
      rintro e w' ⟨rfl, rfl⟩
      go_wp2_with fail
      refine (n1 _).mono ?_
      rintro e w' ⟨rfl, rfl⟩
      go_wp2_with fail
      refine (g1 _).mono ?_
      rintro e w' ⟨rfl, rfl⟩
      go_wp2_with fail
      refine (l0 _).mono ?_
      rintro e w' ⟨rfl, rfl⟩
      go_wp2_with fail
      go_ret
      exact ⟨rfl, rfl⟩
    · have hu := next_above ha hn1 h1
      have ht := next_tight b ha hn1 h1
      rw [hu] at l1
      generalize next a = n at *
      by_cases h2 : cls a = 3
      · rw [h2] at g1; rw [lessB_false.2 (by omega)] at l0
        clear h2 hu h1 r1 hn1 hc k0 s1 hn ha
        cases hn2 : nanB b
        · rw [hn2] at n2
          cases hl : lessB a b
          · rw [hl] at l2
            clear hn2 hl ht l3 hb
            go_enter Try.func6, Try.ntmps6
            go_wp2_with fail
            refine (awake_any _).mono ?_
            rintro e w' ⟨rfl, rfl⟩
            go_wp2_with fail
            refine (c1 _).mono ?_
            rintro e w' ⟨rfl, rfl⟩
            go_wp2_with fail
            refine (n1 _).mono ?_
            rintro e w' ⟨rfl, rfl⟩
            go_wp2_with fail
            refine (g1 _).mono ?_
            rintro e w' ⟨rfl, rfl⟩
            go_wp2_with fail
            refine (l0 _).mono ?_
            rintro e w' ⟨rfl, rfl⟩
            go_wp2_with fail
            refine (n2 _).mono ?_
            rintro e w' ⟨rfl, rfl⟩
            go_wp2_with fail
            refine (l1 _).mono ?_
            rintro e w' ⟨rfl, rfl⟩
            go_wp2_with fail
            refine (l2 _).mono ?_
            rintro e w' ⟨rfl, rfl⟩
            go_wp2_with fail
            go_ret
            exact ⟨rfl, rfl⟩
          · rcases ht with ht | ht
            · rw [hl] at ht; cases ht
            · rw [hl] at l2; rw [ht] at l3
              clear hn2 hl ht hb
              go_enter Try.func6, Try.ntmps6
              go_wp2_with fail
              refine (awake_any _).mono ?_
              rintro e w' ⟨rfl, rfl⟩
              go_wp2_with fail
              refine (c1 _).mono ?_
              rintro e w' ⟨rfl, rfl⟩
              go_wp2_with fail
              refine (n1 _).mono ?_
              rintro e w' ⟨rfl, rfl⟩
              go_wp2_with fail
              refine (g1 _).mono ?_
              rintro e w' ⟨rfl, rfl⟩
              go_wp2_with fail
              refine (l0 _).mono ?_
              rintro e w' ⟨rfl, rfl⟩
              go_wp2_with fail
              refine (n2 _).mono ?_
              rintro e w' ⟨rfl, rfl⟩
              go_wp2_with fail
              refine (l1 _).mono ?_
              rintro e w' ⟨rfl, rfl⟩
              go_wp2_with fail
              refine (l2 _).mono ?_
              rintro e w' ⟨rfl, rfl⟩
              go_wp2_with fail
              refine (l3 _).mono ?_
              rintro e w' ⟨rfl, rfl⟩
              go_wp2_with fail
              go_ret
              exact ⟨rfl, rfl⟩
        · rw [hn2] at n2
          clear hn2 ht l2 l3 hb
          go_enter Try.func6, Try.ntmps6
          go_wp2_with fail
          refine (awake_any _).mono ?_
          rintro e w' ⟨rfl, rfl⟩
          go_wp2_with fail
          refine (c1 _).mono ?_
          rintro e w' ⟨rfl, rfl⟩
          go_wp2_with fail
          refine (n1 _).mono ?_
          rintro e w' ⟨rfl, rfl⟩
          go_wp2_with fail
          refine (g1 _).mono ?_
          rintro e w' ⟨rfl, rfl⟩
          go_wp2_with fail
          refine (l0 _).mono ?_
          rintro e w' ⟨rfl, rfl⟩
          go_wp2_with fail
          refine (n2 _).mono ?_
          rintro e w' ⟨rfl, rfl⟩
          go_wp2_with fail
          refine (l1 _).mono ?_
          rintro e w' ⟨rfl, rfl⟩
          go_wp2_with fail
          go_ret
          exact ⟨rfl, rfl⟩
      · have h2' : (((cls a : Nat) : Int) == 3) = false := by rw [beq_eq_false_iff_ne]; omega
        generalize ((cls a : Nat) : Int) = c at g1 h2'
        clear h2 hu h1 r1 hn1 hc k0 s1 hn ha l0
        cases hn2 : nanB b
        · rw [hn2] at n2
          cases hl : lessB a b
          · rw [hl] at l2
            clear hn2 hl ht l3 hb
            go_enter Try.func6, Try.ntmps6
            go_wp2_with fail
            refine (awake_any _).mono ?_
            rintro e w' ⟨rfl, rfl⟩
            go_wp2_with fail
            refine (c1 _).mono ?_
            rintro e w' ⟨rfl, rfl⟩
            go_wp2_with fail
            refine (n1 _).mono ?_
            rintro e w' ⟨rfl, rfl⟩
            go_wp2_with fail
            refine (g1 _).mono ?_
            rintro e w' ⟨rfl, rfl⟩
            go_wp2_with fail
            refine (n2 _).mono ?_
            rintro e w' ⟨rfl, rfl⟩
            go_wp2_with fail
            refine (l1 _).mono ?_
            rintro e w' ⟨rfl, rfl⟩
            go_wp2_with fail
            refine (l2 _).mono ?_
            rintro e w' ⟨rfl, rfl⟩
            go_wp2_with fail
            go_ret
            exact ⟨rfl, rfl⟩
          · rcases ht with ht | ht
            · rw [hl] at ht; cases ht
            · rw [hl] at l2; rw [ht] at l3
              clear hn2 hl ht hb
              go_enter Try.func6, Try.ntmps6
              go_wp2_with fail
              refine (awake_any _).mono ?_
              rintro e w' ⟨rfl, rfl⟩
              go_wp2_with fail
              refine (c1 _).mono ?_
              rintro e w' ⟨rfl, rfl⟩
              go_wp2_with fail
              refine (n1 _).mono ?_
              rintro e w' ⟨rfl, rfl⟩
              go_wp2_with fail
              refine (g1 _).mono ?_
              rintro e w' ⟨rfl, rfl⟩
              go_wp2_with fail
              refine (n2 _).mono ?_
              rintro e w' ⟨rfl, rfl⟩
              go_wp2_with fail
              refine (l1 _).mono ?_
              rintro e w' ⟨rfl, rfl⟩
              go_wp2_with fail
              refine (l2 _).mono ?_
              rintro e w' ⟨rfl, rfl⟩
              go_wp2_with fail
              refine (l3 _).mono ?_
              rintro e w' ⟨rfl, rfl⟩
              go_wp2_with fail
              go_ret
              exact ⟨rfl, rfl⟩
        · rw [hn2] at n2
          clear hn2 ht l2 l3 hb
          go_enter Try.func6, Try.ntmps6
          go_wp2_with fail
          refine (awake_any _).mono ?_
          rintro e w' ⟨rfl, rfl⟩
          go_wp2_with fail
          refine (c1 _).mono ?_
          rintro e w' ⟨rfl, rfl⟩
          go_wp2_with fail
          refine (n1 _).mono ?_
          rintro e w' ⟨rfl, rfl⟩
          go_wp2_with fail
          refine (g1 _).mono ?_
          rintro e w' ⟨rfl, rfl⟩
          go_wp2_with fail
          refine (n2 _).mono ?_
          rintro e w' ⟨rfl, rfl⟩
          go_wp2_with fail
          refine (l1 _).mono ?_
          rintro e w' ⟨rfl, rfl⟩
          go_wp2_with fail
          go_ret
          exact ⟨rfl, rfl⟩
  · have e : next a = a := by unfold next; rw [hn1, if_pos rfl]
    rw [e] at c1; rw [hn1] at n1
    clear e hn1 hc k0 s1 l0 l1 l2 l3 n2 hn ha hb g1
    go_enter Try.func6, Try.ntmps6
    go_wp2_with fail
    refine (awake_any _).mono ?_
    rintro e w' ⟨rfl, rfl⟩
    go_wp2_with fail
    refine (c1 _).mono ?_
    rintro e w' ⟨rfl, rfl⟩
    go_wp2_with fail
    refine (n1 _).mono ?_
    rintro e w' ⟨rfl, rfl⟩
    go_wp2_with fail
    go_ret
    exact ⟨rfl, rfl⟩

end Go.Proofs.Ytbdhmjgnklkopaa
