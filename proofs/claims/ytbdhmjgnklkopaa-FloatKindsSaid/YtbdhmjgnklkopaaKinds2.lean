/-
  Each number is of one class: the walk of the statement.
-/
import Derived.Test.YtbdhmjgnklkopaaMin
import Derived.Test.YtbdhmjgnklkopaaWake
namespace Go.Proofs.Ytbdhmjgnklkopaa
open Go.RowKit Fm

theorem rung_rung (b : Nat) : rung (rung b) = rung b := rung_small (rung_lt b)
theorem rung_neg {b : Nat} (hb : b < 18446744073709551616) : rung (neg b) = rung b := by unfold neg rung; split <;> omega
theorem neg_neg {b : Nat} (hb : b < 18446744073709551616) : neg (neg b) = b := by unfold neg; split <;> split <;> omega
theorem cls_of {a b : Nat} (h : rung a = rung b) : cls a = cls b := by unfold cls; rw [h]

/-- a whole number is 0 or Normal; 0 is a whole number -/
theorem ok_cls {b : Nat} (hb : b < 18446744073709551616) : (okI b = true ∧ cls b = 0 ∧ intV b = 0) ∨ (okI b = true ∧ cls b = 2 ∧ intV b ≠ 0) ∨ (okI b = false ∧ cls b ≠ 0) := by
  have hs := sk_rung hb
  have hc := cls_cases b
  have hr0 : trunc 0 = 0 := by
    rcases whole_cases (r := 0) (by decide) with ⟨_, h, _⟩ | ⟨h, _⟩ | ⟨h, _⟩
    · exact h
    · omega
    · omega
  by_cases hz : rung b = 0
  · left
    have hk : okI b = true := decide_eq_true ⟨by omega, by omega, by rw [hz, hr0]; rfl⟩
    refine ⟨hk, by omega, ?_⟩
    unfold intV wholeOf
    rw [hk, hz, hr0]
    simp
  · cases hk : okI b
    · right; right
      exact ⟨rfl, by omega⟩
    · right; left
      obtain ⟨k1, k2, k3⟩ := of_decide_eq_true hk
      have ht : trunc (rung b) ≠ 0 ∧ 4607182418800017408 ≤ rung b := by
        rcases whole_cases (r := rung b) (by omega) with ⟨_, _, h⟩ | ⟨h, e, _, _, _, h1, _⟩ | ⟨h, e, _, _, _, _, h1, _⟩
        · exact absurd (h.1 k3) hz
        · have := Nat.two_pow_pos e; omega
        · have := Nat.two_pow_pos e; omega
      refine ⟨rfl, by omega, ?_⟩
      unfold intV wholeOf
      rw [hk, if_pos rfl]
      split <;> omega

theorem intV_none {b : Nat} (h : okI b = false) : intV b = 0 := by unfold intV; rw [h]; rfl

set_option maxHeartbeats 1000000 in
theorem kinds_walk (b : Nat) (hb : b < 18446744073709551616) : Says 9 #[.int .u64 (b : Int)] (.bool true) := by
  intro w
  have hr := rung_lt64 b
  have hn := neg_lt hb
  have g1 := class_any b hb
  have i1 := int_any b hb
  have a1 := abs_any b hb
  have g2 := class_any (rung b) hr
  have m1 := neg_any b hb
  have g3 := class_any (neg b) hn
  have m2 := neg_any (neg b) hn
  rw [cls_of (rung_rung b)] at g2
  rw [cls_of (rung_neg hb)] at g3
  rw [neg_neg hb] at m2
  have l1 : Says 28 #[.int .u64 ((rung b : Nat) : Int), .int .u64 0] (.bool false) := by
    have h := less_any (rung b) 0 hr (by decide)
    rw [lessB_false.2 (by
      have : sk (rung b) = rung b := sk_small (rung_lt b)
      have : sk 0 = 0 := rfl
      omega)] at h
    exact h
  have q1 := equal_any b b hb hb
  have hq : eqB b b = !nanB b := by unfold eqB; simp
  rw [hq] at q1
  have hnan := cls_nan b
  have hc := cls_cases b
  have hcl := cls_le b
  have hinf : cls b = 3 → rung b = 9218868437227405312 := by omega
  have hab : (((rung b : Nat) : Int) == ((b : Nat) : Int)) = true ∨ ((((rung b : Nat) : Int) == ((b : Nat) : Int)) = false ∧ rung b = neg b) := by
    rcases sk_rung hb with ⟨_, _, h⟩ | ⟨h, _, h'⟩
    · left; rw [beq_iff_eq]; omega
    · right
      refine ⟨by rw [beq_eq_false_iff_ne]; omega, ?_⟩
      unfold neg; rw [if_pos h]; omega
  have hok := ok_cls hb
  rcases hok with ⟨hok1, hcc, hv⟩ | ⟨hok1, hcc, hv⟩ | ⟨hok1, hcc0⟩
  ·
    have hnn : nanB b = false := by rw [← hnan, hcc]; rfl
    rw [hnn] at q1
    rw [hcc] at g1 g2 g3
    rw [hok1, hv] at i1
    rcases hab with hab | ⟨hab, hrn⟩
    · clear hnan hc hcl hinf hcc hnn hq hok1 hr hn hb hv
      generalize rung b = r at *
      go_enter Try.func9, Try.ntmps9
      go_wp2_with fail
      refine (awake_any _).mono ?_
      rintro e w' ⟨rfl, rfl⟩
      go_wp2_with fail
      refine (g1 _).mono ?_
      rintro e w' ⟨rfl, rfl⟩
      go_wp2_with fail
      refine (i1 _).mono ?_
      rintro e w' ⟨rfl, rfl⟩
      go_wp2_with fail
      refine (a1 _).mono ?_
      rintro e w' ⟨rfl, rfl⟩
      go_wp2_with fail
      refine (g2 _).mono ?_
      rintro e w' ⟨rfl, rfl⟩
      go_wp2_with fail
      refine (m1 _).mono ?_
      rintro e w' ⟨rfl, rfl⟩
      go_wp2_with fail
      refine (g3 _).mono ?_
      rintro e w' ⟨rfl, rfl⟩
      go_wp2_with fail
      refine (m1 _).mono ?_
      rintro e w' ⟨rfl, rfl⟩
      go_wp2_with fail
      refine (m2 _).mono ?_
      rintro e w' ⟨rfl, rfl⟩
      go_wp2_with fail
      refine (l1 _).mono ?_
      rintro e w' ⟨rfl, rfl⟩
      go_wp2_with fail
      refine (q1 _).mono ?_
      rintro e w' ⟨rfl, rfl⟩
      go_wp2_with fail
      go_ret
      exact ⟨rfl, rfl⟩
    · rw [← hrn] at m1 g3 m2
      clear hrn hnan hc hcl hinf hcc hnn hq hok1 hr hn hb hv
      generalize rung b = r at *
      go_enter Try.func9, Try.ntmps9
      go_wp2_with fail
      refine (awake_any _).mono ?_
      rintro e w' ⟨rfl, rfl⟩
      go_wp2_with fail
      refine (g1 _).mono ?_
      rintro e w' ⟨rfl, rfl⟩
      go_wp2_with fail
      refine (i1 _).mono ?_
      rintro e w' ⟨rfl, rfl⟩
      go_wp2_with fail
      refine (a1 _).mono ?_
      rintro e w' ⟨rfl, rfl⟩
      go_wp2_with fail
      refine (g2 _).mono ?_
      rintro e w' ⟨rfl, rfl⟩
      go_wp2_with fail
      refine (m1 _).mono ?_
      rintro e w' ⟨rfl, rfl⟩
      go_wp2_with fail
      refine (g3 _).mono ?_
      rintro e w' ⟨rfl, rfl⟩
      go_wp2_with fail
      refine (m1 _).mono ?_
      rintro e w' ⟨rfl, rfl⟩
      go_wp2_with fail
      refine (m2 _).mono ?_
      rintro e w' ⟨rfl, rfl⟩
      go_wp2_with fail
      refine (m1 _).mono ?_
      rintro e w' ⟨rfl, rfl⟩
      go_wp2_with fail
      refine (l1 _).mono ?_
      rintro e w' ⟨rfl, rfl⟩
      go_wp2_with fail
      refine (q1 _).mono ?_
      rintro e w' ⟨rfl, rfl⟩
      go_wp2_with fail
      go_ret
      exact ⟨rfl, rfl⟩
  ·
    have hnn : nanB b = false := by rw [← hnan, hcc]; rfl
    rw [hnn] at q1
    rw [hcc] at g1 g2 g3
    rw [hok1] at i1
    have hv' : (intV b == 0) = false := by rw [beq_eq_false_iff_ne]; exact hv
    generalize intV b = v at i1 hv'
    rcases hab with hab | ⟨hab, hrn⟩
    · clear hnan hc hcl hinf hcc hnn hq hok1 hr hn hb hv
      generalize rung b = r at *
      go_enter Try.func9, Try.ntmps9
      go_wp2_with fail
      refine (awake_any _).mono ?_
      rintro e w' ⟨rfl, rfl⟩
      go_wp2_with fail
      refine (g1 _).mono ?_
      rintro e w' ⟨rfl, rfl⟩
      go_wp2_with fail
      refine (i1 _).mono ?_
      rintro e w' ⟨rfl, rfl⟩
      go_wp2_with fail
      refine (a1 _).mono ?_
      rintro e w' ⟨rfl, rfl⟩
      go_wp2_with fail
      refine (g2 _).mono ?_
      rintro e w' ⟨rfl, rfl⟩
      go_wp2_with fail
      refine (m1 _).mono ?_
      rintro e w' ⟨rfl, rfl⟩
      go_wp2_with fail
      refine (g3 _).mono ?_
      rintro e w' ⟨rfl, rfl⟩
      go_wp2_with fail
      refine (m1 _).mono ?_
      rintro e w' ⟨rfl, rfl⟩
      go_wp2_with fail
      refine (m2 _).mono ?_
      rintro e w' ⟨rfl, rfl⟩
      go_wp2_with fail
      refine (l1 _).mono ?_
      rintro e w' ⟨rfl, rfl⟩
      go_wp2_with fail
      refine (q1 _).mono ?_
      rintro e w' ⟨rfl, rfl⟩
      go_wp2_with fail
      go_ret
      exact ⟨rfl, rfl⟩
    · rw [← hrn] at m1 g3 m2
      clear hrn hnan hc hcl hinf hcc hnn hq hok1 hr hn hb hv
      generalize rung b = r at *
      go_enter Try.func9, Try.ntmps9
      go_wp2_with fail
      refine (awake_any _).mono ?_
      rintro e w' ⟨rfl, rfl⟩
      go_wp2_with fail
      refine (g1 _).mono ?_
      rintro e w' ⟨rfl, rfl⟩
      go_wp2_with fail
      refine (i1 _).mono ?_
      rintro e w' ⟨rfl, rfl⟩
      go_wp2_with fail
      refine (a1 _).mono ?_
      rintro e w' ⟨rfl, rfl⟩
      go_wp2_with fail
      refine (g2 _).mono ?_
      rintro e w' ⟨rfl, rfl⟩
      go_wp2_with fail
      refine (m1 _).mono ?_
      rintro e w' ⟨rfl, rfl⟩
      go_wp2_with fail
      refine (g3 _).mono ?_
      rintro e w' ⟨rfl, rfl⟩
      go_wp2_with fail
      refine (m1 _).mono ?_
      rintro e w' ⟨rfl, rfl⟩
      go_wp2_with fail
      refine (m2 _).mono ?_
      rintro e w' ⟨rfl, rfl⟩
      go_wp2_with fail
      refine (m1 _).mono ?_
      rintro e w' ⟨rfl, rfl⟩
      go_wp2_with fail
      refine (l1 _).mono ?_
      rintro e w' ⟨rfl, rfl⟩
      go_wp2_with fail
      refine (q1 _).mono ?_
      rintro e w' ⟨rfl, rfl⟩
      go_wp2_with fail
      go_ret
      exact ⟨rfl, rfl⟩
  · rcases (show cls b = 1 ∨ cls b = 2 ∨ cls b = 3 ∨ cls b = 4 from by omega) with hcc | hcc | hcc | hcc
    · clear hcc0
      have hnn : nanB b = false := by rw [← hnan, hcc]; rfl
      rw [hnn] at q1
      rw [hcc] at g1 g2 g3
      rw [hok1, intV_none hok1] at i1
      rcases hab with hab | ⟨hab, hrn⟩
      · clear hnan hc hcl hinf hcc hnn hq hok1 hr hn hb
        generalize rung b = r at *
        go_enter Try.func9, Try.ntmps9
        go_wp2_with fail
        refine (awake_any _).mono ?_
        rintro e w' ⟨rfl, rfl⟩
        go_wp2_with fail
        refine (g1 _).mono ?_
        rintro e w' ⟨rfl, rfl⟩
        go_wp2_with fail
        refine (i1 _).mono ?_
        rintro e w' ⟨rfl, rfl⟩
        go_wp2_with fail
        refine (a1 _).mono ?_
        rintro e w' ⟨rfl, rfl⟩
        go_wp2_with fail
        refine (g2 _).mono ?_
        rintro e w' ⟨rfl, rfl⟩
        go_wp2_with fail
        refine (m1 _).mono ?_
        rintro e w' ⟨rfl, rfl⟩
        go_wp2_with fail
        refine (g3 _).mono ?_
        rintro e w' ⟨rfl, rfl⟩
        go_wp2_with fail
        refine (m1 _).mono ?_
        rintro e w' ⟨rfl, rfl⟩
        go_wp2_with fail
        refine (m2 _).mono ?_
        rintro e w' ⟨rfl, rfl⟩
        go_wp2_with fail
        refine (l1 _).mono ?_
        rintro e w' ⟨rfl, rfl⟩
        go_wp2_with fail
        refine (q1 _).mono ?_
        rintro e w' ⟨rfl, rfl⟩
        go_wp2_with fail
        go_ret
        exact ⟨rfl, rfl⟩
      · rw [← hrn] at m1 g3 m2
        clear hrn hnan hc hcl hinf hcc hnn hq hok1 hr hn hb
        generalize rung b = r at *
        go_enter Try.func9, Try.ntmps9
        go_wp2_with fail
        refine (awake_any _).mono ?_
        rintro e w' ⟨rfl, rfl⟩
        go_wp2_with fail
        refine (g1 _).mono ?_
        rintro e w' ⟨rfl, rfl⟩
        go_wp2_with fail
        refine (i1 _).mono ?_
        rintro e w' ⟨rfl, rfl⟩
        go_wp2_with fail
        refine (a1 _).mono ?_
        rintro e w' ⟨rfl, rfl⟩
        go_wp2_with fail
        refine (g2 _).mono ?_
        rintro e w' ⟨rfl, rfl⟩
        go_wp2_with fail
        refine (m1 _).mono ?_
        rintro e w' ⟨rfl, rfl⟩
        go_wp2_with fail
        refine (g3 _).mono ?_
        rintro e w' ⟨rfl, rfl⟩
        go_wp2_with fail
        refine (m1 _).mono ?_
        rintro e w' ⟨rfl, rfl⟩
        go_wp2_with fail
        refine (m2 _).mono ?_
        rintro e w' ⟨rfl, rfl⟩
        go_wp2_with fail
        refine (m1 _).mono ?_
        rintro e w' ⟨rfl, rfl⟩
        go_wp2_with fail
        refine (l1 _).mono ?_
        rintro e w' ⟨rfl, rfl⟩
        go_wp2_with fail
        refine (q1 _).mono ?_
        rintro e w' ⟨rfl, rfl⟩
        go_wp2_with fail
        go_ret
        exact ⟨rfl, rfl⟩
    · clear hcc0
      have hnn : nanB b = false := by rw [← hnan, hcc]; rfl
      rw [hnn] at q1
      rw [hcc] at g1 g2 g3
      rw [hok1, intV_none hok1] at i1
      rcases hab with hab | ⟨hab, hrn⟩
      · clear hnan hc hcl hinf hcc hnn hq hok1 hr hn hb
        generalize rung b = r at *
        go_enter Try.func9, Try.ntmps9
        go_wp2_with fail
        refine (awake_any _).mono ?_
        rintro e w' ⟨rfl, rfl⟩
        go_wp2_with fail
        refine (g1 _).mono ?_
        rintro e w' ⟨rfl, rfl⟩
        go_wp2_with fail
        refine (i1 _).mono ?_
        rintro e w' ⟨rfl, rfl⟩
        go_wp2_with fail
        refine (a1 _).mono ?_
        rintro e w' ⟨rfl, rfl⟩
        go_wp2_with fail
        refine (g2 _).mono ?_
        rintro e w' ⟨rfl, rfl⟩
        go_wp2_with fail
        refine (m1 _).mono ?_
        rintro e w' ⟨rfl, rfl⟩
        go_wp2_with fail
        refine (g3 _).mono ?_
        rintro e w' ⟨rfl, rfl⟩
        go_wp2_with fail
        refine (m1 _).mono ?_
        rintro e w' ⟨rfl, rfl⟩
        go_wp2_with fail
        refine (m2 _).mono ?_
        rintro e w' ⟨rfl, rfl⟩
        go_wp2_with fail
        refine (l1 _).mono ?_
        rintro e w' ⟨rfl, rfl⟩
        go_wp2_with fail
        refine (q1 _).mono ?_
        rintro e w' ⟨rfl, rfl⟩
        go_wp2_with fail
        go_ret
        exact ⟨rfl, rfl⟩
      · rw [← hrn] at m1 g3 m2
        clear hrn hnan hc hcl hinf hcc hnn hq hok1 hr hn hb
        generalize rung b = r at *
        go_enter Try.func9, Try.ntmps9
        go_wp2_with fail
        refine (awake_any _).mono ?_
        rintro e w' ⟨rfl, rfl⟩
        go_wp2_with fail
        refine (g1 _).mono ?_
        rintro e w' ⟨rfl, rfl⟩
        go_wp2_with fail
        refine (i1 _).mono ?_
        rintro e w' ⟨rfl, rfl⟩
        go_wp2_with fail
        refine (a1 _).mono ?_
        rintro e w' ⟨rfl, rfl⟩
        go_wp2_with fail
        refine (g2 _).mono ?_
        rintro e w' ⟨rfl, rfl⟩
        go_wp2_with fail
        refine (m1 _).mono ?_
        rintro e w' ⟨rfl, rfl⟩
        go_wp2_with fail
        refine (g3 _).mono ?_
        rintro e w' ⟨rfl, rfl⟩
        go_wp2_with fail
        refine (m1 _).mono ?_
        rintro e w' ⟨rfl, rfl⟩
        go_wp2_with fail
        refine (m2 _).mono ?_
        rintro e w' ⟨rfl, rfl⟩
        go_wp2_with fail
        refine (m1 _).mono ?_
        rintro e w' ⟨rfl, rfl⟩
        go_wp2_with fail
        refine (l1 _).mono ?_
        rintro e w' ⟨rfl, rfl⟩
        go_wp2_with fail
        refine (q1 _).mono ?_
        rintro e w' ⟨rfl, rfl⟩
        go_wp2_with fail
        go_ret
        exact ⟨rfl, rfl⟩
    · clear hcc0
      have hnn : nanB b = false := by rw [← hnan, hcc]; rfl
      rw [hnn] at q1
      rw [hcc] at g1 g2 g3
      rw [hok1, intV_none hok1] at i1
      have hin : (((rung b : Nat) : Int) == 9218868437227405312) = true := by rw [beq_iff_eq]; omega
      rcases hab with hab | ⟨hab, hrn⟩
      · clear hnan hc hcl hinf hcc hnn hq hok1 hr hn hb
        generalize rung b = r at *
        go_enter Try.func9, Try.ntmps9
        go_wp2_with fail
        refine (awake_any _).mono ?_
        rintro e w' ⟨rfl, rfl⟩
        go_wp2_with fail
        refine (g1 _).mono ?_
        rintro e w' ⟨rfl, rfl⟩
        go_wp2_with fail
        refine (i1 _).mono ?_
        rintro e w' ⟨rfl, rfl⟩
        go_wp2_with fail
        refine (a1 _).mono ?_
        rintro e w' ⟨rfl, rfl⟩
        go_wp2_with fail
        refine (g2 _).mono ?_
        rintro e w' ⟨rfl, rfl⟩
        go_wp2_with fail
        refine (m1 _).mono ?_
        rintro e w' ⟨rfl, rfl⟩
        go_wp2_with fail
        refine (g3 _).mono ?_
        rintro e w' ⟨rfl, rfl⟩
        go_wp2_with fail
        refine (m1 _).mono ?_
        rintro e w' ⟨rfl, rfl⟩
        go_wp2_with fail
        refine (m2 _).mono ?_
        rintro e w' ⟨rfl, rfl⟩
        go_wp2_with fail
        refine (l1 _).mono ?_
        rintro e w' ⟨rfl, rfl⟩
        go_wp2_with fail
        refine (q1 _).mono ?_
        rintro e w' ⟨rfl, rfl⟩
        go_wp2_with fail
        go_ret
        exact ⟨rfl, rfl⟩
      · rw [← hrn] at m1 g3 m2
        clear hrn hnan hc hcl hinf hcc hnn hq hok1 hr hn hb
        generalize rung b = r at *
        go_enter Try.func9, Try.ntmps9
        go_wp2_with fail
        refine (awake_any _).mono ?_
        rintro e w' ⟨rfl, rfl⟩
        go_wp2_with fail
        refine (g1 _).mono ?_
        rintro e w' ⟨rfl, rfl⟩
        go_wp2_with fail
        refine (i1 _).mono ?_
        rintro e w' ⟨rfl, rfl⟩
        go_wp2_with fail
        refine (a1 _).mono ?_
        rintro e w' ⟨rfl, rfl⟩
        go_wp2_with fail
        refine (g2 _).mono ?_
        rintro e w' ⟨rfl, rfl⟩
        go_wp2_with fail
        refine (m1 _).mono ?_
        rintro e w' ⟨rfl, rfl⟩
        go_wp2_with fail
        refine (g3 _).mono ?_
        rintro e w' ⟨rfl, rfl⟩
        go_wp2_with fail
        refine (m1 _).mono ?_
        rintro e w' ⟨rfl, rfl⟩
        go_wp2_with fail
        refine (m2 _).mono ?_
        rintro e w' ⟨rfl, rfl⟩
        go_wp2_with fail
        refine (m1 _).mono ?_
        rintro e w' ⟨rfl, rfl⟩
        go_wp2_with fail
        refine (l1 _).mono ?_
        rintro e w' ⟨rfl, rfl⟩
        go_wp2_with fail
        refine (q1 _).mono ?_
        rintro e w' ⟨rfl, rfl⟩
        go_wp2_with fail
        go_ret
        exact ⟨rfl, rfl⟩
    · clear hcc0
      have hnn : nanB b = true := by rw [← hnan, hcc]; rfl
      rw [hnn] at q1
      rw [hcc] at g1 g2 g3
      rw [hok1, intV_none hok1] at i1
      rcases hab with hab | ⟨hab, hrn⟩
      · clear hnan hc hcl hinf hcc hnn hq hok1 hr hn hb
        generalize rung b = r at *
        go_enter Try.func9, Try.ntmps9
        go_wp2_with fail
        refine (awake_any _).mono ?_
        rintro e w' ⟨rfl, rfl⟩
        go_wp2_with fail
        refine (g1 _).mono ?_
        rintro e w' ⟨rfl, rfl⟩
        go_wp2_with fail
        refine (i1 _).mono ?_
        rintro e w' ⟨rfl, rfl⟩
        go_wp2_with fail
        refine (a1 _).mono ?_
        rintro e w' ⟨rfl, rfl⟩
        go_wp2_with fail
        refine (g2 _).mono ?_
        rintro e w' ⟨rfl, rfl⟩
        go_wp2_with fail
        refine (m1 _).mono ?_
        rintro e w' ⟨rfl, rfl⟩
        go_wp2_with fail
        refine (g3 _).mono ?_
        rintro e w' ⟨rfl, rfl⟩
        go_wp2_with fail
        refine (m1 _).mono ?_
        rintro e w' ⟨rfl, rfl⟩
        go_wp2_with fail
        refine (m2 _).mono ?_
        rintro e w' ⟨rfl, rfl⟩
        go_wp2_with fail
        refine (l1 _).mono ?_
        rintro e w' ⟨rfl, rfl⟩
        go_wp2_with fail
        refine (q1 _).mono ?_
        rintro e w' ⟨rfl, rfl⟩
        go_wp2_with fail
        go_ret
        exact ⟨rfl, rfl⟩
      · rw [← hrn] at m1 g3 m2
        clear hrn hnan hc hcl hinf hcc hnn hq hok1 hr hn hb
        generalize rung b = r at *
        go_enter Try.func9, Try.ntmps9
        go_wp2_with fail
        refine (awake_any _).mono ?_
        rintro e w' ⟨rfl, rfl⟩
        go_wp2_with fail
        refine (g1 _).mono ?_
        rintro e w' ⟨rfl, rfl⟩
        go_wp2_with fail
        refine (i1 _).mono ?_
        rintro e w' ⟨rfl, rfl⟩
        go_wp2_with fail
        refine (a1 _).mono ?_
        rintro e w' ⟨rfl, rfl⟩
        go_wp2_with fail
        refine (g2 _).mono ?_
        rintro e w' ⟨rfl, rfl⟩
        go_wp2_with fail
        refine (m1 _).mono ?_
        rintro e w' ⟨rfl, rfl⟩
        go_wp2_with fail
        refine (g3 _).mono ?_
        rintro e w' ⟨rfl, rfl⟩
        go_wp2_with fail
        refine (m1 _).mono ?_
        rintro e w' ⟨rfl, rfl⟩
        go_wp2_with fail
        refine (m2 _).mono ?_
        rintro e w' ⟨rfl, rfl⟩
        go_wp2_with fail
        refine (m1 _).mono ?_
        rintro e w' ⟨rfl, rfl⟩
        go_wp2_with fail
        refine (l1 _).mono ?_
        rintro e w' ⟨rfl, rfl⟩
        go_wp2_with fail
        refine (q1 _).mono ?_
        rintro e w' ⟨rfl, rfl⟩
        go_wp2_with fail
        go_ret
        exact ⟨rfl, rfl⟩

end Go.Proofs.Ytbdhmjgnklkopaa
