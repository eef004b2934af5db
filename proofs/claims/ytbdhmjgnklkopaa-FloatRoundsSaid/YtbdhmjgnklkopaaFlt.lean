/-
  What the program's own calls on numbers with a point answer: what class one is of, how two stand to each other.
-/
import Derived.Test.YtbdhmjgnklkopaaSmall
import Derived.Test.YtbdhmjgnklkopaaOrd
namespace Go.Proofs.Ytbdhmjgnklkopaa
open Go.RowKit Fm

theorem frombits_run (b : Nat) (w : World) : (callFunc 37 #[.int .u64 (b : Int)]).run Try.prog w = .ok (.value (.float .f64 b)) w :=
  run_callFunc_extern Try.func37 (by kernel_rfl) (by kernel_rfl) (by kernel_rfl) (e := Extern.MathFloatBits.float64frombits) (by kernel_rfl) _ w

theorem bits_run (b : Nat) (w : World) : (callFunc 44 #[.float .f64 b]).run Try.prog w = .ok (.value (.int .u64 (b : Int))) w :=
  run_callFunc_extern Try.func44 (by kernel_rfl) (by kernel_rfl) (by kernel_rfl) (e := Extern.MathFloatBits.float64bits) (by kernel_rfl) _ w

theorem isnan_any (b : Nat) (hb : b < 18446744073709551616) : Says 42 #[.float .f64 b] (.bool (nanB b)) := by
  intro w
  have h : (FloatKind.f64.format.order b b != some Ordering.eq) = nanB b := by
    rw [ord_ne hb hb]; unfold eqB nanB; simp
  clear hb
  go_enter Try.func42, Try.ntmps42
  go_wp2_with fail
  go_ret
  exact ⟨rfl, rfl⟩

theorem mabs_any (b : Nat) (hb : b < 18446744073709551616) : Says 48 #[.float .f64 b] (.float .f64 (rung b)) := by
  intro w
  have h1 := bits_run b
  have h2 := frombits_run (rung b)
  have h3 := bits_off_top b hb
  go_enter Try.func48, Try.ntmps48
  go_wp2_with fail
  go_ret
  exact ⟨rfl, rfl⟩

theorem isinf_any (b : Nat) (hb : b < 18446744073709551616) : Says 43 #[.float .f64 b, .int .i64 0] (.bool (decide (rung b = 9218868437227405312))) := by
  intro w
  have h0 := mabs_any b hb w
  have h : (FloatKind.f64.format.order (rung b) 9218868437227405311 == some Ordering.gt) = decide (rung b = 9218868437227405312) := by
    rw [ord_gt (rung_lt64 b) (by decide)]
    have h1 : rung (rung b) = rung b := rung_small (rung_lt b)
    have h2 : sk (rung b) = rung b := sk_small (rung_lt b)
    have h3 : rung 9218868437227405311 = 9218868437227405311 := rung_small (by decide)
    have h4 : sk 9218868437227405311 = 9218868437227405311 := sk_small (by decide)
    by_cases h : rung b = 9218868437227405312
    · rw [decide_eq_true h, lessB_true]; omega
    · rw [decide_eq_false h, lessB_false]; omega
  clear hb
  go_enter Try.func43, Try.ntmps43
  go_wp2_with fail
  refine h0.mono ?_
  rintro e w' ⟨rfl, rfl⟩
  clear h0
  go_wp2_with fail
  go_ret
  exact ⟨rfl, rfl⟩

theorem isinf_up (b : Nat) (hb : b < 18446744073709551616) : Says 43 #[.float .f64 b, .int .i64 1] (.bool (decide (b = 9218868437227405312))) := by
  intro w
  have h : (FloatKind.f64.format.order b 9218868437227405311 == some Ordering.gt) = decide (b = 9218868437227405312) := by
    rw [ord_gt hb (by decide)]
    have h3 : rung 9218868437227405311 = 9218868437227405311 := rung_small (by decide)
    have h4 : sk 9218868437227405311 = 9218868437227405311 := sk_small (by decide)
    have h1 := sk_rung hb
    by_cases h : b = 9218868437227405312
    · rw [decide_eq_true h, lessB_true]; omega
    · rw [decide_eq_false h, lessB_false]; omega
  clear hb
  go_enter Try.func43, Try.ntmps43
  go_wp2_with fail
  go_ret
  exact ⟨rfl, rfl⟩

theorem less_any (a b : Nat) (ha : a < 18446744073709551616) (hb : b < 18446744073709551616) : Says 28 #[.int .u64 (a : Int), .int .u64 (b : Int)] (.bool (lessB a b)) := by
  intro w
  have h1 := frombits_run a
  have h2 := frombits_run b
  have h3 := ord_lt ha hb
  clear ha hb
  go_enter Try.func28, Try.ntmps28
  go_wp2_with fail
  go_ret
  exact ⟨rfl, rfl⟩

theorem equal_any (a b : Nat) (ha : a < 18446744073709551616) (hb : b < 18446744073709551616) : Says 30 #[.int .u64 (a : Int), .int .u64 (b : Int)] (.bool (eqB a b)) := by
  intro w
  have h1 := frombits_run a
  have h2 := frombits_run b
  have h3 := ord_eq ha hb
  clear ha hb
  go_enter Try.func30, Try.ntmps30
  go_wp2_with fail
  go_ret
  exact ⟨rfl, rfl⟩

theorem class_any (b : Nat) (hb : b < 18446744073709551616) : Says 14 #[.int .u64 (b : Int)] (.int .i64 ((cls b : Nat) : Int)) := by
  intro w
  have h1 := frombits_run b
  have hn := isnan_any b hb
  have hi := isinf_any b hb
  have e0 := ord_eq (a := b) (b := 0) hb (by decide)
  have e1 := ord_lt (a := 9227875636482146304) (b := b) (by decide) hb
  have e2 := ord_lt (a := b) (b := 4503599627370496) hb (by decide)
  have k0 : rung 0 = 0 ∧ sk 0 = 0 := ⟨rfl, rfl⟩
  have k1 : rung 9227875636482146304 = 4503599627370496 ∧ sk 9227875636482146304 = -4503599627370496 := by decide
  have k2 : rung 4503599627370496 = 4503599627370496 ∧ sk 4503599627370496 = 4503599627370496 := by decide
  have hs := sk_rung hb
  rcases cls_cases b with ⟨c1, c2⟩ | ⟨c1, c2, c3⟩ | ⟨c1, c2, c3⟩ | ⟨c1, c2⟩ | ⟨c1, c2⟩
  · have n0 : nanB b = false := decide_eq_false (by omega)
    have n1 : decide (rung b = 9218868437227405312) = false := decide_eq_false (by omega)
    have n2 : eqB b 0 = true := eqB_true.2 (by omega)
    rw [n0] at hn; rw [n1] at hi; rw [n2] at e0; rw [c2]
    clear hs k0 k1 k2 e1 e2 c1 c2 hb n0 n1 n2
    go_enter Try.func14, Try.ntmps14
    go_wp2_with fail
    refine (hn _).mono ?_
    rintro e w' ⟨rfl, rfl⟩
    go_wp2_with fail
    refine (hi _).mono ?_
    rintro e w' ⟨rfl, rfl⟩
    go_wp2_with fail
    go_ret
    exact ⟨rfl, rfl⟩
  · have n0 : nanB b = false := decide_eq_false (by omega)
    have n1 : decide (rung b = 9218868437227405312) = false := decide_eq_false (by omega)
    have n2 : eqB b 0 = false := eqB_false.2 (by omega)
    have n3 : lessB 9227875636482146304 b = true := lessB_true.2 (by omega)
    have n4 : lessB b 4503599627370496 = true := lessB_true.2 (by omega)
    rw [n0] at hn; rw [n1] at hi; rw [n2] at e0; rw [n3] at e1; rw [n4] at e2; rw [c3]
    clear hs k0 k1 k2 c1 c2 c3 hb n0 n1 n2 n3 n4
    go_enter Try.func14, Try.ntmps14
    go_wp2_with fail
    refine (hn _).mono ?_
    rintro e w' ⟨rfl, rfl⟩
    go_wp2_with fail
    refine (hi _).mono ?_
    rintro e w' ⟨rfl, rfl⟩
    go_wp2_with fail
    go_ret
    exact ⟨rfl, rfl⟩
  · have n0 : nanB b = false := decide_eq_false (by omega)
    have n1 : decide (rung b = 9218868437227405312) = false := decide_eq_false (by omega)
    have n2 : eqB b 0 = false := eqB_false.2 (by omega)
    rw [n0] at hn; rw [n1] at hi; rw [n2] at e0; rw [c3]
    rcases hs with ⟨s1, s2, s3⟩ | ⟨s1, s2, s3⟩
    · have n3 : lessB 9227875636482146304 b = true := lessB_true.2 (by omega)
      have n4 : lessB b 4503599627370496 = false := lessB_false.2 (by omega)
      rw [n3] at e1; rw [n4] at e2
      clear s1 s2 s3 k0 k1 k2 c1 c2 c3 hb n0 n1 n2 n3 n4
      go_enter Try.func14, Try.ntmps14
      go_wp2_with fail
      refine (hn _).mono ?_
      rintro e w' ⟨rfl, rfl⟩
      go_wp2_with fail
      refine (hi _).mono ?_
      rintro e w' ⟨rfl, rfl⟩
      go_wp2_with fail
      go_ret
      exact ⟨rfl, rfl⟩
    · have n3 : lessB 9227875636482146304 b = false := lessB_false.2 (by omega)
      rw [n3] at e1
      clear s1 s2 s3 k0 k1 k2 c1 c2 c3 hb n0 n1 n2 n3 e2
      go_enter Try.func14, Try.ntmps14
      go_wp2_with fail
      refine (hn _).mono ?_
      rintro e w' ⟨rfl, rfl⟩
      go_wp2_with fail
      refine (hi _).mono ?_
      rintro e w' ⟨rfl, rfl⟩
      go_wp2_with fail
      go_ret
      exact ⟨rfl, rfl⟩
  · have n0 : nanB b = false := decide_eq_false (by omega)
    have n1 : decide (rung b = 9218868437227405312) = true := decide_eq_true (by omega)
    rw [n0] at hn; rw [n1] at hi; rw [c2]
    clear hs k0 k1 k2 e0 e1 e2 c1 c2 hb n0 n1
    go_enter Try.func14, Try.ntmps14
    go_wp2_with fail
    refine (hn _).mono ?_
    rintro e w' ⟨rfl, rfl⟩
    go_wp2_with fail
    refine (hi _).mono ?_
    rintro e w' ⟨rfl, rfl⟩
    go_wp2_with fail
    go_ret
    exact ⟨rfl, rfl⟩
  · have n0 : nanB b = true := decide_eq_true (by omega)
    rw [n0] at hn; rw [c2]
    clear hs k0 k1 k2 e0 e1 e2 c1 c2 hb n0 hi
    go_enter Try.func14, Try.ntmps14
    go_wp2_with fail
    refine (hn _).mono ?_
    rintro e w' ⟨rfl, rfl⟩
    go_wp2_with fail
    go_ret
    exact ⟨rfl, rfl⟩

end Go.Proofs.Ytbdhmjgnklkopaa
