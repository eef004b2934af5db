/-
  Whole numbers as numbers with a point, and back, by the program's own calls.
-/
import Derived.Test.YtbdhmjgnklkopaaFlt
import Derived.Test.YtbdhmjgnklkopaaWhole
namespace Go.Proofs.Ytbdhmjgnklkopaa
open Go.RowKit Fm

theorem of_any (n : Int) (h1 : -9223372036854775808 ≤ n) (h2 : n ≤ 9223372036854775807) : Says 26 #[.int .i64 n] (.int .u64 ((ofI n : Nat) : Int)) := by
  intro w
  have e1 := nearest_eq n h1 (by omega)
  have e2 := bits_run (ofI n)
  clear h1 h2
  go_enter Try.func26, Try.ntmps26
  go_wp2_with fail
  go_ret
  exact ⟨rfl, rfl⟩

theorem int_any (b : Nat) (hb : b < 18446744073709551616) : Says 12 #[.int .u64 (b : Int)] (.tuple #[.int .i64 (intV b), .bool (okI b)]) := by
  intro w
  have f1 := frombits_run b
  have e1 : (FloatKind.f64.format.order 14114281232179134464 b == some Ordering.lt || FloatKind.f64.format.order 14114281232179134464 b == some Ordering.eq) = decide (-4890909195324358656 ≤ sk b ∧ rung b ≤ 9218868437227405312) := by
    rw [ord_lt (by decide) hb, ord_eq (by decide) hb]
    have k1 : rung 14114281232179134464 = 4890909195324358656 := by decide
    have k2 : sk 14114281232179134464 = -4890909195324358656 := by decide
    unfold lessB eqB nanB
    rw [k1, k2]
    have k3 : decide (9218868437227405312 < 4890909195324358656) = false := by decide
    rw [k3]
    by_cases h : 9218868437227405312 < rung b
    · rw [decide_eq_true h, decide_eq_false (show ¬ (-4890909195324358656 ≤ sk b ∧ rung b ≤ 9218868437227405312) from by omega)]; rfl
    · rw [decide_eq_false h]
      by_cases h' : -4890909195324358656 ≤ sk b
      · rw [decide_eq_true (show -4890909195324358656 ≤ sk b ∧ rung b ≤ 9218868437227405312 from by omega)]
        by_cases h'' : -4890909195324358656 = sk b
        · rw [decide_eq_true h'']; simp
        · rw [decide_eq_true (show -4890909195324358656 < sk b from by omega)]; rfl
      · rw [decide_eq_false (show ¬ (-4890909195324358656 ≤ sk b ∧ rung b ≤ 9218868437227405312) from by omega), decide_eq_false (show ¬ -4890909195324358656 < sk b from by omega), decide_eq_false (show ¬ -4890909195324358656 = sk b from by omega)]; rfl
  have e2 : (FloatKind.f64.format.order b 4890909195324358656 == some Ordering.lt) = lessB b 4890909195324358656 := ord_lt hb (by decide)
  have k3 : rung 4890909195324358656 = 4890909195324358656 := by decide
  have k4 : sk 4890909195324358656 = 4890909195324358656 := by decide
  have hs := sk_rung hb
  by_cases r1 : -4890909195324358656 ≤ sk b ∧ rung b ≤ 9218868437227405312
  · rw [decide_eq_true r1] at e1
    by_cases r2 : sk b < 4890909195324358656
    · rw [lessB_true.2 (by omega)] at e2
      have t1 := toInt_val hb r1.1 r2
      have p := wholeOf_bounds hb r1.1 r2
      have t2 := fun w => run_convert_float_int (P := Try.prog) w 35 3 .f64 .i64 b (wholeOf b) (by rw [Try.underlying35]; rfl) Try.underlying3 t1
      have t3 := nearest_eq (wholeOf b) p.1 (by omega)
      have t4 : (FloatKind.f64.format.order (ofI (wholeOf b)) b != some Ordering.eq) = !okI b := by
        rw [ord_ne (ofI_lt p.1 (by omega)) hb, back_eq hb r1.1 r2]
      have hv : intV b = if okI b then wholeOf b else 0 := rfl
      rw [hv]
      clear t1 p r1 r2 hs hv k3 k4 hb
      generalize okI b = x at *
      cases x
      · go_enter Try.func12, Try.ntmps12
        go_wp2_with fail
        go_ret2
        exact ⟨rfl, rfl⟩
      · go_enter Try.func12, Try.ntmps12
        go_wp2_with fail
        go_ret2
        exact ⟨rfl, rfl⟩
    · rw [lessB_false.2 (by omega)] at e2
      have ho : okI b = false := decide_eq_false (by omega)
      have hv : intV b = 0 := by unfold intV; rw [ho]; rfl
      rw [ho, hv]
      clear hs hv k3 k4 hb ho r1 r2
      go_enter Try.func12, Try.ntmps12
      go_wp2_with fail
      go_ret2
      exact ⟨rfl, rfl⟩
  · rw [decide_eq_false r1] at e1
    have ho : okI b = false := decide_eq_false (by omega)
    have hv : intV b = 0 := by unfold intV; rw [ho]; rfl
    rw [ho, hv]
    clear hs hv k3 k4 hb ho r1 e2
    go_enter Try.func12, Try.ntmps12
    go_wp2_with fail
    go_ret2
    exact ⟨rfl, rfl⟩

end Go.Proofs.Ytbdhmjgnklkopaa
