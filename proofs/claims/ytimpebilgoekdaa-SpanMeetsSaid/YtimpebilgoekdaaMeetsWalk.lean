/-
  SpanMeets: what two spans have in common.
-/
import Derived.Test.YtimpebilgoekdaaAw
namespace Go.Proofs.Ytimpebilgoekdaa
set_option maxRecDepth 100000
set_option linter.unusedVariables false
set_option linter.unusedSimpArgs false
open Go.RowKit

theorem me_comm (a b c d : Int) : mtV c d a b = mtV a b c d := by
  unfold mtV spV spC meL meH meB
  rw [Int.max_comm c a, Int.min_comm d b]
theorem me_cases (a b c d v : Int) : (meB a b c d = true ∧ holdsB (meL a b c d) (meH a b c d) v = (holdsB a b v && holdsB c d v)) ∨
    (meB a b c d = false ∧ (meL a b c d = 0 ∧ meH a b c d = 0) ∧ (holdsB a b v && holdsB c d v) = false) := by
  unfold meB meL meH
  by_cases h : max a c ≤ min b d
  · refine .inl ⟨decide_eq_true h, ?_⟩
    rw [if_pos h, if_pos h]
    unfold holdsB
    rw [Bool.eq_iff_iff]
    simp only [decide_eq_true_eq, Bool.and_eq_true]
    omega
  · refine .inr ⟨decide_eq_false h, ⟨if_neg h, if_neg h⟩, ?_⟩
    unfold holdsB
    rw [Bool.eq_false_iff]
    simp only [ne_eq, decide_eq_true_eq, Bool.and_eq_true]
    omega

set_option maxHeartbeats 2000000 in
theorem meets_walk (a b c d v : Int) (w : World) :
    Calls Try.prog 8 #[.int .i64 a, .int .i64 b, .int .i64 c, .int .i64 d, .int .i64 v] w fun e w' => e = .returned (.bool true) ∧ Below w.heap.size w w' := by
  have hm1 := meet_any a b c d
  have hm2 := meet_any c d a b
  rw [me_comm] at hm2
  have hx := holds_any a b v
  have hy := holds_any c d v
  have hm := holds_any (meL a b c d) (meH a b c d) v
  have hca := me_cases a b c d v
  have HCA := Lib.hid hca
  clear hca
  unfold mtV at hm1 hm2
  generalize meL a b c d = p at *
  generalize meH a b c d = q at *
  generalize meB a b c d = k at *
  generalize holdsB p q v = rm at *
  generalize holdsB a b v = r1 at *
  generalize holdsB c d v = r2 at *
  have heq : ∀ w : World, (binOp .neq 29 (.agg #[.int .i64 p, .int .i64 q]) (.agg #[.int .i64 p, .int .i64 q])).run Try.prog w = .ok (.bool false) w := fun w => by rw [run_sp_neq]; simp
  have hgu := run_sp_guard
  have heq0 : ∀ w : World, (binOp .eql 29 (.agg #[.int .i64 0, .int .i64 0]) (.agg #[.int .i64 0, .int .i64 0])).run Try.prog w = .ok (.bool true) w := fun w => by rw [run_sp_eql]; simp
  go_enter Try.func8, Try.ntmps8
  go_wp2_with fail
  refine (awake_any _).mono ?_
  rintro e w1 ⟨rfl, hb⟩
  have HB1 := Lib.hid hb
  clear hb
  have HX2 := Lib.hid ((Bk.new w1 (spC a b) 29).al (.cells (spC c d) 29))
  have HY2 := Bk.new (w1.alloc (.cells (spC a b) 29)) (spC c d) 29
  rw [size_al] at HY2
  have HY2 := Lib.hid HY2
  have HB2 := Lib.hid (below_two HB1.out (below_two (below_new w1 (.cells (spC a b) 29)) (below_new _ (.cells (spC c d) 29))))
  clear HB1
  go_wp2_with fail
  refine (hm1 _).mono ?_
  rintro e w3 ⟨rfl, hb⟩
  have HX4 := Lib.hid ((HX2.out.below hb).al (.cells (spC p q) 29))
  have HY4 := Lib.hid ((HY2.out.below hb).al (.cells (spC p q) 29))
  have HM4 := Lib.hid (Bk.new w3 (spC p q) 29)
  have HB4 := Lib.hid (below_two (below_two HB2.out hb) (below_new w3 (.cells (spC p q) 29)))
  clear hb HX2 HY2 HB2 hm1
  have x0 := HX4.out.s0
  have x1 := HX4.out.s1
  have y0 := HY4.out.s0
  have y1 := HY4.out.s1
  go_wp2_with fail
  refine (hm2 _).mono ?_
  rintro e w5 ⟨rfl, hb⟩
  have HX6 := Lib.hid ((HX4.out.below hb).al (.cells (spC p q) 29))
  have HY6 := Lib.hid ((HY4.out.below hb).al (.cells (spC p q) 29))
  have HM6 := Lib.hid ((HM4.out.below hb).al (.cells (spC p q) 29))
  have HB6 := Lib.hid (below_two (below_two HB4.out hb) (below_new w5 (.cells (spC p q) 29)))
  clear hb HX4 HY4 HM4 HB4 hm2 x0 x1 y0 y1
  have x0 := HX6.out.s0
  have x1 := HX6.out.s1
  have m0 := HM6.out.s0
  have m1 := HM6.out.s1
  rcases HCA.out with ⟨rfl, hrm⟩ | ⟨rfl, ⟨rfl, rfl⟩, hrf⟩
  · have HR := Lib.hid hrm
    clear hrm HCA
    go_wp2_with fail
    refine (hx _).mono ?_
    rintro e w7 ⟨rfl, hb⟩
    have HY7 := Lib.hid (HY6.out.below hb)
    have HM7 := Lib.hid (HM6.out.below hb)
    have HB7 := Lib.hid (below_two HB6.out hb)
    clear hb HX6 HY6 HM6 HB6 x0 x1 m0 m1 hx
    have y0 := HY7.out.s0
    have y1 := HY7.out.s1
    have m0 := HM7.out.s0
    have m1 := HM7.out.s1
    cases r1
    · replace HR : Hid (rm = false) := HR.out
      go_wp2_with fail
      refine (hm _).mono ?_
      rintro e w8 ⟨rfl, hb⟩
      have HB8 := Lib.hid (below_two HB7.out hb)
      rw [HR.out]
      clear hb HR
      go_wp2_with fail
      go_ret
      exact ⟨rfl, HB8.out⟩
    · replace HR : Hid (rm = r2) := by show _ = _; rw [HR.out]; rfl
      go_wp2_with fail
      refine (hy _).mono ?_
      rintro e w8 ⟨rfl, hb⟩
      have HM8 := Lib.hid (HM7.out.below hb)
      have HB8 := Lib.hid (below_two HB7.out hb)
      clear hb HY7 HM7 HB7 y0 y1 m0 m1 hy
      have m0 := HM8.out.s0
      have m1 := HM8.out.s1
      go_wp2_with fail
      refine (hm _).mono ?_
      rintro e w9 ⟨rfl, hb⟩
      have HB9 := Lib.hid (below_two HB8.out hb)
      rw [HR.out]
      clear hb HR
      cases r2
      · go_wp2_with fail
        go_ret
        exact ⟨rfl, HB9.out⟩
      · go_wp2_with fail
        go_ret
        exact ⟨rfl, HB9.out⟩
  · have HR := Lib.hid hrf
    clear hrf HCA
    go_wp2_with fail
    refine (hx _).mono ?_
    rintro e w7 ⟨rfl, hb⟩
    have HY7 := Lib.hid (HY6.out.below hb)
    have HM7 := Lib.hid (HM6.out.below hb)
    have HB7 := Lib.hid (below_two HB6.out hb)
    clear hb HX6 HY6 HM6 HB6 x0 x1 m0 m1 hx
    have y0 := HY7.out.s0
    have y1 := HY7.out.s1
    have m0 := HM7.out.s0
    have m1 := HM7.out.s1
    cases r1
    · go_wp2_with fail
      go_ret
      exact ⟨rfl, HB7.out⟩
    · obtain rfl : r2 = false := HR.out
      go_wp2_with fail
      refine (hy _).mono ?_
      rintro e w8 ⟨rfl, hb⟩
      have HM8 := Lib.hid (HM7.out.below hb)
      have HB8 := Lib.hid (below_two HB7.out hb)
      clear hb HY7 HM7 HB7 y0 y1 m0 m1 hy
      have m0 := HM8.out.s0
      have m1 := HM8.out.s1
      go_wp2_with fail
      go_ret
      exact ⟨rfl, HB8.out⟩
end Go.Proofs.Ytimpebilgoekdaa
