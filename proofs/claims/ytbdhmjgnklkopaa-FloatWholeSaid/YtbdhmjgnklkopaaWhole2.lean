/-
  Whole numbers of 53 digits at most are told exactly: the walk of the statement.
-/
import Derived.Test.YtbdhmjgnklkopaaMin
import Derived.Test.YtbdhmjgnklkopaaWake
namespace Go.Proofs.Ytbdhmjgnklkopaa
open Go.RowKit Fm

set_option maxHeartbeats 1000000 in
theorem whole_walk (a b : Int) (_ : -9223372036854775808 ≤ a) (_ : a ≤ 9223372036854775807) (_ : -9223372036854775808 ≤ b) (_ : b ≤ 9223372036854775807) : Says 7 #[.int .i64 a, .int .i64 b] (.bool true) := by
  intro w
  obtain ⟨x, hx, hx1, hx2⟩ : ∃ x : Int, bits .and .i64 a 9007199254740991 = x ∧ 0 ≤ x ∧ x ≤ 9007199254740991 := ⟨_, i64_and53 a, by omega, by omega⟩
  obtain ⟨z, hz, hz1, hz2⟩ : ∃ z : Int, bits .and .i64 b 9007199254740991 = z ∧ 0 ≤ z ∧ z ≤ 9007199254740991 := ⟨_, i64_and53 b, by omega, by omega⟩
  obtain ⟨y, hy, hy1, hy2⟩ : ∃ y : Int, z - 4503599627370496 = y ∧ -4503599627370496 ≤ y ∧ y ≤ 4503599627370495 := ⟨_, rfl, by omega, by omega⟩
  have o1 := of_any x (by omega) (by omega)
  have o2 := of_any y (by omega) (by omega)
  have b1 := ofI_lt (n := x) (by omega) (by omega)
  have b2 := ofI_lt (n := y) (by omega) (by omega)
  have b3 := neg_lt b2
  have i1 := int_any _ b1
  have i2 := int_any _ b2
  have i3 := int_any _ b3
  have m1 := neg_any _ b2
  have l1 := less_any _ _ b1 b2
  have q1 := equal_any _ _ b1 b2
  obtain ⟨t1, t2, _, _⟩ := few_back (n := x) (by omega) (by omega)
  obtain ⟨t3, t4, t5, t6⟩ := few_back (n := y) (by omega) (by omega)
  obtain ⟨t7, t8⟩ := few_order (x := x) (y := y) (by omega) (by omega) (by omega) (by omega)
  rw [t1, t2] at i1; rw [t3, t4] at i2; rw [t5, t6] at i3; rw [t7] at l1; rw [t8] at q1
  clear t1 t2 t3 t4 t5 t6 t7 t8 b1 b2 b3
  generalize neg (ofI y) = u3 at *
  generalize ofI x = u1 at *
  generalize ofI y = u2 at *
  go_enter Try.func7, Try.ntmps7
  go_wp2_with fail
  refine (awake_any _).mono ?_
  rintro e w' ⟨rfl, rfl⟩
  go_wp2_with fail
  refine (o1 _).mono ?_
  rintro e w' ⟨rfl, rfl⟩
  go_wp2_with fail
  refine (i1 _).mono ?_
  rintro e w' ⟨rfl, rfl⟩
  go_wp2_with fail
  refine (o2 _).mono ?_
  rintro e w' ⟨rfl, rfl⟩
  go_wp2_with fail
  refine (i2 _).mono ?_
  rintro e w' ⟨rfl, rfl⟩
  go_wp2_with fail
  refine (o2 _).mono ?_
  rintro e w' ⟨rfl, rfl⟩
  go_wp2_with fail
  refine (m1 _).mono ?_
  rintro e w' ⟨rfl, rfl⟩
  go_wp2_with fail
  refine (i3 _).mono ?_
  rintro e w' ⟨rfl, rfl⟩
  go_wp2_with fail
  refine (o1 _).mono ?_
  rintro e w' ⟨rfl, rfl⟩
  go_wp2_with fail
  refine (o2 _).mono ?_
  rintro e w' ⟨rfl, rfl⟩
  go_wp2_with fail
  refine (l1 _).mono ?_
  rintro e w' ⟨rfl, rfl⟩
  go_wp2_with fail
  refine (o1 _).mono ?_
  rintro e w' ⟨rfl, rfl⟩
  go_wp2_with fail
  refine (o2 _).mono ?_
  rintro e w' ⟨rfl, rfl⟩
  go_wp2_with fail
  refine (q1 _).mono ?_
  rintro e w' ⟨rfl, rfl⟩
  go_wp2_with fail
  go_ret
  exact ⟨rfl, rfl⟩

end Go.Proofs.Ytbdhmjgnklkopaa
