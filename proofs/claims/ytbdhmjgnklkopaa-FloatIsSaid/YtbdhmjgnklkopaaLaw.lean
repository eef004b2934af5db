/-
  The statements that hold the program's answers against the document's.
-/
import Derived.Test.YtbdhmjgnklkopaaMin
import Derived.Test.YtbdhmjgnklkopaaWake
import Derived.Test.YtbdhmjgnklkopaaRefInt
namespace Go.Proofs.Ytbdhmjgnklkopaa
open Go.RowKit Fm

set_option maxHeartbeats 1000000 in
theorem is_walk (b : Nat) (n : Int) (hb : b < 18446744073709551616) (h1 : -9223372036854775808 ≤ n) (h2 : n ≤ 9223372036854775807) : Says 3 #[.int .u64 (b : Int), .int .i64 n] (.bool true) := by
  intro w
  have c1 := int_any b hb
  have c2 := refint_any b hb
  have c3 := class_any b hb
  have c4 := refclass_any b hb
  have c5 := key_any b hb
  have c6 := refkey_any b hb
  have c7 := fromkey_any b hb
  have c8 := reffromkey_any b hb
  have c9 := neg_any b hb
  have d1 := refneg_any b hb
  have d2 := abs_any b hb
  have d3 := refabs_any b hb
  have d4 := next_any b hb
  have d5 := refnext_any b hb
  have d6 := of_any n h1 h2
  have d7 := refof_any n h1 h2
  clear h1 h2 hb
  generalize intV b = v1 at *
  generalize okI b = v2 at *
  go_enter Try.func3, Try.ntmps3
  go_wp2_with (first
    | (go_at_call 11; refine (awake_any _).mono ?_; rintro e w' ⟨rfl, rfl⟩)
    | (go_at_call 12; refine (c1 _).mono ?_; rintro e w' ⟨rfl, rfl⟩)
    | (go_at_call 13; refine (c2 _).mono ?_; rintro e w' ⟨rfl, rfl⟩)
    | (go_at_call 14; refine (c3 _).mono ?_; rintro e w' ⟨rfl, rfl⟩)
    | (go_at_call 15; refine (c4 _).mono ?_; rintro e w' ⟨rfl, rfl⟩)
    | (go_at_call 16; refine (c5 _).mono ?_; rintro e w' ⟨rfl, rfl⟩)
    | (go_at_call 17; refine (c6 _).mono ?_; rintro e w' ⟨rfl, rfl⟩)
    | (go_at_call 18; refine (c7 _).mono ?_; rintro e w' ⟨rfl, rfl⟩)
    | (go_at_call 19; refine (c8 _).mono ?_; rintro e w' ⟨rfl, rfl⟩)
    | (go_at_call 20; refine (c9 _).mono ?_; rintro e w' ⟨rfl, rfl⟩)
    | (go_at_call 21; refine (d1 _).mono ?_; rintro e w' ⟨rfl, rfl⟩)
    | (go_at_call 22; refine (d2 _).mono ?_; rintro e w' ⟨rfl, rfl⟩)
    | (go_at_call 23; refine (d3 _).mono ?_; rintro e w' ⟨rfl, rfl⟩)
    | (go_at_call 24; refine (d4 _).mono ?_; rintro e w' ⟨rfl, rfl⟩)
    | (go_at_call 25; refine (d5 _).mono ?_; rintro e w' ⟨rfl, rfl⟩)
    | (go_at_call 26; refine (d6 _).mono ?_; rintro e w' ⟨rfl, rfl⟩)
    | (go_at_call 27; refine (d7 _).mono ?_; rintro e w' ⟨rfl, rfl⟩))
  go_ret
  exact ⟨rfl, rfl⟩

set_option maxHeartbeats 1000000 in
theorem two_walk (a b : Nat) (ha : a < 18446744073709551616) (hb : b < 18446744073709551616) : Says 4 #[.int .u64 (a : Int), .int .u64 (b : Int)] (.bool true) := by
  intro w
  have c1 := less_any a b ha hb
  have c2 := refless_any a b ha hb
  have c3 := equal_any a b ha hb
  have c4 := refequal_any a b ha hb
  have c5 := min_any a b ha hb
  have c6 := refmin_any a b ha hb
  have c7 := max_any a b ha hb
  have c8 := refmax_any a b ha hb
  clear ha hb
  go_enter Try.func4, Try.ntmps4
  go_wp2_with (first
    | (go_at_call 11; refine (awake_any _).mono ?_; rintro e w' ⟨rfl, rfl⟩)
    | (go_at_call 28; refine (c1 _).mono ?_; rintro e w' ⟨rfl, rfl⟩)
    | (go_at_call 29; refine (c2 _).mono ?_; rintro e w' ⟨rfl, rfl⟩)
    | (go_at_call 30; refine (c3 _).mono ?_; rintro e w' ⟨rfl, rfl⟩)
    | (go_at_call 31; refine (c4 _).mono ?_; rintro e w' ⟨rfl, rfl⟩)
    | (go_at_call 32; refine (c5 _).mono ?_; rintro e w' ⟨rfl, rfl⟩)
    | (go_at_call 33; refine (c6 _).mono ?_; rintro e w' ⟨rfl, rfl⟩)
    | (go_at_call 34; refine (c7 _).mono ?_; rintro e w' ⟨rfl, rfl⟩)
    | (go_at_call 35; refine (c8 _).mono ?_; rintro e w' ⟨rfl, rfl⟩))
  go_ret
  exact ⟨rfl, rfl⟩

end Go.Proofs.Ytbdhmjgnklkopaa
