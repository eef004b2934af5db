/-
  The document's example for numbers with a point, as the statements' own first look has it: it is always so.
-/
import Derived.Test.YtbdhmjgnklkopaaOf
import Derived.Below
namespace Go.Proofs.Ytbdhmjgnklkopaa
open Go.RowKit Fm

theorem awake_any : Says 11 #[] (.bool true) := by
  intro w
  have h1 : Says 26 #[.int .i64 1] (.int .u64 4607182418800017408) := by
    have h := of_any 1 (by decide) (by decide)
    rw [show ofI 1 = 4607182418800017408 from by decide] at h
    exact h
  have h2 : Says 28 #[.int .u64 9223372036854775808, .int .u64 0] (.bool false) := by
    have h := less_any 9223372036854775808 0 (by decide) (by decide)
    rw [show lessB 9223372036854775808 0 = false from by decide] at h
    exact h
  have h3 : Says 30 #[.int .u64 9223372036854775808, .int .u64 0] (.bool true) := by
    have h := equal_any 9223372036854775808 0 (by decide) (by decide)
    rw [show eqB 9223372036854775808 0 = true from by decide] at h
    exact h
  have h4 : Says 14 #[.int .u64 1] (.int .i64 1) := by
    have h := class_any 1 (by decide)
    rw [show cls 1 = 1 from by decide] at h
    exact h
  have h5 : Says 16 #[.int .u64 0] (.int .u64 9223372036854775808) := by
    have h := key_any 0 (by decide)
    rw [show key 0 = 9223372036854775808 from by decide] at h
    exact h
  go_enter Try.func11, Try.ntmps11
  go_wp2_with (first
    | (go_at_call 26; refine (h1 _).mono ?_; rintro e w' ⟨rfl, rfl⟩)
    | (go_at_call 28; refine (h2 _).mono ?_; rintro e w' ⟨rfl, rfl⟩)
    | (go_at_call 30; refine (h3 _).mono ?_; rintro e w' ⟨rfl, rfl⟩)
    | (go_at_call 14; refine (h4 _).mono ?_; rintro e w' ⟨rfl, rfl⟩)
    | (go_at_call 16; refine (h5 _).mono ?_; rintro e w' ⟨rfl, rfl⟩))
  go_ret
  exact ⟨rfl, rfl⟩

end Go.Proofs.Ytbdhmjgnklkopaa
