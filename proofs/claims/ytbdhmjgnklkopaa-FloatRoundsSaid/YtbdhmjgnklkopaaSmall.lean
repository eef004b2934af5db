/-
  What the small functions on bits answer, the program's and the document's: sign, exponent, fraction, size, quiet; the sign turned, or taken off; keys.
-/
import Derived.Test.YtbdhmjgnklkopaaChecked
import Derived.Test.YtbdhmjgnklkopaaBit
import Derived.WalkKit
import Derived.WalkLawsBesides
import Derived.Lib.Hide
import Derived.Outline
import Derived.Deep.DeepFit
import Derived.Deep.DeepMust
namespace Go.Proofs.Ytbdhmjgnklkopaa
open Go.RowKit Fm

/-- a call that answers one thing, and turns nothing -/
def Says (f : FuncId) (args : Array Value) (v : Value) : Prop := ∀ w : World, Calls Try.prog f args w fun e w' => e = .returned v ∧ w' = w

section
variable (b : Nat) (hb : b < 18446744073709551616)

theorem sign_any : Says 41 #[.int .u64 (b : Int)] (.int .u64 ((sg b : Nat) : Int)) := by
  intro w
  go_enter Try.func41, Try.ntmps41
  go_wp2_with fail
  go_ret
  exact ⟨rfl, rfl⟩

include hb
theorem exponent_any : Says 39 #[.int .u64 (b : Int)] (.int .u64 ((ex b : Nat) : Int)) := by
  intro w
  have h := bits_and_exp b hb
  go_enter Try.func39, Try.ntmps39
  go_wp2_with fail
  go_ret
  exact ⟨rfl, rfl⟩

theorem fraction_any : Says 40 #[.int .u64 (b : Int)] (.int .u64 ((fr b : Nat) : Int)) := by
  intro w
  have h := bits_and_frac b hb
  go_enter Try.func40, Try.ntmps40
  go_wp2_with fail
  go_ret
  exact ⟨rfl, rfl⟩

theorem size_any : Says 38 #[.int .u64 (b : Int)] (.int .u64 ((rung b : Nat) : Int)) := by
  intro w
  have h := bits_and_size b hb
  go_enter Try.func38, Try.ntmps38
  go_wp2_with fail
  go_ret
  exact ⟨rfl, rfl⟩

theorem quiet_any : Says 47 #[.int .u64 (b : Int)] (.int .u64 ((loud b : Nat) : Int)) := by
  intro w
  have h := bits_or_loud b hb
  go_enter Try.func47, Try.ntmps47
  go_wp2_with fail
  go_ret
  exact ⟨rfl, rfl⟩

theorem neg_any : Says 20 #[.int .u64 (b : Int)] (.int .u64 ((neg b : Nat) : Int)) := by
  intro w
  have h := bits_xor_top b hb
  go_enter Try.func20, Try.ntmps20
  go_wp2_with fail
  go_ret
  exact ⟨rfl, rfl⟩

theorem refneg_any : Says 21 #[.int .u64 (b : Int)] (.int .u64 ((neg b : Nat) : Int)) := by
  intro w
  have h := bits_xor_top b hb
  go_enter Try.func21, Try.ntmps21
  go_wp2_with fail
  go_ret
  exact ⟨rfl, rfl⟩

theorem abs_any : Says 22 #[.int .u64 (b : Int)] (.int .u64 ((rung b : Nat) : Int)) := by
  intro w
  have h := bits_off_top b hb
  go_enter Try.func22, Try.ntmps22
  go_wp2_with fail
  go_ret
  exact ⟨rfl, rfl⟩

theorem refabs_any : Says 23 #[.int .u64 (b : Int)] (.int .u64 ((rung b : Nat) : Int)) := by
  intro w
  have h := size_any b hb w
  go_enter Try.func23, Try.ntmps23
  go_wp2_with fail
  refine h.mono ?_
  rintro e w' ⟨rfl, rfl⟩
  go_wp2_with fail
  go_ret
  exact ⟨rfl, rfl⟩

theorem key_any : Says 16 #[.int .u64 (b : Int)] (.int .u64 ((key b : Nat) : Int)) := by
  intro w
  by_cases hs : 9223372036854775808 ≤ b
  · have ht : (bits .and .u64 (b : Int) 9223372036854775808 != 0) = true := by rw [bits_top_test b hb, decide_eq_true hs]
    have hk : bits .xor .u64 IntKind.u64.max (b : Int) = ((key b : Nat) : Int) := by rw [bits_xor_all b hb, key, if_pos hs]
    have hsg : IntKind.u64.signed = false := rfl
    clear hs
    go_enter Try.func16, Try.ntmps16
    go_wp2_with fail
    go_ret
    exact ⟨rfl, rfl⟩
  · have ht : (bits .and .u64 (b : Int) 9223372036854775808 != 0) = false := by rw [bits_top_test b hb, decide_eq_false hs]
    have hk : bits .xor .u64 (b : Int) 9223372036854775808 = ((key b : Nat) : Int) := by rw [bits_xor_top b hb, key, neg, if_neg hs, if_neg hs]
    clear hs
    go_enter Try.func16, Try.ntmps16
    go_wp2_with fail
    go_ret
    exact ⟨rfl, rfl⟩

theorem fromkey_any : Says 18 #[.int .u64 (b : Int)] (.int .u64 ((fromKey b : Nat) : Int)) := by
  intro w
  by_cases hs : 9223372036854775808 ≤ b
  · have ht : (bits .and .u64 (b : Int) 9223372036854775808 != 0) = true := by rw [bits_top_test b hb, decide_eq_true hs]
    have hk : bits .xor .u64 (b : Int) 9223372036854775808 = ((fromKey b : Nat) : Int) := by rw [bits_xor_top b hb, fromKey, neg, if_pos hs, if_pos hs]
    clear hs
    go_enter Try.func18, Try.ntmps18
    go_wp2_with fail
    go_ret
    exact ⟨rfl, rfl⟩
  · have ht : (bits .and .u64 (b : Int) 9223372036854775808 != 0) = false := by rw [bits_top_test b hb, decide_eq_false hs]
    have hk : bits .xor .u64 IntKind.u64.max (b : Int) = ((fromKey b : Nat) : Int) := by rw [bits_xor_all b hb, fromKey, if_neg hs]
    have hsg : IntKind.u64.signed = false := rfl
    clear hs
    go_enter Try.func18, Try.ntmps18
    go_wp2_with fail
    go_ret
    exact ⟨rfl, rfl⟩
end

end Go.Proofs.Ytbdhmjgnklkopaa
