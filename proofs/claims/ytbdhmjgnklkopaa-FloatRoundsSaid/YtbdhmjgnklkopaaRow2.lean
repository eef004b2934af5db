/-
  How the arguments of a statement on numbers are opened, and how its walk stands to it.
-/
import Derived.Test.YtbdhmjgnklkopaaRows
import Derived.Test.YtbdhmjgnklkopaaChecked
import Derived.WalkKit
import Derived.ProofKit
import Derived.SizedLaws
import Derived.OpenShut
import Derived.ShutString
import Derived.ChangeOld
import Derived.Below
namespace Go.Proofs.Ytbdhmjgnklkopaa
open Go.ChangeShapes Go.WideShapes Go.ChangeAt Go.RowKit

theorem rowOwn : ownKnob Try.prog.godebug = none := by kernel_rfl
theorem rowLaidOut : laidOutB Try.prog = true := by kernel_rfl

/-- numbers as they came in -/
theorem nat_of_u64 {a : Int} (w : (Lit.int .u64 a).wf = true) : ∃ b : Nat, a = (b : Int) ∧ b < 18446744073709551616 := by
  have h : 0 ≤ a ∧ a ≤ 18446744073709551615 := bounds_u64 w
  exact ⟨a.toNat, by omega, by omega⟩

end Go.Proofs.Ytbdhmjgnklkopaa
