/-
  How the arguments of a statement on locks are opened: things that are done, as they came in.
-/
import Derived.Test.YtbokhhialfbjcaaGreatRows
import Derived.Test.YtbokhhialfbjcaaGreatStateA
import Derived.WalkKit
import Derived.ProofKit
import Derived.SizedLaws
import Derived.OpenShut
import Derived.ShutString
import Derived.ChangeOld
import Derived.Below
import Derived.Deep.Slices
import Derived.Deep.SlicePairs
import Derived.Carry
namespace Go.Proofs.YtbokhhialfbjcaaGreat
set_option maxRecDepth 100000
open Go.ChangeShapes Go.WideShapes Go.ChangeAt Go.RowKit

theorem rowOwn : ownKnob Tryz.prog.godebug = none := by kernel_rfl
theorem rowLaidOut : laidOutB Tryz.prog = true := by kernel_rfl
theorem cells_int : Tryz.prog.cellsOf 3 = 1 := by kernel_rfl
theorem int_of_trod {H : Type} {enc : TypeId × Value → H} {W : World} {spare : Nat → Bool} {held : Bool} {n : Nat} {v : Value} {y : DataW H × List MemPlace} (h : DataW.trod enc Tryz.prog W 0 spare held n 3 [v] = some y) : v = .int .i64 (intOf v) := by
  obtain ⟨x, e0, _, _⟩ := DataW.trod_int Tryz.underlying3 h
  simp at e0
  subst e0
  rfl

end Go.Proofs.YtbokhhialfbjcaaGreat
