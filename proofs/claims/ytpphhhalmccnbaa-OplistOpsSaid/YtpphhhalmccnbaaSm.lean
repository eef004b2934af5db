/-
  The small calls: Holds, down, up, Meet, a span taken over from one kind into the other; the document's of, plus, told, less, Holds, Meet.
-/
import Derived.Test.YtpphhhalmccnbaaNa
namespace Go.Proofs.Ytpphhhalmccnbaa
set_option maxRecDepth 100000
set_option linter.unusedVariables false
set_option linter.unusedSimpArgs false
open Go.RowKit

/-- a span -/
abbrev spC (a b : Int) : Array Value := #[.int .i64 a, .int .i64 b]
abbrev spV (a b : Int) : Value := .agg (spC a b)
section
variable {W : World} {g : Nat} {a b : Int} {t : TypeId}
theorem Bk.s0 (h : Bk W g (spC a b) t) : W.cell? ⟨g, 0, none⟩ = some (.int .i64 a) := h.c 0 _ rfl
theorem Bk.s1 (h : Bk W g (spC a b) t) : W.cell? ⟨g, 1, none⟩ = some (.int .i64 b) := h.c 1 _ rfl
end
def holdsB (a b v : Int) : Bool := decide (a ≤ v) && decide (v ≤ b)

end Go.Proofs.Ytpphhhalmccnbaa
