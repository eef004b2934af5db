/-
  All that the program's calls are to answer.
-/
import Derived.Test.YtjpnihmijnpjcaaQk
namespace Go.Proofs.Ytjpnihmijnpjcaa
open Go.RowKit Wm Nn

theorem noteOk : NoteOk := ⟨psane_any, penc_any, psize_any, pdecode_any, pmerge_any⟩
end Go.Proofs.Ytjpnihmijnpjcaa
