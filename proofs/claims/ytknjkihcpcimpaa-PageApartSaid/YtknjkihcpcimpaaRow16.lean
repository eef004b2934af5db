/-
  How the arguments of a statement on pages are opened: bytes, three cells by value that came in.
-/
import Derived.Test.YtknjkihcpcimpaaRow
import Derived.Test.YtknjkihcpcimpaaOpenC
import Derived.Test.YtknjkihcpcimpaaLies
namespace Go.Proofs.Ytknjkihcpcimpaa
set_option maxRecDepth 100000
open Go.ChangeShapes Go.WideShapes Go.ChangeAt Go.RowKit

theorem Bt.lies {W : World} {a : Option Addr} {len cap : Nat} {l : List UInt8} (h : Bt W a len cap l) : Lies W a cap len l := ⟨h.rd, h.len_, h.cap_⟩

end Go.Proofs.Ytknjkihcpcimpaa
