/-
  Free as it was asked for.
-/
import Derived.Test.YtmhnjmfcenbogaaPu
namespace Go.Proofs.Ytmhnjmfcenbogaa
set_option maxRecDepth 100000
set_option linter.unusedVariables false
open Go.RowKit

theorem free_any : FreeOk := by
  intro A B n a m b t E q r l w ht hs hl hE hq hq2 hz
  refine (vfree_any A B n a m b t E q r (l.map Int.ofNat) (by rw [List.length_map, hq]) hq2 w ht hs hl (hE.ints hz)).mono ?_
  rintro e w' ⟨lo, hi, A', B', m', b', ss, vs, rfl, htow, hlo, hlh, hb⟩
  exact ⟨hb, A', n, n, B', m', b', fun g hg => htow.away (by rcases hg with hg | hg <;> omega), rfl, htow.vt⟩
end Go.Proofs.Ytmhnjmfcenbogaa
