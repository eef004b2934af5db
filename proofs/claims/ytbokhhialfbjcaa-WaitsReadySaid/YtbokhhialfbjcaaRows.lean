/-
  No cell of these rows narrows 'for every input' (looked for: loops, veiled, ifaces, maps, wideKeys, modest, calm, conditions, laid).
  DERIVED. THE GIVEN ROWS OF THIS SEAT. 3 by the template 'for every input the law returns true; each argument reads behind the call as it read before'; 0 by the template 'total and deterministic' (their statements: YtbokhhialfbjcaaTotals.lean).
  GIVEN WITH THE SEED: the statements are not yours to turn. If you find one false, say at which input.
  Laid BY PROGRAM, IN A SANDBOX (cutbox-rows.mjs): the forced cells as the released guide's own fill.sh prints them over the translation 7bbaed237ace6a1a… (all of the seat's roots in one cut). By AI agents, Wed Nov 11 2026. No macro, syntax, notation, axiom, sorry.
-/
import Derived.Test.YtbokhhialfbjcaaChecked
import GoSem.Claim
import GoSem.ClaimJoined
import GoSem.ClaimMapViews
import Derived.JoinedTies
import Derived.KernelRfl
namespace Go.Proofs.Ytbokhhialfbjcaa
/- THE CELL 'sum', in the pinned program and in every row, IS THE sha256 OF THE DUMP (.gsa) THAT YtbokhhialfbjcaaProg.lean LOADS. Nothing in Lean hashes anything: it is a label: what it is worth is what the hold of that sum in a sandbox is worth. -/
noncomputable def Try.pinned : Pinned := { name := "ytbokhhialfbjcaa", sum := "7bbaed237ace6a1aaba85979ead9780f95f732ca87511b337f2adadf672e3cc4", checked := Try.checked }
namespace Rows
def none {H : Type} : Left H := { results := [], args := [] }

/-- 'heronrylaw11.WaitsReady': WHATEVER THE INPUT: true; the input reads as it did. -/
def waitsReadySpec : ChangeSpec := { name := "waitsReady", fn := fun _ => fun
  | [d] => { results := [.lit (.bool true)], args := [d] }
  | _ => none }
def waitsReadyRow : OpenClaim := { program := "ytbokhhialfbjcaa", sum := "7bbaed237ace6a1aaba85979ead9780f95f732ca87511b337f2adadf672e3cc4", func := "heronry/heronrylaw11.WaitsReady", spec := "waitsReady", unfollowed := true, recurses := true, apart := false }
def WaitsReadySaid : Prop := waitsReadyRow.holds Try.pinned (OpenSpec.ofChange waitsReadySpec)

/-- ITS FALSE NEIGHBOUR: 'it returns false'. Refute it at one input. -/
def waitsReadyWrong : ChangeSpec := { name := "waitsReady", fn := fun _ => fun
  | [d] => { results := [.lit (.bool false)], args := [d] }
  | _ => none }
def WaitsReadyWrongFalsely : Prop := waitsReadyRow.holds Try.pinned (OpenSpec.ofChange waitsReadyWrong)

/-- 'heronrylaw11.WaitsRing': WHATEVER THE INPUT: true; the input reads as it did. -/
def waitsRingSpec : ChangeSpec := { name := "waitsRing", fn := fun _ => fun
  | [d1, d2] => { results := [.lit (.bool true)], args := [d1, d2] }
  | _ => none }
def waitsRingRow : OpenClaim := { program := "ytbokhhialfbjcaa", sum := "7bbaed237ace6a1aaba85979ead9780f95f732ca87511b337f2adadf672e3cc4", func := "heronry/heronrylaw11.WaitsRing", spec := "waitsRing", unfollowed := true, recurses := true, apart := false }
def WaitsRingSaid : Prop := waitsRingRow.holds Try.pinned (OpenSpec.ofChange waitsRingSpec)

/-- ITS FALSE NEIGHBOUR: 'it returns false'. Refute it at one input. -/
def waitsRingWrong : ChangeSpec := { name := "waitsRing", fn := fun _ => fun
  | [d1, d2] => { results := [.lit (.bool false)], args := [d1, d2] }
  | _ => none }
def WaitsRingWrongFalsely : Prop := waitsRingRow.holds Try.pinned (OpenSpec.ofChange waitsRingWrong)

/-- 'heronrylaw11.WaitsQueue': WHATEVER THE INPUT: true; the input reads as it did. -/
def waitsQueueSpec : ChangeSpec := { name := "waitsQueue", fn := fun _ => fun
  | [d] => { results := [.lit (.bool true)], args := [d] }
  | _ => none }
def waitsQueueRow : OpenClaim := { program := "ytbokhhialfbjcaa", sum := "7bbaed237ace6a1aaba85979ead9780f95f732ca87511b337f2adadf672e3cc4", func := "heronry/heronrylaw11.WaitsQueue", spec := "waitsQueue", unfollowed := true, recurses := true, apart := false }
def WaitsQueueSaid : Prop := waitsQueueRow.holds Try.pinned (OpenSpec.ofChange waitsQueueSpec)

/-- ITS FALSE NEIGHBOUR: 'it returns false'. Refute it at one input. -/
def waitsQueueWrong : ChangeSpec := { name := "waitsQueue", fn := fun _ => fun
  | [d] => { results := [.lit (.bool false)], args := [d] }
  | _ => none }
def WaitsQueueWrongFalsely : Prop := waitsQueueRow.holds Try.pinned (OpenSpec.ofChange waitsQueueWrong)

/- THE SECOND FORM. 'bulk': how many values and letters a reading holds, each counted each time it is reached (what is shared counts as often as it is met; a slice's spare places count too). A statement '..UptoSaid' is the law's where the arguments, and the package variables that the reading takes, are together of bulk at most 1048576: NARROWER than '..Said'. Prove '..Said' where nothing that the law and all that it calls make is longer than what came in: it says more and counts as full. Else prove '..UptoSaid'. A law counts once. -/
mutual
def uptoBulk {H : Type} : DataW H → Nat
  | .lit (.string bytes) => bytes.length + 1
  | .lit _ => 1
  | .nil => 1
  | .ptr d => uptoBulk d + 1
  | .slice elems spare => uptoBulkAll elems + uptoBulkAll spare + 1
  | .agg parts => uptoBulkAll parts + 1
  | .iface _ d => uptoBulk d + 1
  | .map entries => uptoBulkEntries entries + 1
  | .held _ => 1
def uptoBulkAll {H : Type} : List (DataW H) → Nat
  | [] => 0
  | d :: r => uptoBulk d + uptoBulkAll r
def uptoBulkEntries {H : Type} : List (Lit × DataW H) → Nat
  | [] => 0
  | x :: r => uptoBulkEntry x + uptoBulkEntries r
def uptoBulkEntry {H : Type} : Lit × DataW H → Nat
  | (.string bytes, d) => bytes.length + uptoBulk d + 1
  | (_, d) => uptoBulk d + 1
 end
def uptoSmall : (H : Type) → List (DataW H) → Bool := fun _ ds => decide (uptoBulkAll ds ≤ 1048576)
def OpenSpec.upto (s : _root_.Go.ChangeSpec) : _root_.Go.OpenSpec := { _root_.Go.OpenSpec.ofChange s with cond := some uptoSmall }

/-- 'heronrylaw11.WaitsReady', WHERE WHAT IT READS IS OF BULK AT MOST 1048576: true; the input reads as it did. -/
def waitsReadyUptoRow : OpenClaim := { program := "ytbokhhialfbjcaa", sum := "7bbaed237ace6a1aaba85979ead9780f95f732ca87511b337f2adadf672e3cc4", func := "heronry/heronrylaw11.WaitsReady", spec := "waitsReady", unfollowed := true, recurses := true, apart := false, narrowed := true }
def WaitsReadyUptoSaid : Prop := waitsReadyUptoRow.holds Try.pinned (OpenSpec.upto waitsReadySpec)

/-- 'heronrylaw11.WaitsRing', WHERE WHAT IT READS IS OF BULK AT MOST 1048576: true; the input reads as it did. -/
def waitsRingUptoRow : OpenClaim := { program := "ytbokhhialfbjcaa", sum := "7bbaed237ace6a1aaba85979ead9780f95f732ca87511b337f2adadf672e3cc4", func := "heronry/heronrylaw11.WaitsRing", spec := "waitsRing", unfollowed := true, recurses := true, apart := false, narrowed := true }
def WaitsRingUptoSaid : Prop := waitsRingUptoRow.holds Try.pinned (OpenSpec.upto waitsRingSpec)

/-- 'heronrylaw11.WaitsQueue', WHERE WHAT IT READS IS OF BULK AT MOST 1048576: true; the input reads as it did. -/
def waitsQueueUptoRow : OpenClaim := { program := "ytbokhhialfbjcaa", sum := "7bbaed237ace6a1aaba85979ead9780f95f732ca87511b337f2adadf672e3cc4", func := "heronry/heronrylaw11.WaitsQueue", spec := "waitsQueue", unfollowed := true, recurses := true, apart := false, narrowed := true }
def WaitsQueueUptoSaid : Prop := waitsQueueUptoRow.holds Try.pinned (OpenSpec.upto waitsQueueSpec)

end Rows
end Go.Proofs.Ytbokhhialfbjcaa
