/-
  No cell of these rows narrows 'for every input' (looked for: loops, veiled, ifaces, maps, wideKeys, modest, calm, conditions, laid).
  DERIVED. THE GIVEN ROWS OF THIS SEAT. 5 by the template 'for every input the law returns true; each argument reads behind the call as it read before'; 0 by the template 'total and deterministic' (their statements: YtmhnjmfcenbogaaTotals.lean).
  GIVEN WITH THE SEED: the statements are not yours to turn. If you find one false, say at which input.
  Laid BY PROGRAM, IN A SANDBOX (cutbox-rows.mjs): the forced cells as the released guide's own fill.sh prints them over the translation d0618c2dbc39ba7b… (all of the seat's roots in one cut). By AI agents, Wed Nov 11 2026. No macro, syntax, notation, axiom, sorry.
-/
import Derived.Test.YtmhnjmfcenbogaaChecked
import GoSem.Claim
import GoSem.ClaimJoined
import GoSem.ClaimMapViews
import Derived.JoinedTies
import Derived.KernelRfl
namespace Go.Proofs.Ytmhnjmfcenbogaa
/- THE CELL 'sum', in the pinned program and in every row, IS THE sha256 OF THE DUMP (.gsa) THAT YtmhnjmfcenbogaaProg.lean LOADS. Nothing in Lean hashes anything: it is a label: what it is worth is what the hold of that sum in a sandbox is worth. -/
noncomputable def Try.pinned : Pinned := { name := "ytmhnjmfcenbogaa", sum := "d0618c2dbc39ba7b21e9e5f194538a990ae3c30c781f47bf42c6eb9e08b340be", checked := Try.checked }
namespace Rows
def none {H : Type} : Left H := { results := [], args := [] }

/-- 'heronrylaw14.VersionOwn': WHATEVER THE INPUT: true; the input reads as it did. -/
def versionOwnSpec : ChangeSpec := { name := "versionOwn", fn := fun _ => fun
  | [d1, d2, d3, d4] => { results := [.lit (.bool true)], args := [d1, d2, d3, d4] }
  | _ => none }
def versionOwnRow : OpenClaim := { program := "ytmhnjmfcenbogaa", sum := "d0618c2dbc39ba7b21e9e5f194538a990ae3c30c781f47bf42c6eb9e08b340be", func := "heronry/heronrylaw14.VersionOwn", spec := "versionOwn", unfollowed := true, recurses := true, apart := false }
def VersionOwnSaid : Prop := versionOwnRow.holds Try.pinned (OpenSpec.ofChange versionOwnSpec)

/-- ITS FALSE NEIGHBOUR: 'it returns false'. Refute it at one input. -/
def versionOwnWrong : ChangeSpec := { name := "versionOwn", fn := fun _ => fun
  | [d1, d2, d3, d4] => { results := [.lit (.bool false)], args := [d1, d2, d3, d4] }
  | _ => none }
def VersionOwnWrongFalsely : Prop := versionOwnRow.holds Try.pinned (OpenSpec.ofChange versionOwnWrong)

/-- 'heronrylaw14.VersionUndo': WHATEVER THE INPUT: true; the input reads as it did. -/
def versionUndoSpec : ChangeSpec := { name := "versionUndo", fn := fun _ => fun
  | [d1, d2, d3, d4] => { results := [.lit (.bool true)], args := [d1, d2, d3, d4] }
  | _ => none }
def versionUndoRow : OpenClaim := { program := "ytmhnjmfcenbogaa", sum := "d0618c2dbc39ba7b21e9e5f194538a990ae3c30c781f47bf42c6eb9e08b340be", func := "heronry/heronrylaw14.VersionUndo", spec := "versionUndo", unfollowed := true, recurses := true, apart := false }
def VersionUndoSaid : Prop := versionUndoRow.holds Try.pinned (OpenSpec.ofChange versionUndoSpec)

/-- ITS FALSE NEIGHBOUR: 'it returns false'. Refute it at one input. -/
def versionUndoWrong : ChangeSpec := { name := "versionUndo", fn := fun _ => fun
  | [d1, d2, d3, d4] => { results := [.lit (.bool false)], args := [d1, d2, d3, d4] }
  | _ => none }
def VersionUndoWrongFalsely : Prop := versionUndoRow.holds Try.pinned (OpenSpec.ofChange versionUndoWrong)

/-- 'heronrylaw14.VersionTop': WHATEVER THE INPUT: true; the input reads as it did. -/
def versionTopSpec : ChangeSpec := { name := "versionTop", fn := fun _ => fun
  | [d1, d2] => { results := [.lit (.bool true)], args := [d1, d2] }
  | _ => none }
def versionTopRow : OpenClaim := { program := "ytmhnjmfcenbogaa", sum := "d0618c2dbc39ba7b21e9e5f194538a990ae3c30c781f47bf42c6eb9e08b340be", func := "heronry/heronrylaw14.VersionTop", spec := "versionTop", unfollowed := true, recurses := true, apart := false }
def VersionTopSaid : Prop := versionTopRow.holds Try.pinned (OpenSpec.ofChange versionTopSpec)

/-- ITS FALSE NEIGHBOUR: 'it returns false'. Refute it at one input. -/
def versionTopWrong : ChangeSpec := { name := "versionTop", fn := fun _ => fun
  | [d1, d2] => { results := [.lit (.bool false)], args := [d1, d2] }
  | _ => none }
def VersionTopWrongFalsely : Prop := versionTopRow.holds Try.pinned (OpenSpec.ofChange versionTopWrong)

/-- 'heronrylaw14.VersionDeep': WHATEVER THE INPUT: true; the input reads as it did. -/
def versionDeepSpec : ChangeSpec := { name := "versionDeep", fn := fun _ => fun
  | [d1, d2] => { results := [.lit (.bool true)], args := [d1, d2] }
  | _ => none }
def versionDeepRow : OpenClaim := { program := "ytmhnjmfcenbogaa", sum := "d0618c2dbc39ba7b21e9e5f194538a990ae3c30c781f47bf42c6eb9e08b340be", func := "heronry/heronrylaw14.VersionDeep", spec := "versionDeep", unfollowed := true, recurses := true, apart := false }
def VersionDeepSaid : Prop := versionDeepRow.holds Try.pinned (OpenSpec.ofChange versionDeepSpec)

/-- ITS FALSE NEIGHBOUR: 'it returns false'. Refute it at one input. -/
def versionDeepWrong : ChangeSpec := { name := "versionDeep", fn := fun _ => fun
  | [d1, d2] => { results := [.lit (.bool false)], args := [d1, d2] }
  | _ => none }
def VersionDeepWrongFalsely : Prop := versionDeepRow.holds Try.pinned (OpenSpec.ofChange versionDeepWrong)

/-- 'heronrylaw14.VersionLast': WHATEVER THE INPUT: true; the input reads as it did. -/
def versionLastSpec : ChangeSpec := { name := "versionLast", fn := fun _ => fun
  | [d1, d2] => { results := [.lit (.bool true)], args := [d1, d2] }
  | _ => none }
def versionLastRow : OpenClaim := { program := "ytmhnjmfcenbogaa", sum := "d0618c2dbc39ba7b21e9e5f194538a990ae3c30c781f47bf42c6eb9e08b340be", func := "heronry/heronrylaw14.VersionLast", spec := "versionLast", unfollowed := true, recurses := true, apart := false }
def VersionLastSaid : Prop := versionLastRow.holds Try.pinned (OpenSpec.ofChange versionLastSpec)

/-- ITS FALSE NEIGHBOUR: 'it returns false'. Refute it at one input. -/
def versionLastWrong : ChangeSpec := { name := "versionLast", fn := fun _ => fun
  | [d1, d2] => { results := [.lit (.bool false)], args := [d1, d2] }
  | _ => none }
def VersionLastWrongFalsely : Prop := versionLastRow.holds Try.pinned (OpenSpec.ofChange versionLastWrong)

/- THE SECOND FORM. 'bulk': how many values and letters a reading holds, each counted each time it is reached (what is shared counts as often as it is met; a slice's spare places count too). A statement '..UptoSaid' is the law's where the arguments, and the package variables that the reading takes, are together of bulk at most 1048576: NARROWER than '..Said'. Prove '..Said' where nothing that the law and all that it calls make is longer than what came in: it says more and counts as full. Else prove '..UptoSaid'. A law counts once. -/
mutual
def uptoBulk {H : Type} : DataW H → Nat
  | .lit (.string bytes) => bytes.length + 1
  | .lit _ => 1
  | .nil => 1
  | .ptr d => uptoBulk d + 1
  | .slice elems spare => uptoBulkAll elems + uptoBulkAll spare + 1
  | .agg parts => uptoBulkAll parts + 1
  | .iface _ d => uptoBulk d + 1
  | .map entries => uptoBulkEntries entries + 1
  | .held _ => 1
def uptoBulkAll {H : Type} : List (DataW H) → Nat
  | [] => 0
  | d :: r => uptoBulk d + uptoBulkAll r
def uptoBulkEntries {H : Type} : List (Lit × DataW H) → Nat
  | [] => 0
  | x :: r => uptoBulkEntry x + uptoBulkEntries r
def uptoBulkEntry {H : Type} : Lit × DataW H → Nat
  | (.string bytes, d) => bytes.length + uptoBulk d + 1
  | (_, d) => uptoBulk d + 1
 end
def uptoSmall : (H : Type) → List (DataW H) → Bool := fun _ ds => decide (uptoBulkAll ds ≤ 1048576)
def OpenSpec.upto (s : _root_.Go.ChangeSpec) : _root_.Go.OpenSpec := { _root_.Go.OpenSpec.ofChange s with cond := some uptoSmall }

/-- 'heronrylaw14.VersionOwn', WHERE WHAT IT READS IS OF BULK AT MOST 1048576: true; the input reads as it did. -/
def versionOwnUptoRow : OpenClaim := { program := "ytmhnjmfcenbogaa", sum := "d0618c2dbc39ba7b21e9e5f194538a990ae3c30c781f47bf42c6eb9e08b340be", func := "heronry/heronrylaw14.VersionOwn", spec := "versionOwn", unfollowed := true, recurses := true, apart := false, narrowed := true }
def VersionOwnUptoSaid : Prop := versionOwnUptoRow.holds Try.pinned (OpenSpec.upto versionOwnSpec)

/-- 'heronrylaw14.VersionUndo', WHERE WHAT IT READS IS OF BULK AT MOST 1048576: true; the input reads as it did. -/
def versionUndoUptoRow : OpenClaim := { program := "ytmhnjmfcenbogaa", sum := "d0618c2dbc39ba7b21e9e5f194538a990ae3c30c781f47bf42c6eb9e08b340be", func := "heronry/heronrylaw14.VersionUndo", spec := "versionUndo", unfollowed := true, recurses := true, apart := false, narrowed := true }
def VersionUndoUptoSaid : Prop := versionUndoUptoRow.holds Try.pinned (OpenSpec.upto versionUndoSpec)

/-- 'heronrylaw14.VersionTop', WHERE WHAT IT READS IS OF BULK AT MOST 1048576: true; the input reads as it did. -/
def versionTopUptoRow : OpenClaim := { program := "ytmhnjmfcenbogaa", sum := "d0618c2dbc39ba7b21e9e5f194538a990ae3c30c781f47bf42c6eb9e08b340be", func := "heronry/heronrylaw14.VersionTop", spec := "versionTop", unfollowed := true, recurses := true, apart := false, narrowed := true }
def VersionTopUptoSaid : Prop := versionTopUptoRow.holds Try.pinned (OpenSpec.upto versionTopSpec)

/-- 'heronrylaw14.VersionDeep', WHERE WHAT IT READS IS OF BULK AT MOST 1048576: true; the input reads as it did. -/
def versionDeepUptoRow : OpenClaim := { program := "ytmhnjmfcenbogaa", sum := "d0618c2dbc39ba7b21e9e5f194538a990ae3c30c781f47bf42c6eb9e08b340be", func := "heronry/heronrylaw14.VersionDeep", spec := "versionDeep", unfollowed := true, recurses := true, apart := false, narrowed := true }
def VersionDeepUptoSaid : Prop := versionDeepUptoRow.holds Try.pinned (OpenSpec.upto versionDeepSpec)

/-- 'heronrylaw14.VersionLast', WHERE WHAT IT READS IS OF BULK AT MOST 1048576: true; the input reads as it did. -/
def versionLastUptoRow : OpenClaim := { program := "ytmhnjmfcenbogaa", sum := "d0618c2dbc39ba7b21e9e5f194538a990ae3c30c781f47bf42c6eb9e08b340be", func := "heronry/heronrylaw14.VersionLast", spec := "versionLast", unfollowed := true, recurses := true, apart := false, narrowed := true }
def VersionLastUptoSaid : Prop := versionLastUptoRow.holds Try.pinned (OpenSpec.upto versionLastSpec)

end Rows
end Go.Proofs.Ytmhnjmfcenbogaa
