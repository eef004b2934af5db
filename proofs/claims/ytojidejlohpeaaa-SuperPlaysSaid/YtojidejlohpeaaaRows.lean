/-
  No cell of these rows narrows 'for every input' (looked for: loops, veiled, ifaces, maps, wideKeys, modest, calm, conditions, laid).
  DERIVED. THE GIVEN ROWS OF THIS SEAT. 7 by the template 'for every input the law returns true; each argument reads behind the call as it read before'; 0 by the template 'total and deterministic' (their statements: YtojidejlohpeaaaTotals.lean).
  GIVEN WITH THE SEED: the statements are not yours to turn. If you find one false, say at which input.
  Laid BY PROGRAM, IN A SANDBOX (cutbox-rows.mjs): the forced cells as the released guide's own fill.sh prints them over the translation db9d0e8f404b82f3… (all of the seat's roots in one cut). By AI agents, Wed Nov 11 2026. No macro, syntax, notation, axiom, sorry.
-/
import Derived.Test.YtojidejlohpeaaaChecked
import GoSem.Claim
import GoSem.ClaimJoined
import GoSem.ClaimMapViews
import Derived.JoinedTies
import Derived.KernelRfl
namespace Go.Proofs.Ytojidejlohpeaaa
/- THE CELL 'sum', in the pinned program and in every row, IS THE sha256 OF THE DUMP (.gsa) THAT YtojidejlohpeaaaProg.lean LOADS. Nothing in Lean hashes anything: it is a label: what it is worth is what the hold of that sum in a sandbox is worth. -/
noncomputable def Try.pinned : Pinned := { name := "ytojidejlohpeaaa", sum := "db9d0e8f404b82f3a5158ea5ff0c190e08871c18e7fb843c56aead69ed09fb28", checked := Try.checked }
namespace Rows
def none {H : Type} : Left H := { results := [], args := [] }

/-- 'heronrylaw08.SuperIs': WHATEVER THE INPUT: true; the input reads as it did. -/
def superIsSpec : ChangeSpec := { name := "superIs", fn := fun _ => fun
  | [d1, d2] => { results := [.lit (.bool true)], args := [d1, d2] }
  | _ => none }
def superIsRow : OpenClaim := { program := "ytojidejlohpeaaa", sum := "db9d0e8f404b82f3a5158ea5ff0c190e08871c18e7fb843c56aead69ed09fb28", func := "heronry/heronrylaw08.SuperIs", spec := "superIs", apart := false }
def SuperIsSaid : Prop := superIsRow.holds Try.pinned (OpenSpec.ofChange superIsSpec)

/-- ITS FALSE NEIGHBOUR: 'it returns false'. Refute it at one input. -/
def superIsWrong : ChangeSpec := { name := "superIs", fn := fun _ => fun
  | [d1, d2] => { results := [.lit (.bool false)], args := [d1, d2] }
  | _ => none }
def SuperIsWrongFalsely : Prop := superIsRow.holds Try.pinned (OpenSpec.ofChange superIsWrong)

/-- 'heronrylaw08.SuperPlays': WHATEVER THE INPUT: true; the input reads as it did. -/
def superPlaysSpec : ChangeSpec := { name := "superPlays", fn := fun _ => fun
  | [d1, d2] => { results := [.lit (.bool true)], args := [d1, d2] }
  | _ => none }
def superPlaysRow : OpenClaim := { program := "ytojidejlohpeaaa", sum := "db9d0e8f404b82f3a5158ea5ff0c190e08871c18e7fb843c56aead69ed09fb28", func := "heronry/heronrylaw08.SuperPlays", spec := "superPlays", recurses := true, apart := false }
def SuperPlaysSaid : Prop := superPlaysRow.holds Try.pinned (OpenSpec.ofChange superPlaysSpec)

/-- ITS FALSE NEIGHBOUR: 'it returns false'. Refute it at one input. -/
def superPlaysWrong : ChangeSpec := { name := "superPlays", fn := fun _ => fun
  | [d1, d2] => { results := [.lit (.bool false)], args := [d1, d2] }
  | _ => none }
def SuperPlaysWrongFalsely : Prop := superPlaysRow.holds Try.pinned (OpenSpec.ofChange superPlaysWrong)

/-- 'heronrylaw08.SuperBack': WHATEVER THE INPUT: true; the input reads as it did. -/
def superBackSpec : ChangeSpec := { name := "superBack", fn := fun _ => fun
  | [d1, d2, d3] => { results := [.lit (.bool true)], args := [d1, d2, d3] }
  | _ => none }
def superBackRow : OpenClaim := { program := "ytojidejlohpeaaa", sum := "db9d0e8f404b82f3a5158ea5ff0c190e08871c18e7fb843c56aead69ed09fb28", func := "heronry/heronrylaw08.SuperBack", spec := "superBack", apart := false }
def SuperBackSaid : Prop := superBackRow.holds Try.pinned (OpenSpec.ofChange superBackSpec)

/-- ITS FALSE NEIGHBOUR: 'it returns false'. Refute it at one input. -/
def superBackWrong : ChangeSpec := { name := "superBack", fn := fun _ => fun
  | [d1, d2, d3] => { results := [.lit (.bool false)], args := [d1, d2, d3] }
  | _ => none }
def SuperBackWrongFalsely : Prop := superBackRow.holds Try.pinned (OpenSpec.ofChange superBackWrong)

/-- 'heronrylaw08.SuperKeeps': WHATEVER THE INPUT: true; the input reads as it did. -/
def superKeepsSpec : ChangeSpec := { name := "superKeeps", fn := fun _ => fun
  | [d1, d2, d3] => { results := [.lit (.bool true)], args := [d1, d2, d3] }
  | _ => none }
def superKeepsRow : OpenClaim := { program := "ytojidejlohpeaaa", sum := "db9d0e8f404b82f3a5158ea5ff0c190e08871c18e7fb843c56aead69ed09fb28", func := "heronry/heronrylaw08.SuperKeeps", spec := "superKeeps", recurses := true, apart := false }
def SuperKeepsSaid : Prop := superKeepsRow.holds Try.pinned (OpenSpec.ofChange superKeepsSpec)

/-- ITS FALSE NEIGHBOUR: 'it returns false'. Refute it at one input. -/
def superKeepsWrong : ChangeSpec := { name := "superKeeps", fn := fun _ => fun
  | [d1, d2, d3] => { results := [.lit (.bool false)], args := [d1, d2, d3] }
  | _ => none }
def SuperKeepsWrongFalsely : Prop := superKeepsRow.holds Try.pinned (OpenSpec.ofChange superKeepsWrong)

/-- 'heronrylaw08.SuperLays': WHATEVER THE INPUT: true; the input reads as it did. -/
def superLaysSpec : ChangeSpec := { name := "superLays", fn := fun _ => fun
  | [d1, d2, d3] => { results := [.lit (.bool true)], args := [d1, d2, d3] }
  | _ => none }
def superLaysRow : OpenClaim := { program := "ytojidejlohpeaaa", sum := "db9d0e8f404b82f3a5158ea5ff0c190e08871c18e7fb843c56aead69ed09fb28", func := "heronry/heronrylaw08.SuperLays", spec := "superLays", apart := false }
def SuperLaysSaid : Prop := superLaysRow.holds Try.pinned (OpenSpec.ofChange superLaysSpec)

/-- ITS FALSE NEIGHBOUR: 'it returns false'. Refute it at one input. -/
def superLaysWrong : ChangeSpec := { name := "superLays", fn := fun _ => fun
  | [d1, d2, d3] => { results := [.lit (.bool false)], args := [d1, d2, d3] }
  | _ => none }
def SuperLaysWrongFalsely : Prop := superLaysRow.holds Try.pinned (OpenSpec.ofChange superLaysWrong)

/-- 'heronrylaw08.SuperTurns': WHATEVER THE INPUT: true; the input reads as it did. -/
def superTurnsSpec : ChangeSpec := { name := "superTurns", fn := fun _ => fun
  | [d1, d2] => { results := [.lit (.bool true)], args := [d1, d2] }
  | _ => none }
def superTurnsRow : OpenClaim := { program := "ytojidejlohpeaaa", sum := "db9d0e8f404b82f3a5158ea5ff0c190e08871c18e7fb843c56aead69ed09fb28", func := "heronry/heronrylaw08.SuperTurns", spec := "superTurns", apart := false }
def SuperTurnsSaid : Prop := superTurnsRow.holds Try.pinned (OpenSpec.ofChange superTurnsSpec)

/-- ITS FALSE NEIGHBOUR: 'it returns false'. Refute it at one input. -/
def superTurnsWrong : ChangeSpec := { name := "superTurns", fn := fun _ => fun
  | [d1, d2] => { results := [.lit (.bool false)], args := [d1, d2] }
  | _ => none }
def SuperTurnsWrongFalsely : Prop := superTurnsRow.holds Try.pinned (OpenSpec.ofChange superTurnsWrong)

/-- 'heronrylaw08.SuperWorse': WHATEVER THE INPUT: true; the input reads as it did. -/
def superWorseSpec : ChangeSpec := { name := "superWorse", fn := fun _ => fun
  | [d1, d2] => { results := [.lit (.bool true)], args := [d1, d2] }
  | _ => none }
def superWorseRow : OpenClaim := { program := "ytojidejlohpeaaa", sum := "db9d0e8f404b82f3a5158ea5ff0c190e08871c18e7fb843c56aead69ed09fb28", func := "heronry/heronrylaw08.SuperWorse", spec := "superWorse", apart := false }
def SuperWorseSaid : Prop := superWorseRow.holds Try.pinned (OpenSpec.ofChange superWorseSpec)

/-- ITS FALSE NEIGHBOUR: 'it returns false'. Refute it at one input. -/
def superWorseWrong : ChangeSpec := { name := "superWorse", fn := fun _ => fun
  | [d1, d2] => { results := [.lit (.bool false)], args := [d1, d2] }
  | _ => none }
def SuperWorseWrongFalsely : Prop := superWorseRow.holds Try.pinned (OpenSpec.ofChange superWorseWrong)

/- THE SECOND FORM. 'bulk': how many values and letters a reading holds, each counted each time it is reached (what is shared counts as often as it is met; a slice's spare places count too). A statement '..UptoSaid' is the law's where the arguments, and the package variables that the reading takes, are together of bulk at most 1048576: NARROWER than '..Said'. Prove '..Said' where nothing that the law and all that it calls make is longer than what came in: it says more and counts as full. Else prove '..UptoSaid'. A law counts once. -/
mutual
def uptoBulk {H : Type} : DataW H → Nat
  | .lit (.string bytes) => bytes.length + 1
  | .lit _ => 1
  | .nil => 1
  | .ptr d => uptoBulk d + 1
  | .slice elems spare => uptoBulkAll elems + uptoBulkAll spare + 1
  | .agg parts => uptoBulkAll parts + 1
  | .iface _ d => uptoBulk d + 1
  | .map entries => uptoBulkEntries entries + 1
  | .held _ => 1
def uptoBulkAll {H : Type} : List (DataW H) → Nat
  | [] => 0
  | d :: r => uptoBulk d + uptoBulkAll r
def uptoBulkEntries {H : Type} : List (Lit × DataW H) → Nat
  | [] => 0
  | x :: r => uptoBulkEntry x + uptoBulkEntries r
def uptoBulkEntry {H : Type} : Lit × DataW H → Nat
  | (.string bytes, d) => bytes.length + uptoBulk d + 1
  | (_, d) => uptoBulk d + 1
 end
def uptoSmall : (H : Type) → List (DataW H) → Bool := fun _ ds => decide (uptoBulkAll ds ≤ 1048576)
def OpenSpec.upto (s : _root_.Go.ChangeSpec) : _root_.Go.OpenSpec := { _root_.Go.OpenSpec.ofChange s with cond := some uptoSmall }

/-- 'heronrylaw08.SuperIs', WHERE WHAT IT READS IS OF BULK AT MOST 1048576: true; the input reads as it did. -/
def superIsUptoRow : OpenClaim := { program := "ytojidejlohpeaaa", sum := "db9d0e8f404b82f3a5158ea5ff0c190e08871c18e7fb843c56aead69ed09fb28", func := "heronry/heronrylaw08.SuperIs", spec := "superIs", apart := false, narrowed := true }
def SuperIsUptoSaid : Prop := superIsUptoRow.holds Try.pinned (OpenSpec.upto superIsSpec)

/-- 'heronrylaw08.SuperPlays', WHERE WHAT IT READS IS OF BULK AT MOST 1048576: true; the input reads as it did. -/
def superPlaysUptoRow : OpenClaim := { program := "ytojidejlohpeaaa", sum := "db9d0e8f404b82f3a5158ea5ff0c190e08871c18e7fb843c56aead69ed09fb28", func := "heronry/heronrylaw08.SuperPlays", spec := "superPlays", recurses := true, apart := false, narrowed := true }
def SuperPlaysUptoSaid : Prop := superPlaysUptoRow.holds Try.pinned (OpenSpec.upto superPlaysSpec)

/-- 'heronrylaw08.SuperBack', WHERE WHAT IT READS IS OF BULK AT MOST 1048576: true; the input reads as it did. -/
def superBackUptoRow : OpenClaim := { program := "ytojidejlohpeaaa", sum := "db9d0e8f404b82f3a5158ea5ff0c190e08871c18e7fb843c56aead69ed09fb28", func := "heronry/heronrylaw08.SuperBack", spec := "superBack", apart := false, narrowed := true }
def SuperBackUptoSaid : Prop := superBackUptoRow.holds Try.pinned (OpenSpec.upto superBackSpec)

/-- 'heronrylaw08.SuperKeeps', WHERE WHAT IT READS IS OF BULK AT MOST 1048576: true; the input reads as it did. -/
def superKeepsUptoRow : OpenClaim := { program := "ytojidejlohpeaaa", sum := "db9d0e8f404b82f3a5158ea5ff0c190e08871c18e7fb843c56aead69ed09fb28", func := "heronry/heronrylaw08.SuperKeeps", spec := "superKeeps", recurses := true, apart := false, narrowed := true }
def SuperKeepsUptoSaid : Prop := superKeepsUptoRow.holds Try.pinned (OpenSpec.upto superKeepsSpec)

/-- 'heronrylaw08.SuperLays', WHERE WHAT IT READS IS OF BULK AT MOST 1048576: true; the input reads as it did. -/
def superLaysUptoRow : OpenClaim := { program := "ytojidejlohpeaaa", sum := "db9d0e8f404b82f3a5158ea5ff0c190e08871c18e7fb843c56aead69ed09fb28", func := "heronry/heronrylaw08.SuperLays", spec := "superLays", apart := false, narrowed := true }
def SuperLaysUptoSaid : Prop := superLaysUptoRow.holds Try.pinned (OpenSpec.upto superLaysSpec)

/-- 'heronrylaw08.SuperTurns', WHERE WHAT IT READS IS OF BULK AT MOST 1048576: true; the input reads as it did. -/
def superTurnsUptoRow : OpenClaim := { program := "ytojidejlohpeaaa", sum := "db9d0e8f404b82f3a5158ea5ff0c190e08871c18e7fb843c56aead69ed09fb28", func := "heronry/heronrylaw08.SuperTurns", spec := "superTurns", apart := false, narrowed := true }
def SuperTurnsUptoSaid : Prop := superTurnsUptoRow.holds Try.pinned (OpenSpec.upto superTurnsSpec)

/-- 'heronrylaw08.SuperWorse', WHERE WHAT IT READS IS OF BULK AT MOST 1048576: true; the input reads as it did. -/
def superWorseUptoRow : OpenClaim := { program := "ytojidejlohpeaaa", sum := "db9d0e8f404b82f3a5158ea5ff0c190e08871c18e7fb843c56aead69ed09fb28", func := "heronry/heronrylaw08.SuperWorse", spec := "superWorse", apart := false, narrowed := true }
def SuperWorseUptoSaid : Prop := superWorseUptoRow.holds Try.pinned (OpenSpec.upto superWorseSpec)

end Rows
end Go.Proofs.Ytojidejlohpeaaa
