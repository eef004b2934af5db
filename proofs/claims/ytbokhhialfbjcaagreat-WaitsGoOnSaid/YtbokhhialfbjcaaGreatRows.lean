/-
  No cell of these rows narrows 'for every input' (looked for: loops, veiled, ifaces, maps, wideKeys, modest, calm, conditions, laid).
  DERIVED. THE GIVEN ROWS OF THIS SEAT. 2 by the template 'for every input the law returns true; each argument reads behind the call as it read before'; 0 by the template 'total and deterministic' (their statements: YtbokhhialfbjcaaGreatTotals.lean).
  GIVEN WITH THE SEED: the statements are not yours to turn. If you find one false, say at which input.
  Laid BY PROGRAM, IN A SANDBOX (cutbox-rows.mjs): the forced cells as the released guide's own fill.sh prints them over the translation cbf8b6f457f93c51… (all of the seat's roots in one cut). By AI agents, Wed Nov 11 2026. No macro, syntax, notation, axiom, sorry.
-/
import Derived.Test.YtbokhhialfbjcaaGreatChecked
import GoSem.Claim
import GoSem.ClaimJoined
import GoSem.ClaimMapViews
import Derived.JoinedTies
import Derived.KernelRfl
namespace Go.Proofs.YtbokhhialfbjcaaGreat
/- THE CELL 'sum', in the pinned program and in every row, IS THE sha256 OF THE DUMP (.gsa) THAT YtbokhhialfbjcaaGreatProg.lean LOADS. Nothing in Lean hashes anything: it is a label: what it is worth is what the hold of that sum in a sandbox is worth. -/
noncomputable def Tryz.pinned : Pinned := { name := "ytbokhhialfbjcaagreat", sum := "cbf8b6f457f93c51cb08798869303ba4f5d87f2f4257bd1eb7a4df3604d6367a", checked := Tryz.checked }
namespace Rows
def none {H : Type} : Left H := { results := [], args := [] }

/-- 'heronrylaw11.WaitsGoOn': WHATEVER THE INPUT: true; the input reads as it did. -/
def waitsGoOnSpec : ChangeSpec := { name := "waitsGoOn", fn := fun _ => fun
  | [d] => { results := [.lit (.bool true)], args := [d] }
  | _ => none }
def waitsGoOnRow : OpenClaim := { program := "ytbokhhialfbjcaagreat", sum := "cbf8b6f457f93c51cb08798869303ba4f5d87f2f4257bd1eb7a4df3604d6367a", func := "heronry/heronrylaw11.WaitsGoOn", spec := "waitsGoOn", unfollowed := true, recurses := true, apart := false }
def WaitsGoOnSaid : Prop := waitsGoOnRow.holds Tryz.pinned (OpenSpec.ofChange waitsGoOnSpec)

/-- ITS FALSE NEIGHBOUR: 'it returns false'. Refute it at one input. -/
def waitsGoOnWrong : ChangeSpec := { name := "waitsGoOn", fn := fun _ => fun
  | [d] => { results := [.lit (.bool false)], args := [d] }
  | _ => none }
def WaitsGoOnWrongFalsely : Prop := waitsGoOnRow.holds Tryz.pinned (OpenSpec.ofChange waitsGoOnWrong)

/-- 'heronrylaw11.WaitsBreak': WHATEVER THE INPUT: true; the input reads as it did. -/
def waitsBreakSpec : ChangeSpec := { name := "waitsBreak", fn := fun _ => fun
  | [d] => { results := [.lit (.bool true)], args := [d] }
  | _ => none }
def waitsBreakRow : OpenClaim := { program := "ytbokhhialfbjcaagreat", sum := "cbf8b6f457f93c51cb08798869303ba4f5d87f2f4257bd1eb7a4df3604d6367a", func := "heronry/heronrylaw11.WaitsBreak", spec := "waitsBreak", unfollowed := true, recurses := true, apart := false }
def WaitsBreakSaid : Prop := waitsBreakRow.holds Tryz.pinned (OpenSpec.ofChange waitsBreakSpec)

/-- ITS FALSE NEIGHBOUR: 'it returns false'. Refute it at one input. -/
def waitsBreakWrong : ChangeSpec := { name := "waitsBreak", fn := fun _ => fun
  | [d] => { results := [.lit (.bool false)], args := [d] }
  | _ => none }
def WaitsBreakWrongFalsely : Prop := waitsBreakRow.holds Tryz.pinned (OpenSpec.ofChange waitsBreakWrong)

/- THE SECOND FORM. 'bulk': how many values and letters a reading holds, each counted each time it is reached (what is shared counts as often as it is met; a slice's spare places count too). A statement '..UptoSaid' is the law's where the arguments, and the package variables that the reading takes, are together of bulk at most 1048576: NARROWER than '..Said'. Prove '..Said' where nothing that the law and all that it calls make is longer than what came in: it says more and counts as full. Else prove '..UptoSaid'. A law counts once. -/
mutual
def uptoBulk {H : Type} : DataW H → Nat
  | .lit (.string bytes) => bytes.length + 1
  | .lit _ => 1
  | .nil => 1
  | .ptr d => uptoBulk d + 1
  | .slice elems spare => uptoBulkAll elems + uptoBulkAll spare + 1
  | .agg parts => uptoBulkAll parts + 1
  | .iface _ d => uptoBulk d + 1
  | .map entries => uptoBulkEntries entries + 1
  | .held _ => 1
def uptoBulkAll {H : Type} : List (DataW H) → Nat
  | [] => 0
  | d :: r => uptoBulk d + uptoBulkAll r
def uptoBulkEntries {H : Type} : List (Lit × DataW H) → Nat
  | [] => 0
  | x :: r => uptoBulkEntry x + uptoBulkEntries r
def uptoBulkEntry {H : Type} : Lit × DataW H → Nat
  | (.string bytes, d) => bytes.length + uptoBulk d + 1
  | (_, d) => uptoBulk d + 1
 end
def uptoSmall : (H : Type) → List (DataW H) → Bool := fun _ ds => decide (uptoBulkAll ds ≤ 1048576)
def OpenSpec.upto (s : _root_.Go.ChangeSpec) : _root_.Go.OpenSpec := { _root_.Go.OpenSpec.ofChange s with cond := some uptoSmall }

/-- 'heronrylaw11.WaitsGoOn', WHERE WHAT IT READS IS OF BULK AT MOST 1048576: true; the input reads as it did. -/
def waitsGoOnUptoRow : OpenClaim := { program := "ytbokhhialfbjcaagreat", sum := "cbf8b6f457f93c51cb08798869303ba4f5d87f2f4257bd1eb7a4df3604d6367a", func := "heronry/heronrylaw11.WaitsGoOn", spec := "waitsGoOn", unfollowed := true, recurses := true, apart := false, narrowed := true }
def WaitsGoOnUptoSaid : Prop := waitsGoOnUptoRow.holds Tryz.pinned (OpenSpec.upto waitsGoOnSpec)

/-- 'heronrylaw11.WaitsBreak', WHERE WHAT IT READS IS OF BULK AT MOST 1048576: true; the input reads as it did. -/
def waitsBreakUptoRow : OpenClaim := { program := "ytbokhhialfbjcaagreat", sum := "cbf8b6f457f93c51cb08798869303ba4f5d87f2f4257bd1eb7a4df3604d6367a", func := "heronry/heronrylaw11.WaitsBreak", spec := "waitsBreak", unfollowed := true, recurses := true, apart := false, narrowed := true }
def WaitsBreakUptoSaid : Prop := waitsBreakUptoRow.holds Tryz.pinned (OpenSpec.upto waitsBreakSpec)

end Rows
end Go.Proofs.YtbokhhialfbjcaaGreat
