/-
  Two results, each a struct in a block.
-/
import Derived.Test.YtmhnjmfcenbogaaGs
namespace Go.Proofs.Ytmhnjmfcenbogaa
set_option maxRecDepth 100000
set_option linter.unusedVariables false
open Go.RowKit

theorem results_two {fn : Func} {p u : Tmp} {W : World} {g h : Nat} {A A1 B1 : Option Addr} {n k n1 a1 m1 b1 : Nat} {c : Int} (hf : fn.results = #[.cell p 26, .cell u 30]) (tmps : Array Value) (hp : tmps.getD p undef = .pointer (some ⟨g, 0, none⟩)) (hu : tmps.getD u undef = .pointer (some ⟨h, 0, none⟩)) (ht : Bk W g (txC2 A n k c) 26) (hk : Bk W h (vtC A1 n1 a1 B1 m1 b1) 30) :
    (results fn tmps).run Try.prog W = .ok (.tuple #[.agg (txC2 A n k c), vtV A1 n1 a1 B1 m1 b1]) W := by
  have hp' : tmps[p]?.getD undef = .pointer (some ⟨g, 0, none⟩) := by simpa using hp
  have hu' : tmps[u]?.getD undef = .pointer (some ⟨h, 0, none⟩) := by simpa using hu
  have c0 : W.cell? ⟨g, 0, none⟩ = some (.slice A n k) := ht.c 0 _ rfl
  have c1 : W.cell? ⟨g, 1, none⟩ = some (.int .i64 c) := ht.c 1 _ rfl
  have d0 := hk.v0
  have d1 := hk.v1
  have e1 : (loadVar 26 ⟨g, 0, none⟩).run Try.prog W = .ok (.agg (txC2 A n k c)) W := by go_simp
  have e2 : (loadVar 30 ⟨h, 0, none⟩).run Try.prog W = .ok (vtV A1 n1 a1 B1 m1 b1) W := by go_simp
  simp [results, hf, hp', hu', asAddr, e1, e2]
end Go.Proofs.Ytmhnjmfcenbogaa
