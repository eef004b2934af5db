/-
  Three cells by value that came in.
-/
import Derived.Test.YtknjkihcpcimpaaCb
import Derived.WalkKit
import Derived.OpenShut
import Derived.ChangeOld
import Derived.Below
import Derived.Carry
namespace Go.Proofs.Ytknjkihcpcimpaa
set_option maxRecDepth 100000
set_option linter.unusedVariables false
open Go.ChangeShapes Go.WideShapes Go.RowKit Pg

theorem cells_int : Try.prog.cellsOf 3 = 1 := by kernel_rfl
theorem cells_ce : Try.prog.cellsOf 24 = 2 := by kernel_rfl
theorem cells_c3 : Try.prog.cellsOf 25 = 6 := by kernel_rfl

theorem okWide_array {P : Program} {w : World} {r : Reach} {base : Nat} {t e : TypeId} {n : Nat} {v : Value} (ht : P.underlying t = some (.array n e)) (h : Value.okWide P w r base t v) : ∃ cs, v = .agg cs ∧ cs.size = P.cellsOf t := by
  simp only [Value.okWide, ht] at h
  obtain ⟨cs, h1, h2, _⟩ := h
  exact ⟨cs, h1, h2⟩

theorem ce_of_cells {H : Type} {enc : TypeId × Value → H} {W : World} {spare : Nat → Bool} {held : Bool} {n : Nat} {c0 c1 : Value} {y : DataW H × List MemPlace}
    (h : DataW.trod enc Try.prog W 0 spare held n 24 [c0, c1] = some y) : ∃ c : Ce, c0 = .int .i64 c.V ∧ c1 = .int .i64 c.L ∧ c.Wf := by
  obtain ⟨xs, n', _, _, _, hlen, hfs⟩ := DataW.trod_struct Try.underlying24 h
  match xs, hlen with
  | [y0, y1], _ =>
    have h0 : DataW.trod enc Try.prog W 0 spare held n' 3 [c0] = some y0 := by have := hfs 0 _ rfl; simpa [Value.cells, cells_int] using this
    have h1 : DataW.trod enc Try.prog W 0 spare held n' 3 [c1] = some y1 := by have := hfs 1 _ rfl; simpa [Value.cells, cells_int] using this
    obtain ⟨a0, e0, _, w0⟩ := DataW.trod_int Try.underlying3 h0
    obtain ⟨a1, e1, _, w1⟩ := DataW.trod_int Try.underlying3 h1
    simp at e0 e1
    subst e0 e1
    exact ⟨⟨a0, a1⟩, rfl, rfl, bounds_i64 w0, bounds_i64 w1⟩

/-- three cells by value that came in -/
theorem open_c3 {H : Type} {enc : TypeId × Value → H} {W : World} {base : Nat} {v : Value} {d : DataW H} {p : List MemPlace} {spare : Nat → Bool} {held : Bool}
    (hv : Value.okWide Try.prog W .any base 25 v) (h : DataW.Trod enc Try.prog W 0 spare held 25 v d p) : ∃ x : C3, v = c3V x ∧ x.Wf := by
  obtain ⟨cs, rfl, hsz⟩ := okWide_array Try.underlying25 hv
  rw [cells_c3] at hsz
  obtain ⟨fuel, hf⟩ := h
  obtain ⟨cl⟩ := cs
  match cl, hsz with
  | [c0, c1, c2, c3, c4, c5], _ =>
    have hf : DataW.trod enc Try.prog W 0 spare held fuel 25 [c0, c1, c2, c3, c4, c5] = some (d, p) := by simpa [Value.cells] using hf
    obtain ⟨xs, m, _, _, _, hlen, hi⟩ := DataW.trod_array Try.underlying25 hf
    match xs, hlen with
    | [y0, y1, y2], _ =>
      rw [cells_ce] at hi
      obtain ⟨k0, e0, f0, g0⟩ := ce_of_cells (show DataW.trod enc Try.prog W 0 spare held m 24 [c0, c1] = some y0 from hi 0 (by omega))
      obtain ⟨k1, e1, f1, g1⟩ := ce_of_cells (show DataW.trod enc Try.prog W 0 spare held m 24 [c2, c3] = some y1 from hi 1 (by omega))
      obtain ⟨k2, e2, f2, g2⟩ := ce_of_cells (show DataW.trod enc Try.prog W 0 spare held m 24 [c4, c5] = some y2 from hi 2 (by omega))
      subst e0 f0 e1 f1 e2 f2
      exact ⟨⟨k0, k1, k2⟩, rfl, g0, g1, g2⟩

end Go.Proofs.Ytknjkihcpcimpaa
