/-
  How the arguments of a statement on supers are opened: bytes, a super by value that came in.
-/
import Derived.Test.YtojidejlohpeaaaRow7
import Derived.Test.YtojidejlohpeaaaSane8
import Derived.Carry
namespace Go.Proofs.Ytojidejlohpeaaa
set_option maxRecDepth 100000
open Go.ChangeShapes Go.WideShapes Go.ChangeAt Go.RowKit

theorem cells_sup : Try.prog.cellsOf 23 = 7 := by kernel_rfl
theorem Bt.lies {W : World} {a : Option Addr} {len cap : Nat} {l : List UInt8} (h : Bt W a len cap l) : Lies W a cap len l := ⟨h.rd, h.len_, h.cap_⟩

/-- seven numbers that were read -/
theorem sup_of_cells {H : Type} {enc : TypeId × Value → H} {W : World} {spare : Nat → Bool} {held : Bool} {n : Nat} {cl : List Value} {y : DataW H × List MemPlace} (hsz : cl.length = 7)
    (h : DataW.trod enc Try.prog W 0 spare held n 23 cl = some y) : ∃ s : Sup, cl = (supC s).toList := by
  obtain ⟨xs, n', _, _, _, hlen, hfs⟩ := DataW.trod_struct Try.underlying23 h
  match cl, hsz with
  | [c0, c1, c2, c3, c4, c5, c6], _ =>
    match xs, hlen with
    | [y0, y1, y2, y3, y4, y5, y6], _ =>
      have h0 : DataW.trod enc Try.prog W 0 spare held n' 3 [c0] = some y0 := by have := hfs 0 _ rfl; simpa [Value.cells, cells_int] using this
      have h1 : DataW.trod enc Try.prog W 0 spare held n' 3 [c1] = some y1 := by have := hfs 1 _ rfl; simpa [Value.cells, cells_int] using this
      have h2 : DataW.trod enc Try.prog W 0 spare held n' 3 [c2] = some y2 := by have := hfs 2 _ rfl; simpa [Value.cells, cells_int] using this
      have h3 : DataW.trod enc Try.prog W 0 spare held n' 3 [c3] = some y3 := by have := hfs 3 _ rfl; simpa [Value.cells, cells_int] using this
      have h4 : DataW.trod enc Try.prog W 0 spare held n' 3 [c4] = some y4 := by have := hfs 4 _ rfl; simpa [Value.cells, cells_int] using this
      have h5 : DataW.trod enc Try.prog W 0 spare held n' 3 [c5] = some y5 := by have := hfs 5 _ rfl; simpa [Value.cells, cells_int] using this
      have h6 : DataW.trod enc Try.prog W 0 spare held n' 3 [c6] = some y6 := by have := hfs 6 _ rfl; simpa [Value.cells, cells_int] using this
      obtain ⟨a0, e0, _, _⟩ := DataW.trod_int Try.underlying3 h0
      obtain ⟨a1, e1, _, _⟩ := DataW.trod_int Try.underlying3 h1
      obtain ⟨a2, e2, _, _⟩ := DataW.trod_int Try.underlying3 h2
      obtain ⟨a3, e3, _, _⟩ := DataW.trod_int Try.underlying3 h3
      obtain ⟨a4, e4, _, _⟩ := DataW.trod_int Try.underlying3 h4
      obtain ⟨a5, e5, _, _⟩ := DataW.trod_int Try.underlying3 h5
      obtain ⟨a6, e6, _, _⟩ := DataW.trod_int Try.underlying3 h6
      simp at e0 e1 e2 e3 e4 e5 e6
      subst e0 e1 e2 e3 e4 e5 e6
      exact ⟨⟨a0, a1, a2, a3, a4, a5, a6⟩, rfl⟩

/-- a super by value that came in -/
theorem open_sup {H : Type} {enc : TypeId × Value → H} {W : World} {base : Nat} {v : Value} {d : DataW H} {p : List MemPlace} {spare : Nat → Bool} {held : Bool}
    (hv : Value.okWide Try.prog W .any base 23 v) (h : DataW.Trod enc Try.prog W 0 spare held 23 v d p) : ∃ s : Sup, v = supV s := by
  obtain ⟨cs, rfl, hsz⟩ := okWide_struct Try.underlying23 hv
  rw [cells_sup] at hsz
  obtain ⟨fuel, hf⟩ := h
  obtain ⟨s, hs⟩ := sup_of_cells (cl := cs.toList) (by simpa using hsz) (by simpa [Value.cells] using hf)
  exact ⟨s, by unfold supV; rw [Array.toList_inj.1 hs]⟩

end Go.Proofs.Ytojidejlohpeaaa
