/-
  How the arguments of a statement on pieces are opened: bytes, slices of bytes, a piece by value that came in.
-/
import Derived.Test.YtofekbipbndbbaaRow
import Derived.Test.YtofekbipbndbbaaRows6
import Derived.Carry
import Derived.Deep.Slices
import Derived.Lib.SmallJoins
namespace Go.Proofs.Ytofekbipbndbbaa
open Go.ChangeShapes Go.WideShapes Go.ChangeAt Go.RowKit Go.Joins

theorem cells_sl : Try.prog.cellsOf 22 = 1 := by kernel_rfl
theorem cells_in : Try.prog.cellsOf 3 = 1 := by kernel_rfl
theorem cells_pc : Try.prog.cellsOf 24 = 5 := by kernel_rfl

theorem Bt.lies {W : World} {a : Option Addr} {len cap : Nat} {l : List UInt8} (h : Bt W a len cap l) : Lies W a cap len l := ⟨h.rd, h.len_, h.cap_⟩

/-- one slice of bytes, as it is read -/
theorem sl_of_trod {H : Type} {enc : TypeId × Value → H} {W : World} {spare : Nat → Bool} {held : Bool} {n : Nat} {v : Value} {y : DataW H × List MemPlace} (h : DataW.trod enc Try.prog W 0 spare held n 22 [v] = some y) :
    ∃ (A : Option Addr) (N C : Nat) (X : List UInt8), v = .slice A N C ∧ Lies W A C N X := by
  rcases open_ints Try.underlying22 Try.underlying5 cells_u8 h with ⟨hcs, _⟩ | ⟨x, n, c, zs, hcs, _, hl, hm, hz, _, hcell, hwz⟩
  · simp at hcs
    exact ⟨none, 0, 0, [], hcs, .nil _ _ _, rfl, Nat.le_refl _⟩
  · simp at hcs
    have hlen : n ≤ zs.length := by rw [hz]; split <;> omega
    obtain ⟨l, hl1, hl2⟩ := bytes_of_wf zs hwz
    refine ⟨some x, n, c, l.take n, hcs, cells_bytes fun i y hy => ?_, by rw [List.length_take]; omega, hl⟩
    rw [List.getElem?_take] at hy
    split at hy
    · rw [hcell i (by omega), hl2 i y hy]; rfl
    · cases hy

/-- slices of bytes that came in -/
theorem open_ls {H : Type} {enc : TypeId × Value → H} {W : World} {spare : Nat → Bool} {held : Bool} {d : DataW H} {p : List MemPlace} {a : Option Addr} {len cap : Nat}
    (h : DataW.Trod enc Try.prog W 0 spare held 25 (.slice a len cap) d p) : ∃ ls : List (List UInt8), Hid (ls.length = len) ∧ Ls W a ls := by
  obtain ⟨fuel, hf⟩ := h
  rcases Go.Deep.open_slice1 Try.underlying25 cells_sl hf with ⟨hcs, _⟩ | ⟨x, n, c, m, k, V, D, Pl, hcs, _, hl, hm, hmm, _, hi⟩
  · simp [Value.cells] at hcs
    obtain ⟨rfl, rfl, rfl⟩ := hcs
    exact ⟨[], Lib.hid rfl, .inl rfl⟩
  · simp [Value.cells] at hcs
    obtain ⟨rfl, rfl, rfl⟩ := hcs
    have hlm : len ≤ m := by rw [hmm]; split <;> omega
    have hX : ∀ i, ∃ X : List UInt8, i < len → ∃ A N C, V i = .slice A N C ∧ Lies W A C N X := fun i => by
      by_cases hil : i < len
      · obtain ⟨A, N, C, X, h1, h2⟩ := sl_of_trod (hi i (by omega)).2
        exact ⟨X, fun _ => ⟨A, N, C, h1, h2⟩⟩
      · exact ⟨[], fun h => absurd h hil⟩
    refine ⟨(List.range len).map fun i => (hX i).choose, Lib.hid (by simp), ?_⟩
    rcases Nat.eq_zero_or_pos len with h0 | h0
    · subst h0; exact .inl (by simp)
    · have hc0 := (hi 0 (by omega)).1
      have hs : x.spot = none := by simpa [Addr.add] using World.cell?_spot hc0
      have hb : x.block < W.heap.size := by simpa [Addr.add] using block_lt_of_cell hc0
      obtain ⟨b, o, s⟩ := x
      simp only at hs
      subst hs
      refine .inr ⟨b, o, rfl, hb, fun i y hy => ?_⟩
      have hil : i < len := by have := (List.getElem?_eq_some_iff.1 hy).1; simpa using this
      rw [List.getElem?_map, List.getElem?_range hil] at hy
      simp only [Option.map_some, Option.some.injEq] at hy
      obtain ⟨A, N, C, h1, h2⟩ := (hX i).choose_spec hil
      have g0 := (hi i (by omega)).1
      rw [addr_add, h1] at g0
      exact ⟨A, N, C, g0, hy ▸ h2⟩

/-- a piece by value that came in -/
theorem open_pc {H : Type} {enc : TypeId × Value → H} {W : World} {base : Nat} {v : Value} {d : DataW H} {p : List MemPlace} {spare : Nat → Bool} {held : Bool}
    (hv : Value.okWide Try.prog W .any base 24 v) (h : DataW.Trod enc Try.prog W 0 spare held 24 v d p) :
    ∃ (q : Pv) (D : List UInt8), v = pvV q ∧ Lies W q.ad q.c q.n D := by
  obtain ⟨cs, rfl, hsz⟩ := okWide_struct Try.underlying24 hv
  rw [cells_pc] at hsz
  obtain ⟨fuel, hf⟩ := h
  obtain ⟨xs, n, _, _, _, hlen, hfs⟩ := DataW.trod_struct Try.underlying24 hf
  obtain ⟨cl⟩ := cs
  match cl, hsz with
  | [c0, c1, c2, c3, c4], _ =>
    match xs, hlen with
    | [y0, y1, y2, y3, y4], _ =>
      have h0 : DataW.trod enc Try.prog W 0 spare held n 3 [c0] = some y0 := by have := hfs 0 _ rfl; simpa [Value.cells, cells_in] using this
      have h1 : DataW.trod enc Try.prog W 0 spare held n 3 [c1] = some y1 := by have := hfs 1 _ rfl; simpa [Value.cells, cells_in] using this
      have h2 : DataW.trod enc Try.prog W 0 spare held n 3 [c2] = some y2 := by have := hfs 2 _ rfl; simpa [Value.cells, cells_in] using this
      have h3 : DataW.trod enc Try.prog W 0 spare held n 3 [c3] = some y3 := by have := hfs 3 _ rfl; simpa [Value.cells, cells_in] using this
      have h4 : DataW.trod enc Try.prog W 0 spare held n 22 [c4] = some y4 := by have := hfs 4 _ rfl; simpa [Value.cells, cells_sl] using this
      obtain ⟨E, e0, _, _⟩ := DataW.trod_int Try.underlying3 h0
      obtain ⟨A, e1, _, _⟩ := DataW.trod_int Try.underlying3 h1
      obtain ⟨I, e2, _, _⟩ := DataW.trod_int Try.underlying3 h2
      obtain ⟨C, e3, _, _⟩ := DataW.trod_int Try.underlying3 h3
      obtain ⟨ad, N, c, X, e4, hl⟩ := sl_of_trod h4
      simp at e0 e1 e2 e3
      subst e0 e1 e2 e3 e4
      exact ⟨⟨E, A, I, C, ad, N, c⟩, X, rfl, hl⟩

end Go.Proofs.Ytofekbipbndbbaa
