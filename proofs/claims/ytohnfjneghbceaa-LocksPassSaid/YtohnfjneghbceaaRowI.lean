/-
  Numbers that came in.
-/
import Derived.Test.YtohnfjneghbceaaRow10
import Derived.Test.YtohnfjneghbceaaPassWalk
namespace Go.Proofs.Ytohnfjneghbceaa
set_option maxRecDepth 100000
open Go.ChangeShapes Go.WideShapes Go.ChangeAt Go.RowKit

/-- ints that came in -/
theorem open_is {H : Type} {enc : TypeId × Value → H} {W : World} {spare : Nat → Bool} {held : Bool} {ts : List TypeId} {ds : List (DataW H)} {d : DataW H} {p : List MemPlace} {a : Option Addr} {len cap : Nat}
    (h : DataW.Trod enc Try.prog W 0 spare held 28 (.slice a len cap) d p) (_ : (DataW.weightsEach Try.prog ts ds).all (· ≤ reachBytes) = true) {j : Nat} (_ : ts[j]? = some 28) (_ : ds[j]? = some d) :
    ∃ f : Nat → Int, Is W a len f := by
  obtain ⟨fuel, hf⟩ := h
  rcases open_ints Try.underlying28 Try.underlying3 cells_int hf with ⟨hcs, _⟩ | ⟨x, n, c, zs, hcs, _, hl, hm, hz, _, hcell, hwz⟩
  · simp [Value.cells] at hcs
    obtain ⟨rfl, rfl, rfl⟩ := hcs
    exact ⟨fun _ => 0, fun _ => by decide, .inl rfl⟩
  · simp [Value.cells] at hcs
    obtain ⟨rfl, rfl, rfl⟩ := hcs
    have hlen : len ≤ zs.length := by rw [hz]; split <;> omega
    have hb : ∀ i, -9223372036854775808 ≤ zs.getD i 0 ∧ zs.getD i 0 ≤ 9223372036854775807 := fun i => by
      rw [List.getD_eq_getElem?_getD]
      cases hx : zs[i]? with
      | none => simp
      | some n => exact bounds_i64 (hwz n (List.mem_of_getElem? hx))
    refine ⟨fun i => zs.getD i 0, hb, ?_⟩
    rcases Nat.eq_zero_or_pos len with h0 | h0
    · exact .inl h0
    · have hc0 := hcell 0 (by omega)
      have hs : x.spot = none := by simpa [Addr.add] using World.cell?_spot hc0
      have hbl : x.block < W.heap.size := by simpa [Addr.add] using block_lt_of_cell hc0
      obtain ⟨b, o, s⟩ := x
      simp only at hs
      subst hs
      refine .inr ⟨b, o, rfl, hbl, fun i hi => ?_⟩
      have h1 := hcell i (by omega)
      rw [addr_add] at h1
      exact h1

end Go.Proofs.Ytohnfjneghbceaa
