/-
  How the arguments of a statement on a log are opened: ints, slices of ints and of bools that came in.
-/
import Derived.Test.YtnpgmiokimahiaaRow
import Derived.Test.YtnpgmiokimahiaaIn7
import Derived.Deep.Slices
namespace Go.Proofs.Ytnpgmiokimahiaa
set_option maxRecDepth 100000
open Go.RowKit
theorem cells_bool : Try.prog.cellsOf 4 = 1 := by kernel_rfl
theorem cells_int : Try.prog.cellsOf 3 = 1 := by kernel_rfl

section
open Go.ChangeShapes Go.WideShapes Go.ChangeAt
variable {H : Type} {enc : TypeId × Value → H} {W : World} {spare : Nat → Bool} {held : Bool}
theorem bools_of_trod {n : Nat} {v : Value} {y : DataW H × List MemPlace} (h : DataW.trod enc Try.prog W 0 spare held n 48 [v] = some y) : ∃ (K : Option Addr) (N C : Nat) (f : Nat → Bool), v = .slice K N C ∧ BoolsAt W K N f := by
  rcases Go.Deep.open_slice1 Try.underlying48 cells_bool h with ⟨hcs, _⟩ | ⟨x, len, c, m, k, V, D, Pl, hcs, _, hl, hm, hmm, _, hi⟩
  · simp at hcs
    exact ⟨none, 0, 0, fun _ => false, hcs, .inl rfl⟩
  · simp at hcs
    have hlm : len ≤ m := by rw [hmm]; split <;> omega
    refine ⟨some x, len, c, fun i => match V i with | .bool b => b | _ => false, hcs, ?_⟩
    rcases Nat.eq_zero_or_pos len with h0 | h0
    · exact .inl h0
    · have hc0 := (hi 0 (by omega)).1
      have hs : x.spot = none := by simpa [Addr.add] using World.cell?_spot hc0
      have hb : x.block < W.heap.size := by simpa [Addr.add] using block_lt_of_cell hc0
      obtain ⟨b, o, s⟩ := x
      simp only at hs
      subst hs
      refine .inr ⟨b, o, rfl, hb, fun i hil => ?_⟩
      obtain ⟨g0, t0⟩ := hi i (by omega)
      rw [addr_add] at g0
      obtain ⟨bb, e, _⟩ := DataW.trod_bool Try.underlying4 t0
      simp at e
      rw [e] at g0
      show W.cell? _ = some (.bool (match V i with | .bool b => b | _ => false))
      rw [e]
      exact g0

theorem open_bools {ts : List TypeId} {ds : List (DataW H)} {d : DataW H} {p : List MemPlace} {a : Option Addr} {len cap : Nat}
    (h : DataW.Trod enc Try.prog W 0 spare held 48 (.slice a len cap) d p) (_ : (DataW.weightsEach Try.prog ts ds).all (· ≤ reachBytes) = true) {j : Nat} (_ : ts[j]? = some 48) (_ : ds[j]? = some d) : ∃ f, BoolsAt W a len f := by
  obtain ⟨fuel, hf⟩ := h
  obtain ⟨K, N, C, f, e, hb⟩ := bools_of_trod (v := .slice a len cap) (by simpa [Value.cells] using hf)
  injection e with e1 e2 e3
  subst e1 e2 e3
  exact ⟨f, hb⟩


/-- ints that came in -/
theorem open_is {ts : List TypeId} {ds : List (DataW H)} {d : DataW H} {p : List MemPlace} {a : Option Addr} {len cap : Nat}
    (h : DataW.Trod enc Try.prog W 0 spare held 41 (.slice a len cap) d p) (_ : (DataW.weightsEach Try.prog ts ds).all (· ≤ reachBytes) = true) {j : Nat} (_ : ts[j]? = some 41) (_ : ds[j]? = some d) :
    ∃ f : Nat → Int, Is W a len f := by
  obtain ⟨fuel, hf⟩ := h
  rcases open_ints Try.underlying41 Try.underlying3 cells_int hf with ⟨hcs, _⟩ | ⟨x, n, c, zs, hcs, _, hl, hm, hz, _, hcell, hwz⟩
  · simp [Value.cells] at hcs
    obtain ⟨rfl, rfl, rfl⟩ := hcs
    exact ⟨fun _ => 0, fun _ => by decide, .inl rfl⟩
  · simp [Value.cells] at hcs
    obtain ⟨rfl, rfl, rfl⟩ := hcs
    have hlen : len ≤ zs.length := by rw [hz]; split <;> omega
    have hb : ∀ i, -9223372036854775808 ≤ zs.getD i 0 ∧ zs.getD i 0 ≤ 9223372036854775807 := fun i => by
      rw [List.getD_eq_getElem?_getD]
      cases hx : zs[i]? with
      | none => simp
      | some n => exact bounds_i64 (hwz n (List.mem_of_getElem? hx))
    refine ⟨fun i => zs.getD i 0, hb, ?_⟩
    rcases Nat.eq_zero_or_pos len with h0 | h0
    · exact .inl h0
    · have hc0 := hcell 0 (by omega)
      have hs : x.spot = none := by simpa [Addr.add] using World.cell?_spot hc0
      have hbl : x.block < W.heap.size := by simpa [Addr.add] using block_lt_of_cell hc0
      obtain ⟨b, o, s⟩ := x
      simp only at hs
      subst hs
      refine .inr ⟨b, o, rfl, hbl, fun i hi => ?_⟩
      have h1 := hcell i (by omega)
      rw [addr_add] at h1
      exact h1

end
end Go.Proofs.Ytnpgmiokimahiaa
