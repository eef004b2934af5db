/-
  How the arguments of a statement are opened: ints, a span by value, slices of ints and of bools that came in.
-/
import Derived.Test.YtimpebilgoekdaaRows
import Derived.Test.YtimpebilgoekdaaFo
import Derived.ProofKit
import Derived.SizedLaws
import Derived.OpenShut
import Derived.ShutString
import Derived.ChangeOld
import Derived.Carry
import Derived.Lib.SmallJoins
import Derived.Deep.Slices
namespace Go.Proofs.Ytimpebilgoekdaa
set_option maxRecDepth 100000
set_option linter.unusedVariables false
open Go.ChangeShapes Go.WideShapes Go.ChangeAt Go.RowKit Go.Joins

theorem rowOwn : ownKnob Try.prog.godebug = none := by kernel_rfl
theorem rowLaidOut : laidOutB Try.prog = true := by kernel_rfl
theorem cells_span : Try.prog.cellsOf 24 = 2 := by kernel_rfl
theorem cells_int : Try.prog.cellsOf 3 = 1 := by kernel_rfl
theorem cells_bool : Try.prog.cellsOf 4 = 1 := by kernel_rfl

/-- a span by value, as it came in, and as it is behind the call -/
theorem open_span {H : Type} {enc : TypeId × Value → H} {W : World} {base : Nat} {v : Value} {d : DataW H} {p : List MemPlace}
    (hv : Value.okWide Try.prog W .any base 24 v) (h : DataW.Trod enc Try.prog W 0 (fun _ => true) true 24 v d p) :
    ∃ a b : Int, v = spV a b ∧ d = .agg [.lit (.int .i64 a), .lit (.int .i64 b)] ∧ p = [] ∧ (okI a ∧ okI b) ∧
      ∀ (W' : World) (sp : Nat → Bool), DataW.Trod enc Try.prog W' 0 sp true 24 (spV a b) (.agg [.lit (.int .i64 a), .lit (.int .i64 b)]) [] := by
  obtain ⟨c0, c1, y0, y1, m, rfl, rfl, rfl, hy0, hy1⟩ := open_agg2 Try.underlying24 (by kernel_rfl) cells_span hv h
  obtain ⟨F, e0, rfl, w0⟩ := DataW.trod_int Try.underlying3 hy0
  obtain ⟨S, e1, rfl, w1⟩ := DataW.trod_int Try.underlying3 hy1
  simp at e0 e1
  subst e0 e1
  have b0 : -9223372036854775808 ≤ F ∧ F ≤ 9223372036854775807 := bounds_i64 w0
  have b1 : -9223372036854775808 ≤ S ∧ S ≤ 9223372036854775807 := bounds_i64 w1
  refine ⟨F, S, rfl, rfl, rfl, ⟨b0, b1⟩, fun W' sp => ?_⟩
  exact shut_agg2 (y0 := (.lit (.int .i64 F), [])) (y1 := (.lit (.int .i64 S), [])) Try.underlying24 (by kernel_rfl) cells_span
      ⟨1, by simp [DataW.trod, Try.underlying3, w0]⟩ ⟨1, by simp [DataW.trod, Try.underlying3, w1]⟩

section
variable {H : Type} {enc : TypeId × Value → H} {W : World} {spare : Nat → Bool} {held : Bool}
/-- ints that came in -/
theorem open_ls {ts : List TypeId} {ds : List (DataW H)} {d : DataW H} {p : List MemPlace} {a : Option Addr} {len cap : Nat}
    (h : DataW.Trod enc Try.prog W 0 (fun _ => true) held 22 (.slice a len cap) d p) (_ : (DataW.weightsEach Try.prog ts ds).all (· ≤ reachBytes) = true) {j : Nat} (_ : ts[j]? = some 22) (_ : ds[j]? = some d) :
    ∃ l : List Int, Ls W a len l ∧ len ≤ cap ∧ (cap = 0 ∨ Go.Proofs.Ytimpebilgoekdaa.Sp a) := by
  obtain ⟨fuel, hf⟩ := h
  rcases open_ints Try.underlying22 Try.underlying3 cells_int hf with ⟨hcs, _⟩ | ⟨x, n, c, zs, hcs, _, hl, hm, hz, _, hcell, hwz⟩
  · simp [Value.cells] at hcs
    obtain ⟨rfl, rfl, rfl⟩ := hcs
    exact ⟨[], ⟨rfl, by simp, .inl rfl⟩, Nat.le_refl _, .inl rfl⟩
  · simp [Value.cells] at hcs
    obtain ⟨rfl, rfl, rfl⟩ := hcs
    simp only [if_true] at hz
    have hlt : (zs.take len).length = len := by rw [List.length_take]; omega
    have hok : ∀ y ∈ zs.take len, okI y := fun y hy => bounds_i64 (hwz y (List.mem_of_mem_take hy))
    rcases Nat.eq_zero_or_pos cap with h0 | h0
    · have : zs.take len = [] := List.eq_nil_of_length_eq_zero (by omega)
      exact ⟨zs.take len, ⟨hlt, hok, .inl this⟩, hl, .inl h0⟩
    · have hc0 := hcell 0 (by omega)
      have hs : x.spot = none := by simpa [Addr.add] using World.cell?_spot hc0
      have hbl : x.block < W.heap.size := by simpa [Addr.add] using block_lt_of_cell hc0
      obtain ⟨b, o, s⟩ := x
      simp only at hs
      subst hs
      refine ⟨zs.take len, ⟨hlt, hok, .inr ⟨b, o, rfl, hbl, fun j u hu => ?_⟩⟩, hl, .inr (.inr ⟨b, o, rfl⟩)⟩
      rw [ri_cells, List.getElem?_map, List.getElem?_take] at hu
      split at hu
      · next hj =>
        have h1 := hcell j (by omega)
        rw [addr_add] at h1
        rw [h1]
        rw [List.getElem?_eq_getElem (show j < zs.length by omega)] at hu
        rw [List.getD_eq_getElem?_getD, List.getElem?_eq_getElem (show j < zs.length by omega)]
        simpa using hu
      · simp at hu

theorem bools_of_trod {n : Nat} {v : Value} {y : DataW H × List MemPlace} (h : DataW.trod enc Try.prog W 0 spare held n 48 [v] = some y) : ∃ (K : Option Addr) (N C : Nat) (f : Nat → Bool), v = .slice K N C ∧ BoolsAt W K N f := by
  rcases Go.Deep.open_slice1 Try.underlying48 cells_bool h with ⟨hcs, _⟩ | ⟨x, len, c, m, k, V, D, Pl, hcs, _, hl, hm, hmm, _, hi⟩
  · simp at hcs
    exact ⟨none, 0, 0, fun _ => false, hcs, .inl rfl⟩
  · simp at hcs
    have hlm : len ≤ m := by rw [hmm]; split <;> omega
    refine ⟨some x, len, c, fun i => match V i with | .bool b => b | _ => false, hcs, ?_⟩
    rcases Nat.eq_zero_or_pos len with h0 | h0
    · exact .inl h0
    · have hc0 := (hi 0 (by omega)).1
      have hs : x.spot = none := by simpa [Addr.add] using World.cell?_spot hc0
      have hb : x.block < W.heap.size := by simpa [Addr.add] using block_lt_of_cell hc0
      obtain ⟨b, o, s⟩ := x
      simp only at hs
      subst hs
      refine .inr ⟨b, o, rfl, hb, fun i hil => ?_⟩
      obtain ⟨g0, t0⟩ := hi i (by omega)
      rw [addr_add] at g0
      obtain ⟨bb, e, _⟩ := DataW.trod_bool Try.underlying4 t0
      simp at e
      rw [e] at g0
      show W.cell? _ = some (.bool (match V i with | .bool b => b | _ => false))
      rw [e]
      exact g0

theorem open_bools {ts : List TypeId} {ds : List (DataW H)} {d : DataW H} {p : List MemPlace} {a : Option Addr} {len cap : Nat}
    (h : DataW.Trod enc Try.prog W 0 spare held 48 (.slice a len cap) d p) (_ : (DataW.weightsEach Try.prog ts ds).all (· ≤ reachBytes) = true) {j : Nat} (_ : ts[j]? = some 48) (_ : ds[j]? = some d) : ∃ f, BoolsAt W a len f := by
  obtain ⟨fuel, hf⟩ := h
  obtain ⟨K, N, C, f, e, hb⟩ := bools_of_trod (v := .slice a len cap) (by simpa [Value.cells] using hf)
  injection e with e1 e2 e3
  subst e1 e2 e3
  exact ⟨f, hb⟩
end
end Go.Proofs.Ytimpebilgoekdaa
