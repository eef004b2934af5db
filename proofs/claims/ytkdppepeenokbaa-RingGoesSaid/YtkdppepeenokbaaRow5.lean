/-
  How the arguments of a statement on rings are opened: ints, a ring by value, a slice of ints that came in.
-/
import Derived.Test.YtkdppepeenokbaaRows
import Derived.Test.YtkdppepeenokbaaSame
import Derived.ProofKit
import Derived.SizedLaws
import Derived.OpenShut
import Derived.ShutString
import Derived.ChangeOld
import Derived.Carry
import Derived.Lib.SmallJoins
namespace Go.Proofs.Ytkdppepeenokbaa
open Go.ChangeShapes Go.WideShapes Go.ChangeAt Go.RowKit Go.Joins

theorem rowOwn : ownKnob Try.prog.godebug = none := by kernel_rfl
theorem rowLaidOut : laidOutB Try.prog = true := by kernel_rfl
theorem cells_ring : Try.prog.cellsOf 23 = 4 := by kernel_rfl
theorem cells_int : Try.prog.cellsOf 3 = 1 := by kernel_rfl

/-- a ring by value, as it came in, and as it is behind the call -/
theorem open_rg {H : Type} {enc : TypeId × Value → H} {W : World} {base : Nat} {v : Value} {d : DataW H} {p : List MemPlace}
    (hv : Value.okWide Try.prog W .any base 23 v) (h : DataW.Trod enc Try.prog W 0 (fun _ => true) true 23 v d p) :
    ∃ r : Rg, v = rgV r ∧ d = .agg [.lit (.int .i64 r.F), .lit (.int .i64 r.S), .lit (.int .i64 r.H), .lit (.int .i64 r.T)] ∧ p = [] ∧ r.Wf ∧
      ∀ (W' : World) (sp : Nat → Bool), DataW.Trod enc Try.prog W' 0 sp true 23 (rgV r) (.agg [.lit (.int .i64 r.F), .lit (.int .i64 r.S), .lit (.int .i64 r.H), .lit (.int .i64 r.T)]) [] := by
  obtain ⟨c0, c1, c2, c3, y0, y1, y2, y3, m, rfl, rfl, rfl, hy0, hy1, hy2, hy3⟩ := open_agg4 Try.underlying23 (by kernel_rfl) cells_ring hv h
  obtain ⟨F, e0, rfl, w0⟩ := DataW.trod_int Try.underlying3 hy0
  obtain ⟨S, e1, rfl, w1⟩ := DataW.trod_int Try.underlying3 hy1
  obtain ⟨H', e2, rfl, w2⟩ := DataW.trod_int Try.underlying3 hy2
  obtain ⟨T, e3, rfl, w3⟩ := DataW.trod_int Try.underlying3 hy3
  simp at e0 e1 e2 e3
  subst e0 e1 e2 e3
  have b0 : -9223372036854775808 ≤ F ∧ F ≤ 9223372036854775807 := bounds_i64 w0
  have b1 : -9223372036854775808 ≤ S ∧ S ≤ 9223372036854775807 := bounds_i64 w1
  have b2 : -9223372036854775808 ≤ H' ∧ H' ≤ 9223372036854775807 := bounds_i64 w2
  have b3 : -9223372036854775808 ≤ T ∧ T ≤ 9223372036854775807 := bounds_i64 w3
  refine ⟨⟨F, S, H', T⟩, rfl, rfl, rfl, ⟨?_, ?_, ?_, ?_⟩, fun W' sp => ?_⟩
  · simp only; omega
  · simp only; omega
  · simp only; omega
  · simp only; omega
  · exact shut_agg4 (y0 := (.lit (.int .i64 F), [])) (y1 := (.lit (.int .i64 S), [])) (y2 := (.lit (.int .i64 H'), [])) (y3 := (.lit (.int .i64 T), [])) Try.underlying23 (by kernel_rfl) cells_ring
      ⟨1, by simp [DataW.trod, Try.underlying3, w0]⟩ ⟨1, by simp [DataW.trod, Try.underlying3, w1]⟩ ⟨1, by simp [DataW.trod, Try.underlying3, w2]⟩ ⟨1, by simp [DataW.trod, Try.underlying3, w3]⟩

theorem add_none (b o i : Nat) : (⟨b, o, none⟩ : Addr).add i = ⟨b, o + i, none⟩ := by
  unfold Addr.add
  split
  · next h => subst h; rfl
  · rfl

/-- ints lie from the address on, len of them, each as Go has them -/
structure Is (W : World) (a : Option Addr) (len : Nat) (f : Nat → Int) : Prop where
  bd : ∀ i, -9223372036854775808 ≤ f i ∧ f i ≤ 9223372036854775807
  rd : len = 0 ∨ ∃ b o, a = some ⟨b, o, none⟩ ∧ b < W.heap.size ∧ ∀ i, i < len → W.cell? ⟨b, o + i, none⟩ = some (.int .i64 (f i))

/-- ints that came in -/
theorem open_is {H : Type} {enc : TypeId × Value → H} {W : World} {spare : Nat → Bool} {held : Bool} {ts : List TypeId} {ds : List (DataW H)} {d : DataW H} {p : List MemPlace} {a : Option Addr} {len cap : Nat}
    (h : DataW.Trod enc Try.prog W 0 spare held 48 (.slice a len cap) d p) (_ : (DataW.weightsEach Try.prog ts ds).all (· ≤ reachBytes) = true) {j : Nat} (_ : ts[j]? = some 48) (_ : ds[j]? = some d) :
    ∃ f : Nat → Int, Is W a len f := by
  obtain ⟨fuel, hf⟩ := h
  rcases open_ints Try.underlying48 Try.underlying3 cells_int hf with ⟨hcs, _⟩ | ⟨x, n, c, zs, hcs, _, hl, hm, hz, _, hcell, hwz⟩
  · simp [Value.cells] at hcs
    obtain ⟨rfl, rfl, rfl⟩ := hcs
    exact ⟨fun _ => 0, fun _ => by decide, .inl rfl⟩
  · simp [Value.cells] at hcs
    obtain ⟨rfl, rfl, rfl⟩ := hcs
    have hlen : len ≤ zs.length := by rw [hz]; split <;> omega
    have hb : ∀ i, -9223372036854775808 ≤ zs.getD i 0 ∧ zs.getD i 0 ≤ 9223372036854775807 := fun i => by
      rw [List.getD_eq_getElem?_getD]
      cases hx : zs[i]? with
      | none => simp
      | some n => exact bounds_i64 (hwz n (List.mem_of_getElem? hx))
    refine ⟨fun i => zs.getD i 0, hb, ?_⟩
    rcases Nat.eq_zero_or_pos len with h0 | h0
    · exact .inl h0
    · have hc0 := hcell 0 (by omega)
      have hs : x.spot = none := by simpa [Addr.add] using World.cell?_spot hc0
      have hbl : x.block < W.heap.size := by simpa [Addr.add] using block_lt_of_cell hc0
      obtain ⟨b, o, s⟩ := x
      simp only at hs
      subst hs
      refine .inr ⟨b, o, rfl, hbl, fun i hi => ?_⟩
      have h1 := hcell i (by omega)
      rw [add_none] at h1
      exact h1

end Go.Proofs.Ytkdppepeenokbaa
