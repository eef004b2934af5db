/-
  How the arguments of a statement are opened: a slice of bytes that came in, as a list of bytes, and its bound.
-/
import Derived.Test.YtjpnihmijnpjcaaRows
import Derived.Test.YtjpnihmijnpjcaaMem
import Derived.WalkKit
import Derived.ProofKit
import Derived.SizedLaws
import Derived.OpenShut
import Derived.ShutString
import Derived.ChangeOld
import Derived.Below
namespace Go.Proofs.Ytjpnihmijnpjcaa
set_option maxRecDepth 100000
open Go.ChangeShapes Go.WideShapes Go.ChangeAt Go.RowKit

theorem rowOwn : ownKnob Try.prog.godebug = none := by kernel_rfl
theorem rowLaidOut : laidOutB Try.prog = true := by kernel_rfl
theorem bytes_u8 : Try.prog.bytesOf 5 = 1 := by kernel_rfl
theorem cells_u8 : Try.prog.cellsOf 5 = 1 := by kernel_rfl

/-- a slice of bytes that came in -/
structure Bt (W : World) (a : Option Addr) (len cap : Nat) (l : List UInt8) : Prop where
  len_ : l.length = len
  cap_ : len ≤ cap
  rd : Rd W W.heap.size a l
  reach : len ≤ 140737488351232

/-- bytes out of numbers that fit -/
theorem bytes_of_wf (zs : List Int) (h : ∀ n ∈ zs, (Lit.int .u8 n).wf = true) : ∃ l : List UInt8, l.length = zs.length ∧ ∀ (i : Nat) (x : UInt8), l[i]? = some x → zs.getD i 0 = (x.toNat : Int) := by
  refine ⟨zs.map fun n => UInt8.ofNat n.toNat, by simp, fun i x hx => ?_⟩
  rw [List.getElem?_map] at hx
  cases hz : zs[i]? with
  | none => rw [hz] at hx; cases hx
  | some n =>
    rw [hz] at hx
    injection hx with hx
    have hmem : n ∈ zs := List.mem_of_getElem? hz
    have hw := h n hmem
    have hb : 0 ≤ n ∧ n ≤ 255 := bounds_u8 hw
    rw [List.getD_eq_getElem?_getD, hz, ← hx]
    simp
    omega

theorem cells_bytes {W : World} {x : Addr} {l : List UInt8} (hc : ∀ i y, l[i]? = some y → W.cell? (x.add i) = some (byteV y)) : Rd W W.heap.size (some x) l := by
  rcases l with _ | ⟨y0, r⟩
  · exact .nil _ _ _
  · have h0 := hc 0 y0 rfl
    have hs : x.spot = none := by
      have := World.cell?_spot h0
      simpa [Addr.add] using this
    have hb : x.block < W.heap.size := by
      have := block_lt_of_cell h0
      simpa [Addr.add] using this
    obtain ⟨b, o, s⟩ := x
    simp only at hs
    subst hs
    refine .inr ⟨b, o, rfl, hb, fun j y hy => ?_⟩
    have := hc j y hy
    unfold Addr.add at this
    split at this
    · next e => subst e; exact this
    · exact this

theorem open_bytes {H : Type} {enc : TypeId × Value → H} {W : World} {spare : Nat → Bool} {held : Bool} {ts : List TypeId} {ds : List (DataW H)} {d : DataW H} {p : List MemPlace} {a : Option Addr} {len cap : Nat}
    (h : DataW.Trod enc Try.prog W 0 spare held 26 (.slice a len cap) d p) (hsz : (DataW.weightsEach Try.prog ts ds).all (· ≤ reachBytes) = true) {j : Nat} (ht : ts[j]? = some 26) (hd : ds[j]? = some d) :
    ∃ l, Bt W a len cap l := by
  obtain ⟨fuel, hf⟩ := h
  rcases open_ints Try.underlying26 Try.underlying5 cells_u8 hf with ⟨hcs, _⟩ | ⟨x, n, c, zs, hcs, _, hl, hm, hz, hx, hcell, hwz⟩
  · simp [Value.cells] at hcs
    obtain ⟨rfl, rfl, rfl⟩ := hcs
    exact ⟨[], rfl, Nat.le_refl _, .nil _ _ _, by omega⟩
  · simp [Value.cells] at hcs
    obtain ⟨rfl, rfl, rfl⟩ := hcs
    simp only [Prod.mk.injEq] at hx
    obtain ⟨rfl, _⟩ := hx
    have hs := sized_slice hsz ht hd Try.underlying26
    rw [bytes_u8] at hs
    simp only [lits, List.length_map, List.length_take, List.length_drop, reachBytes] at hs
    have hlen : len ≤ zs.length := by rw [hz]; split <;> omega
    obtain ⟨l, hl1, hl2⟩ := bytes_of_wf zs hwz
    refine ⟨l.take len, by rw [List.length_take]; omega, hl, cells_bytes fun i y hy => ?_, by omega⟩
    rw [List.getElem?_take] at hy
    split at hy
    · rw [hcell i (by omega), hl2 i y hy]; rfl
    · cases hy

end Go.Proofs.Ytjpnihmijnpjcaa
