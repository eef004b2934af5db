/-
  Things to do with a pool that came in: how a statement's argument is opened to them.
-/
import Derived.Test.YtnpgmiokimahiaaRow7
import Derived.Test.YtnpgmiokimahiaaAc
import Derived.Deep.Slices
namespace Go.Proofs.Ytnpgmiokimahiaa
set_option maxRecDepth 100000
open Go.RowKit

section
open Go.ChangeShapes Go.WideShapes Go.ChangeAt
variable {H : Type} {enc : TypeId × Value → H} {W : World} {spare : Nat → Bool} {held : Bool}

theorem cells_bytes_ : Try.prog.cellsOf 33 = 1 := by kernel_rfl
theorem cells_act : Try.prog.cellsOf 35 = 4 := by kernel_rfl

theorem bytes_of_trod {n : Nat} {v : Value} {y : DataW H × List MemPlace} (h : DataW.trod enc Try.prog W 0 spare held n 33 [v] = some y) : ∃ (A : Option Addr) (C : Nat) (X : List UInt8), v = .slice A X.length C ∧ Rd W W.heap.size A X ∧ X.length ≤ C := by
  rcases open_ints Try.underlying33 Try.underlying5 cells_u8 h with ⟨hcs, _⟩ | ⟨x, n, c, zs, hcs, _, hl, hm, hz, _, hcell, hwz⟩
  · simp at hcs
    exact ⟨none, 0, [], hcs, .nil _ _ _, Nat.le_refl _⟩
  · simp at hcs
    have hlen : n ≤ zs.length := by rw [hz]; split <;> omega
    obtain ⟨l, hl1, hl2⟩ := bytes_of_wf zs hwz
    refine ⟨some x, c, l.take n, by rw [hcs, List.length_take]; congr 1; omega, cells_bytes fun i y hy => ?_, by rw [List.length_take]; omega⟩
    rw [List.getElem?_take] at hy
    split at hy
    · rw [hcell i (by omega), hl2 i y hy]; rfl
    · cases hy

theorem deed_fields : ∃ f0 f1 f2 f3 : Field, Try.prog.underlying 35 = some (.struct #[f0, f1, f2, f3]) ∧ (f0.offset = 0 ∧ f1.offset = 1 ∧ f2.offset = 2 ∧ f3.offset = 3) ∧ (f0.type = 3 ∧ f1.type = 3 ∧ f2.type = 3 ∧ f3.type = 33) :=
  ⟨_, _, _, _, Try.underlying35, ⟨rfl, rfl, rfl, rfl⟩, rfl, rfl, rfl, rfl⟩

theorem open_deeds {ts : List TypeId} {ds : List (DataW H)} {d : DataW H} {p : List MemPlace} {a : Option Addr} {len cap : Nat}
    (h : DataW.Trod enc Try.prog W 0 spare held 22 (.slice a len cap) d p) (_ : (DataW.weightsEach Try.prog ts ds).all (· ≤ reachBytes) = true) {j : Nat} (_ : ts[j]? = some 22) (_ : ds[j]? = some d) : ∃ X, Deeds W a len X := by
  obtain ⟨fuel, hf⟩ := h
  obtain ⟨f0, f1, f2, f3, hu, ⟨o0, o1, o2, o3⟩, t0, t1, t2, t3⟩ := deed_fields
  rcases Go.Deep.open_slice Try.underlying22 hf with ⟨hcs, _⟩ | ⟨x, n, c, m, k, D, Pl, hcs, _, hl, hm, hmm, _, hi⟩
  · simp [Value.cells] at hcs
    obtain ⟨rfl, rfl, rfl⟩ := hcs
    exact ⟨fun _ => ⟨0, 0, 0, []⟩, .inl rfl⟩
  · simp [Value.cells] at hcs
    obtain ⟨rfl, rfl, rfl⟩ := hcs
    have hlm : len ≤ m := by rw [hmm]; split <;> omega
    have each : ∀ i, ∃ q : Deed, i < len → (W.cell? (x.add (i * 4)) = some (.int .i64 q.what) ∧ W.cell? (x.add (i * 4 + 1)) = some (.int .i64 q.at_) ∧ W.cell? (x.add (i * 4 + 2)) = some (.int .i64 q.lsn) ∧
        (∃ A c, W.cell? (x.add (i * 4 + 3)) = some (.slice A q.b.length c) ∧ Rd W W.heap.size A q.b ∧ q.b.length ≤ c)) := fun i => by
      by_cases hil : i < len
      · obtain ⟨cs', h1, h2⟩ := hi i (by omega)
        rw [cells_act] at h1
        obtain ⟨_, hlen, hcell⟩ := World.cells?_some h1
        obtain ⟨xs, k', _, _, _, hxl, hf⟩ := DataW.trod_struct hu h2
        match xs, hxl, cs', hlen with
        | [y0, y1, y2, y3], _, [v0, v1, v2, v3], _ =>
          have g0 := hf 0 f0 rfl
          have g1 := hf 1 f1 rfl
          have g2 := hf 2 f2 rfl
          have g3 := hf 3 f3 rfl
          simp [o0, o1, o2, o3, t0, t1, t2, t3, cells_int, cells_bytes_] at g0 g1 g2 g3
          have e0 := hcell 0 (by omega)
          have e1 := hcell 1 (by omega)
          have e2 := hcell 2 (by omega)
          have e3 := hcell 3 (by omega)
          rw [Go.Deep.add_add] at e0 e1 e2 e3
          obtain ⟨z0, w0, _, _⟩ := DataW.trod_int Try.underlying3 g0
          obtain ⟨z1, w1, _, _⟩ := DataW.trod_int Try.underlying3 g1
          obtain ⟨z2, w2, _, _⟩ := DataW.trod_int Try.underlying3 g2
          obtain ⟨A, C, X, w3, hX, hC⟩ := bytes_of_trod g3
          simp at w0 w1 w2
          subst w0 w1 w2 w3
          exact ⟨⟨z0, z1, z2, X⟩, fun _ => ⟨by simpa using e0, by simpa using e1, by simpa using e2, A, C, by simpa using e3, hX, hC⟩⟩
      · exact ⟨⟨0, 0, 0, []⟩, fun h => absurd h hil⟩
    obtain ⟨q, hq⟩ := Classical.skolem.1 each
    refine ⟨q, ?_⟩
    rcases Nat.eq_zero_or_pos len with h0 | h0
    · exact .inl h0
    · have hc0 := (hq 0 h0).1
      have hs : x.spot = none := by simpa [Addr.add] using World.cell?_spot hc0
      have hb : x.block < W.heap.size := by simpa [Addr.add] using block_lt_of_cell hc0
      obtain ⟨b, o, s⟩ := x
      simp only at hs
      subst hs
      refine .inr ⟨b, o, rfl, hb, fun i hil => ?_⟩
      have h1 := hq i hil
      simp only [addr_add, ← Nat.add_assoc] at h1
      exact h1
end
end Go.Proofs.Ytnpgmiokimahiaa
