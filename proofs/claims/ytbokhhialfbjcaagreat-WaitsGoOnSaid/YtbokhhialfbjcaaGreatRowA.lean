/-
  Things that are done, as they came in.
-/
import Derived.Test.YtbokhhialfbjcaaGreatRow10
namespace Go.Proofs.YtbokhhialfbjcaaGreat
set_option maxRecDepth 100000
open Go.ChangeShapes Go.WideShapes Go.ChangeAt Go.RowKit

theorem cells_act : Tryz.prog.cellsOf 55 = 4 := by kernel_rfl
theorem act_fields : ∃ f0 f1 f2 f3 : Field, Tryz.prog.underlying 55 = some (.struct #[f0, f1, f2, f3]) ∧ (f0.offset = 0 ∧ f1.offset = 1 ∧ f2.offset = 2 ∧ f3.offset = 3) ∧ (f0.type = 3 ∧ f1.type = 3 ∧ f2.type = 3 ∧ f3.type = 3) :=
  ⟨_, _, _, _, Tryz.underlying55, ⟨rfl, rfl, rfl, rfl⟩, rfl, rfl, rfl, rfl⟩

/-- things that are done, that came in -/
theorem open_acts {H : Type} {enc : TypeId × Value → H} {W : World} {spare : Nat → Bool} {held : Bool} {ts : List TypeId} {ds : List (DataW H)} {d : DataW H} {p : List MemPlace} {a : Option Addr} {len cap : Nat}
    (h : DataW.Trod enc Tryz.prog W 0 spare held 22 (.slice a len cap) d p) (_ : (DataW.weightsEach Tryz.prog ts ds).all (· ≤ reachBytes) = true) {j : Nat} (_ : ts[j]? = some 22) (_ : ds[j]? = some d) :
    ∃ q : Nat → Lk, Acts W a len (fun i => (q i).b) (fun i => (q i).x) (fun i => (q i).h) (fun i => (q i).k) := by
  obtain ⟨fuel, hf⟩ := h
  obtain ⟨f0, f1, f2, f3, hu, ⟨o0, o1, o2, o3⟩, t0, t1, t2, t3⟩ := act_fields
  rcases Go.Deep.open_slice Tryz.underlying22 hf with ⟨hcs, _⟩ | ⟨x, n, c, m, k, D, Pl, hcs, _, hl, hm, hmm, _, hi⟩
  · simp [Value.cells] at hcs
    obtain ⟨rfl, rfl, rfl⟩ := hcs
    exact ⟨fun _ => dfl, .inl rfl⟩
  · simp [Value.cells] at hcs
    obtain ⟨rfl, rfl, rfl⟩ := hcs
    have hlm : len ≤ m := by rw [hmm]; split <;> omega
    have each : ∀ i, ∃ q : Lk, i < len → (W.cell? (x.add (i * 4)) = some (.int .i64 q.b) ∧ W.cell? (x.add (i * 4 + 1)) = some (.int .i64 q.x) ∧ W.cell? (x.add (i * 4 + 2)) = some (.int .i64 q.h) ∧ W.cell? (x.add (i * 4 + 3)) = some (.int .i64 q.k)) := fun i => by
      by_cases hil : i < len
      · obtain ⟨cs', h1, h2⟩ := hi i (by omega)
        rw [cells_act] at h1
        obtain ⟨_, hlen, hcell⟩ := World.cells?_some h1
        obtain ⟨xs, k', _, _, _, hxl, hf⟩ := DataW.trod_struct hu h2
        match xs, hxl, cs', hlen with
        | [y0, y1, y2, y3], _, [v0, v1, v2, v3], _ =>
          have g0 := hf 0 f0 rfl
          have g1 := hf 1 f1 rfl
          have g2 := hf 2 f2 rfl
          have g3 := hf 3 f3 rfl
          simp [o0, o1, o2, o3, t0, t1, t2, t3, cells_int] at g0 g1 g2 g3
          have e0 := hcell 0 (by omega)
          have e1 := hcell 1 (by omega)
          have e2 := hcell 2 (by omega)
          have e3 := hcell 3 (by omega)
          rw [Go.Deep.add_add] at e0 e1 e2 e3
          obtain ⟨z0, w0, _, _⟩ := DataW.trod_int Tryz.underlying3 g0
          obtain ⟨z1, w1, _, _⟩ := DataW.trod_int Tryz.underlying3 g1
          obtain ⟨z2, w2, _, _⟩ := DataW.trod_int Tryz.underlying3 g2
          obtain ⟨z3, w3, _, _⟩ := DataW.trod_int Tryz.underlying3 g3
          simp at w0 w1 w2 w3
          subst w0 w1 w2 w3
          exact ⟨⟨z0, z1, z2, z3⟩, fun _ => ⟨by simpa using e0, by simpa using e1, by simpa using e2, by simpa using e3⟩⟩
      · exact ⟨dfl, fun h => absurd h hil⟩
    obtain ⟨q, hq⟩ := Classical.skolem.1 each
    refine ⟨q, ?_⟩
    rcases Nat.eq_zero_or_pos len with h0 | h0
    · exact .inl h0
    · have hc0 := (hq 0 h0).1
      have hs : x.spot = none := by simpa [Addr.add] using World.cell?_spot hc0
      have hb : x.block < W.heap.size := by simpa [Addr.add] using block_lt_of_cell hc0
      obtain ⟨b, o, s⟩ := x
      simp only at hs
      subst hs
      refine .inr ⟨b, o, rfl, hb, fun i hil => ?_⟩
      obtain ⟨g0, g1, g2, g3⟩ := hq i hil
      rw [addr_add] at g0 g1 g2 g3
      exact ⟨g0, g1, g2, g3⟩

end Go.Proofs.YtbokhhialfbjcaaGreat
