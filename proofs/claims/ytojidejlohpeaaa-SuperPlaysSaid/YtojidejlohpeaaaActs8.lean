/-
  Things to do with a super's device that came in: as they lie there, and how a statement's argument is opened to them.
-/
import Derived.Test.YtojidejlohpeaaaRow8
import Derived.Deep.Slices
namespace Go.Proofs.Ytojidejlohpeaaa
set_option maxRecDepth 100000
open Go.RowKit Sup

/-- one thing that is done -/
structure Deed where
  what : Int
  at_ : Int
  s : Sup
  b : List UInt8
  keep : Nat → Bool
  kn : Nat

/-- what is done lies there -/
def DeedAt (w : World) (b o : Nat) (x : Deed) : Prop :=
  w.cell? ⟨b, o, none⟩ = some (.int .i64 x.what) ∧ w.cell? ⟨b, o + 1, none⟩ = some (.int .i64 x.at_) ∧ (-9223372036854775808 ≤ x.at_ ∧ x.at_ < 9223372036854775808) ∧
  (w.cell? ⟨b, o + 2, none⟩ = some (.int .i64 x.s.V) ∧ w.cell? ⟨b, o + 3, none⟩ = some (.int .i64 x.s.E) ∧ w.cell? ⟨b, o + 4, none⟩ = some (.int .i64 x.s.B) ∧ w.cell? ⟨b, o + 5, none⟩ = some (.int .i64 x.s.C) ∧
    w.cell? ⟨b, o + 6, none⟩ = some (.int .i64 x.s.L) ∧ w.cell? ⟨b, o + 7, none⟩ = some (.int .i64 x.s.H) ∧ w.cell? ⟨b, o + 8, none⟩ = some (.int .i64 x.s.A)) ∧
  (∃ A c, w.cell? ⟨b, o + 9, none⟩ = some (.slice A x.b.length c) ∧ Rd w w.heap.size A x.b) ∧
  (∃ K c, w.cell? ⟨b, o + 10, none⟩ = some (.slice K x.kn c) ∧ BoolsAt w K x.kn x.keep)
def Deeds (w : World) (a : Option Addr) (len : Nat) (X : Nat → Deed) : Prop :=
  len = 0 ∨ ∃ b o, a = some ⟨b, o, none⟩ ∧ b < w.heap.size ∧ ∀ i, i < len → DeedAt w b (o + i * 11) (X i)

section
open Go.ChangeShapes Go.WideShapes Go.ChangeAt
variable {H : Type} {enc : TypeId × Value → H} {W : World} {spare : Nat → Bool} {held : Bool}

theorem cells_bytes_ : Try.prog.cellsOf 24 = 1 := by kernel_rfl
theorem cells_bools : Try.prog.cellsOf 51 = 1 := by kernel_rfl
theorem cells_act : Try.prog.cellsOf 53 = 11 := by kernel_rfl

theorem bytes_of_trod {n : Nat} {v : Value} {y : DataW H × List MemPlace} (h : DataW.trod enc Try.prog W 0 spare held n 24 [v] = some y) : ∃ (A : Option Addr) (C : Nat) (X : List UInt8), v = .slice A X.length C ∧ Rd W W.heap.size A X := by
  rcases open_ints Try.underlying24 Try.underlying5 cells_u8 h with ⟨hcs, _⟩ | ⟨x, n, c, zs, hcs, _, hl, hm, hz, _, hcell, hwz⟩
  · simp at hcs
    exact ⟨none, 0, [], hcs, .nil _ _ _⟩
  · simp at hcs
    have hlen : n ≤ zs.length := by rw [hz]; split <;> omega
    obtain ⟨l, hl1, hl2⟩ := bytes_of_wf zs hwz
    refine ⟨some x, c, l.take n, by rw [hcs, List.length_take]; congr 1; omega, cells_bytes fun i y hy => ?_⟩
    rw [List.getElem?_take] at hy
    split at hy
    · rw [hcell i (by omega), hl2 i y hy]; rfl
    · cases hy

theorem bounds_int {z : Int} (h : (Lit.int .i64 z).wf = true) : -9223372036854775808 ≤ z ∧ z < 9223372036854775808 := by
  simp [Lit.wf] at h
  have h1 : (-9223372036854775808 : Int) ≤ z := h.1
  exact ⟨h1, by omega⟩

theorem deed_fields : ∃ f0 f1 f2 f3 f4 : Field, Try.prog.underlying 53 = some (.struct #[f0, f1, f2, f3, f4]) ∧ (f0.offset = 0 ∧ f1.offset = 1 ∧ f2.offset = 2 ∧ f3.offset = 9 ∧ f4.offset = 10) ∧ (f0.type = 3 ∧ f1.type = 3 ∧ f2.type = 23 ∧ f3.type = 24 ∧ f4.type = 51) :=
  ⟨_, _, _, _, _, Try.underlying53, ⟨rfl, rfl, rfl, rfl, rfl⟩, rfl, rfl, rfl, rfl, rfl⟩

theorem open_deeds {ts : List TypeId} {ds : List (DataW H)} {d : DataW H} {p : List MemPlace} {a : Option Addr} {len cap : Nat}
    (h : DataW.Trod enc Try.prog W 0 spare held 43 (.slice a len cap) d p) (_ : (DataW.weightsEach Try.prog ts ds).all (· ≤ reachBytes) = true) {j : Nat} (_ : ts[j]? = some 43) (_ : ds[j]? = some d) : ∃ X, Deeds W a len X := by
  obtain ⟨fuel, hf⟩ := h
  obtain ⟨f0, f1, f2, f3, f4, hu, ⟨o0, o1, o2, o3, o4⟩, t0, t1, t2, t3, t4⟩ := deed_fields
  rcases Go.Deep.open_slice Try.underlying43 hf with ⟨hcs, _⟩ | ⟨x, n, c, m, k, D, Pl, hcs, _, hl, hm, hmm, _, hi⟩
  · simp [Value.cells] at hcs
    obtain ⟨rfl, rfl, rfl⟩ := hcs
    exact ⟨fun _ => ⟨0, 0, Sup.zero, [], fun _ => false, 0⟩, .inl rfl⟩
  · simp [Value.cells] at hcs
    obtain ⟨rfl, rfl, rfl⟩ := hcs
    have hlm : len ≤ m := by rw [hmm]; split <;> omega
    have each : ∀ i, ∃ q : Deed, i < len → (W.cell? (x.add (i * 11)) = some (.int .i64 q.what) ∧ W.cell? (x.add (i * 11 + 1)) = some (.int .i64 q.at_) ∧ (-9223372036854775808 ≤ q.at_ ∧ q.at_ < 9223372036854775808) ∧
        (W.cell? (x.add (i * 11 + 2)) = some (.int .i64 q.s.V) ∧ W.cell? (x.add (i * 11 + 3)) = some (.int .i64 q.s.E) ∧ W.cell? (x.add (i * 11 + 4)) = some (.int .i64 q.s.B) ∧ W.cell? (x.add (i * 11 + 5)) = some (.int .i64 q.s.C) ∧
          W.cell? (x.add (i * 11 + 6)) = some (.int .i64 q.s.L) ∧ W.cell? (x.add (i * 11 + 7)) = some (.int .i64 q.s.H) ∧ W.cell? (x.add (i * 11 + 8)) = some (.int .i64 q.s.A)) ∧
        (∃ A c, W.cell? (x.add (i * 11 + 9)) = some (.slice A q.b.length c) ∧ Rd W W.heap.size A q.b) ∧ (∃ K c, W.cell? (x.add (i * 11 + 10)) = some (.slice K q.kn c) ∧ BoolsAt W K q.kn q.keep)) := fun i => by
      by_cases hil : i < len
      · obtain ⟨cs', h1, h2⟩ := hi i (by omega)
        rw [cells_act] at h1
        obtain ⟨_, hlen, hcell⟩ := World.cells?_some h1
        obtain ⟨xs, k', _, _, _, hxl, hf⟩ := DataW.trod_struct hu h2
        match xs, hxl, cs', hlen with
        | [y0, y1, y2, y3, y4], _, [v0, v1, v2, v3, v4, v5, v6, v7, v8, v9, v10], _ =>
          have g0 := hf 0 f0 rfl
          have g1 := hf 1 f1 rfl
          have g2 := hf 2 f2 rfl
          have g3 := hf 3 f3 rfl
          have g4 := hf 4 f4 rfl
          simp [o0, o1, o2, o3, o4, t0, t1, t2, t3, t4, cells_int, cells_bytes_, cells_bools, cells_sup] at g0 g1 g2 g3 g4
          have e0 := hcell 0 (by omega)
          have e1 := hcell 1 (by omega)
          have e2 := hcell 2 (by omega)
          have e3 := hcell 3 (by omega)
          have e4 := hcell 4 (by omega)
          have e5 := hcell 5 (by omega)
          have e6 := hcell 6 (by omega)
          have e7 := hcell 7 (by omega)
          have e8 := hcell 8 (by omega)
          have e9 := hcell 9 (by omega)
          have e10 := hcell 10 (by omega)
          rw [Go.Deep.add_add] at e0 e1 e2 e3 e4 e5 e6 e7 e8 e9 e10
          obtain ⟨z0, w0, _, _⟩ := DataW.trod_int Try.underlying3 g0
          obtain ⟨z1, w1, _, hw1⟩ := DataW.trod_int Try.underlying3 g1
          obtain ⟨s, hs⟩ := sup_of_cells (cl := [v2, v3, v4, v5, v6, v7, v8]) rfl g2
          obtain ⟨A, C, X, w3, hX⟩ := bytes_of_trod g3
          obtain ⟨K, N, C', f, w4, hK⟩ := bools_of_trod g4
          simp at w0 w1
          simp [supC] at hs
          obtain ⟨s0, s1, s2, s3, s4, s5, s6⟩ := hs
          subst w0 w1 s0 s1 s2 s3 s4 s5 s6 w3 w4
          exact ⟨⟨z0, z1, s, X, f, N⟩, fun _ => ⟨by simpa using e0, by simpa using e1, bounds_int hw1, ⟨by simpa using e2, by simpa using e3, by simpa using e4, by simpa using e5, by simpa using e6, by simpa using e7, by simpa using e8⟩, ⟨A, C, by simpa using e9, hX⟩, ⟨K, C', by simpa using e10, hK⟩⟩⟩
      · exact ⟨⟨0, 0, Sup.zero, [], fun _ => false, 0⟩, fun h => absurd h hil⟩
    obtain ⟨q, hq⟩ := Classical.skolem.1 each
    refine ⟨q, ?_⟩
    rcases Nat.eq_zero_or_pos len with h0 | h0
    · exact .inl h0
    · have hc0 := (hq 0 h0).1
      have hs : x.spot = none := by simpa [Addr.add] using World.cell?_spot hc0
      have hb : x.block < W.heap.size := by simpa [Addr.add] using block_lt_of_cell hc0
      obtain ⟨b, o, s⟩ := x
      simp only at hs
      subst hs
      refine .inr ⟨b, o, rfl, hb, fun i hil => ?_⟩
      have h1 := hq i hil
      simp only [addr_add, ← Nat.add_assoc] at h1
      exact h1
end

end Go.Proofs.Ytojidejlohpeaaa
