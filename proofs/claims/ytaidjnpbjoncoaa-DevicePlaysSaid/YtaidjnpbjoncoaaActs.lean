/-
  Bools, and things to do, that came in: as they lie there, and how a statement's arguments are opened to them.
-/
import Derived.Test.YtaidjnpbjoncoaaFree
import Derived.Test.YtaidjnpbjoncoaaRow
import Derived.Deep.Slices
namespace Go.Proofs.Ytaidjnpbjoncoaa
open Go.RowKit

/-- bools that came in -/
def BoolsAt (w : World) (A : Option Addr) (n : Nat) (f : Nat → Bool) : Prop :=
  n = 0 ∨ ∃ b o, A = some ⟨b, o, none⟩ ∧ b < w.heap.size ∧ ∀ i, i < n → w.cell? ⟨b, o + i, none⟩ = some (.bool (f i))
theorem BoolsAt.below {w W : World} {A : Option Addr} {n : Nat} {f : Nat → Bool} (h : BoolsAt w A n f) (hb : Below w.heap.size w W) : BoolsAt W A n f := by
  rcases h with h | ⟨b, o, e, hl, hc⟩
  · exact .inl h
  · exact .inr ⟨b, o, e, Nat.lt_of_lt_of_le hl hb.size, fun i hi => (hb.cell (p := ⟨b, o + i, none⟩) hl).trans (hc i hi)⟩
theorem Dr.bools {w W : World} {p L M : Nat} {D : Dv} (h : Dr w W p L M D) {A : Option Addr} {n : Nat} {f : Nat → Bool} (hk : BoolsAt w A n f) : Bools (DS p L M) W A n f := by
  rcases hk with h0 | ⟨b, o, e, hl, hc⟩
  · exact .inl h0
  · refine .inr ⟨b, o, e, fun i hi V hV => ?_⟩
    have h1 : W.cell? ⟨b, o + i, none⟩ = some (.bool (f i)) := (h.bel.cell (p := ⟨b, o + i, none⟩) hl).trans (hc i hi)
    exact hV.cell h1 (fun hk => by
      have h2 := h.lo
      have hb : b < w.heap.size := hl
      rcases hk with e2 | e2 | e2
      · have e3 : b = p := e2; omega
      · have e3 : b = L := e2; omega
      · have e3 : b = M := e2; omega)

/-- one thing that is done -/
structure Deed where
  what : Int
  at_ : Int
  b : List UInt8
  keep : Nat → Bool
  kn : Nat

/-- what is done lies there -/
def DeedAt (w : World) (b o : Nat) (x : Deed) : Prop :=
  w.cell? ⟨b, o, none⟩ = some (.int .i64 x.what) ∧ w.cell? ⟨b, o + 1, none⟩ = some (.int .i64 x.at_) ∧ (-9223372036854775808 ≤ x.at_ ∧ x.at_ < 9223372036854775808) ∧
  (∃ A c, w.cell? ⟨b, o + 2, none⟩ = some (.slice A x.b.length c) ∧ Rd w w.heap.size A x.b) ∧
  (∃ K c, w.cell? ⟨b, o + 3, none⟩ = some (.slice K x.kn c) ∧ BoolsAt w K x.kn x.keep)
def Deeds (w : World) (a : Option Addr) (len : Nat) (X : Nat → Deed) : Prop :=
  len = 0 ∨ ∃ b o, a = some ⟨b, o, none⟩ ∧ b < w.heap.size ∧ ∀ i, i < len → DeedAt w b (o + i * 4) (X i)

section
open Go.ChangeShapes Go.WideShapes Go.ChangeAt
variable {H : Type} {enc : TypeId × Value → H} {W : World} {spare : Nat → Bool} {held : Bool}

theorem cells_bool : Try.prog.cellsOf 4 = 1 := by kernel_rfl
theorem cells_int : Try.prog.cellsOf 3 = 1 := by kernel_rfl
theorem cells_bytes_ : Try.prog.cellsOf 32 = 1 := by kernel_rfl
theorem cells_bools : Try.prog.cellsOf 33 = 1 := by kernel_rfl
theorem cells_act : Try.prog.cellsOf 35 = 4 := by kernel_rfl

theorem bools_of_trod {n : Nat} {v : Value} {y : DataW H × List MemPlace} (h : DataW.trod enc Try.prog W 0 spare held n 33 [v] = some y) : ∃ (K : Option Addr) (N C : Nat) (f : Nat → Bool), v = .slice K N C ∧ BoolsAt W K N f := by
  rcases Go.Deep.open_slice1 Try.underlying33 cells_bool h with ⟨hcs, _⟩ | ⟨x, len, c, m, k, V, D, Pl, hcs, _, hl, hm, hmm, _, hi⟩
  · simp at hcs
    exact ⟨none, 0, 0, fun _ => false, hcs, .inl rfl⟩
  · simp at hcs
    have hlm : len ≤ m := by rw [hmm]; split <;> omega
    refine ⟨some x, len, c, fun i => match V i with | .bool b => b | _ => false, hcs, ?_⟩
    rcases Nat.eq_zero_or_pos len with h0 | h0
    · exact .inl h0
    · have hc0 := (hi 0 (by omega)).1
      have hs : x.spot = none := by simpa [Addr.add] using World.cell?_spot hc0
      have hb : x.block < W.heap.size := by simpa [Addr.add] using block_lt_of_cell hc0
      obtain ⟨b, o, s⟩ := x
      simp only at hs
      subst hs
      refine .inr ⟨b, o, rfl, hb, fun i hil => ?_⟩
      obtain ⟨g0, t0⟩ := hi i (by omega)
      rw [addr_add] at g0
      obtain ⟨bb, e, _⟩ := DataW.trod_bool Try.underlying4 t0
      simp at e
      rw [e] at g0
      show W.cell? _ = some (.bool (match V i with | .bool b => b | _ => false))
      rw [e]
      exact g0

theorem open_bools {ts : List TypeId} {ds : List (DataW H)} {d : DataW H} {p : List MemPlace} {a : Option Addr} {len cap : Nat}
    (h : DataW.Trod enc Try.prog W 0 spare held 33 (.slice a len cap) d p) (_ : (DataW.weightsEach Try.prog ts ds).all (· ≤ reachBytes) = true) {j : Nat} (_ : ts[j]? = some 33) (_ : ds[j]? = some d) : ∃ f, BoolsAt W a len f := by
  obtain ⟨fuel, hf⟩ := h
  obtain ⟨K, N, C, f, e, hb⟩ := bools_of_trod (v := .slice a len cap) (by simpa [Value.cells] using hf)
  injection e with e1 e2 e3
  subst e1 e2 e3
  exact ⟨f, hb⟩

theorem bytes_of_trod {n : Nat} {v : Value} {y : DataW H × List MemPlace} (h : DataW.trod enc Try.prog W 0 spare held n 32 [v] = some y) : ∃ (A : Option Addr) (C : Nat) (X : List UInt8), v = .slice A X.length C ∧ Rd W W.heap.size A X := by
  rcases open_ints Try.underlying32 Try.underlying5 cells_u8 h with ⟨hcs, _⟩ | ⟨x, n, c, zs, hcs, _, hl, hm, hz, _, hcell, hwz⟩
  · simp at hcs
    exact ⟨none, 0, [], hcs, .nil _ _ _⟩
  · simp at hcs
    have hlen : n ≤ zs.length := by rw [hz]; split <;> omega
    obtain ⟨l, hl1, hl2⟩ := bytes_of_wf zs hwz
    refine ⟨some x, c, l.take n, by rw [hcs, List.length_take]; congr 1; omega, cells_bytes fun i y hy => ?_⟩
    rw [List.getElem?_take] at hy
    split at hy
    · rw [hcell i (by omega), hl2 i y hy]; rfl
    · cases hy

theorem bounds_int {z : Int} (h : (Lit.int .i64 z).wf = true) : -9223372036854775808 ≤ z ∧ z < 9223372036854775808 := by
  simp [Lit.wf] at h
  have h1 : (-9223372036854775808 : Int) ≤ z := h.1
  exact ⟨h1, by omega⟩

theorem deed_fields : ∃ f0 f1 f2 f3 : Field, Try.prog.underlying 35 = some (.struct #[f0, f1, f2, f3]) ∧ (f0.offset = 0 ∧ f1.offset = 1 ∧ f2.offset = 2 ∧ f3.offset = 3) ∧ (f0.type = 3 ∧ f1.type = 3 ∧ f2.type = 32 ∧ f3.type = 33) :=
  ⟨_, _, _, _, Try.underlying35, ⟨rfl, rfl, rfl, rfl⟩, rfl, rfl, rfl, rfl⟩

theorem open_deeds {ts : List TypeId} {ds : List (DataW H)} {d : DataW H} {p : List MemPlace} {a : Option Addr} {len cap : Nat}
    (h : DataW.Trod enc Try.prog W 0 spare held 22 (.slice a len cap) d p) (_ : (DataW.weightsEach Try.prog ts ds).all (· ≤ reachBytes) = true) {j : Nat} (_ : ts[j]? = some 22) (_ : ds[j]? = some d) : ∃ X, Deeds W a len X := by
  obtain ⟨fuel, hf⟩ := h
  obtain ⟨f0, f1, f2, f3, hu, ⟨o0, o1, o2, o3⟩, t0, t1, t2, t3⟩ := deed_fields
  rcases Go.Deep.open_slice Try.underlying22 hf with ⟨hcs, _⟩ | ⟨x, n, c, m, k, D, Pl, hcs, _, hl, hm, hmm, _, hi⟩
  · simp [Value.cells] at hcs
    obtain ⟨rfl, rfl, rfl⟩ := hcs
    exact ⟨fun _ => ⟨0, 0, [], fun _ => false, 0⟩, .inl rfl⟩
  · simp [Value.cells] at hcs
    obtain ⟨rfl, rfl, rfl⟩ := hcs
    have hlm : len ≤ m := by rw [hmm]; split <;> omega
    have each : ∀ i, ∃ q : Deed, i < len → (W.cell? (x.add (i * 4)) = some (.int .i64 q.what) ∧ W.cell? (x.add (i * 4 + 1)) = some (.int .i64 q.at_) ∧ (-9223372036854775808 ≤ q.at_ ∧ q.at_ < 9223372036854775808) ∧
        (∃ A c, W.cell? (x.add (i * 4 + 2)) = some (.slice A q.b.length c) ∧ Rd W W.heap.size A q.b) ∧ (∃ K c, W.cell? (x.add (i * 4 + 3)) = some (.slice K q.kn c) ∧ BoolsAt W K q.kn q.keep)) := fun i => by
      by_cases hil : i < len
      · obtain ⟨cs', h1, h2⟩ := hi i (by omega)
        rw [cells_act] at h1
        obtain ⟨_, hlen, hcell⟩ := World.cells?_some h1
        obtain ⟨xs, k', _, _, _, hxl, hf⟩ := DataW.trod_struct hu h2
        match xs, hxl, cs', hlen with
        | [y0, y1, y2, y3], _, [v0, v1, v2, v3], _ =>
          have g0 := hf 0 f0 rfl
          have g1 := hf 1 f1 rfl
          have g2 := hf 2 f2 rfl
          have g3 := hf 3 f3 rfl
          simp [o0, o1, o2, o3, t0, t1, t2, t3, cells_int, cells_bytes_, cells_bools] at g0 g1 g2 g3
          have e0 := hcell 0 (by omega)
          have e1 := hcell 1 (by omega)
          have e2 := hcell 2 (by omega)
          have e3 := hcell 3 (by omega)
          rw [Go.Deep.add_add] at e0 e1 e2 e3
          obtain ⟨z0, w0, _, _⟩ := DataW.trod_int Try.underlying3 g0
          obtain ⟨z1, w1, _, hw1⟩ := DataW.trod_int Try.underlying3 g1
          obtain ⟨A, C, X, w2, hX⟩ := bytes_of_trod g2
          obtain ⟨K, N, C', f, w3, hK⟩ := bools_of_trod g3
          simp at w0 w1
          subst w0 w1 w2 w3
          exact ⟨⟨z0, z1, X, f, N⟩, fun _ => ⟨by simpa using e0, by simpa using e1, bounds_int hw1, ⟨A, C, by simpa using e2, hX⟩, ⟨K, C', by simpa using e3, hK⟩⟩⟩
      · exact ⟨⟨0, 0, [], fun _ => false, 0⟩, fun h => absurd h hil⟩
    obtain ⟨q, hq⟩ := Classical.skolem.1 each
    refine ⟨q, ?_⟩
    rcases Nat.eq_zero_or_pos len with h0 | h0
    · exact .inl h0
    · have hc0 := (hq 0 h0).1
      have hs : x.spot = none := by simpa [Addr.add] using World.cell?_spot hc0
      have hb : x.block < W.heap.size := by simpa [Addr.add] using block_lt_of_cell hc0
      obtain ⟨b, o, s⟩ := x
      simp only at hs
      subst hs
      refine .inr ⟨b, o, rfl, hb, fun i hil => ?_⟩
      have h1 := hq i hil
      simp only [addr_add, ← Nat.add_assoc] at h1
      exact h1
end

end Go.Proofs.Ytaidjnpbjoncoaa
