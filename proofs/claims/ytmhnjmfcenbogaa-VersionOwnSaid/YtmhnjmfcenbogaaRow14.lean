/-
  How the arguments of a statement are opened: ints, a byte, bools, bytes and things that are done that came in.
-/
import Derived.Test.YtmhnjmfcenbogaaRows
import Derived.Test.YtmhnjmfcenbogaaBl
import Derived.ProofKit
import Derived.SizedLaws
import Derived.OpenShut
import Derived.ShutString
import Derived.ChangeOld
import Derived.Carry
import Derived.Lib.SmallJoins
import Derived.Deep.Slices
namespace Go.Proofs.Ytmhnjmfcenbogaa
set_option maxRecDepth 100000
set_option linter.unusedVariables false
open Go.ChangeShapes Go.WideShapes Go.ChangeAt Go.RowKit Go.Joins

theorem rowOwn : ownKnob Try.prog.godebug = none := by kernel_rfl
theorem rowLaidOut : laidOutB Try.prog = true := by kernel_rfl
theorem cells_int : Try.prog.cellsOf 3 = 1 := by kernel_rfl
theorem cells_u8 : Try.prog.cellsOf 5 = 1 := by kernel_rfl
theorem cells_bool : Try.prog.cellsOf 4 = 1 := by kernel_rfl
def BoolsAt (w : World) (A : Option Addr) (n : Nat) (f : Nat → Bool) : Prop :=
  n = 0 ∨ ∃ b o, A = some ⟨b, o, none⟩ ∧ b < w.heap.size ∧ ∀ i, i < n → w.cell? ⟨b, o + i, none⟩ = some (.bool (f i))
theorem BoolsAt.below {w W : World} {A : Option Addr} {n : Nat} {f : Nat → Bool} (h : BoolsAt w A n f) (hb : Below w.heap.size w W) : BoolsAt W A n f := by
  rcases h with h | ⟨b, o, e, hl, hc⟩
  · exact .inl h
  · exact .inr ⟨b, o, e, Nat.lt_of_lt_of_le hl hb.size, fun i hi => (hb.cell (p := ⟨b, o + i, none⟩) hl).trans (hc i hi)⟩
/-- an address of a slice -/

theorem bytes_of_wf (zs : List Int) (h : ∀ n ∈ zs, (Lit.int .u8 n).wf = true) : ∃ l : List UInt8, l.length = zs.length ∧ ∀ (i : Nat) (x : UInt8), l[i]? = some x → zs.getD i 0 = (x.toNat : Int) := by
  refine ⟨zs.map fun n => UInt8.ofNat n.toNat, by simp, fun i x hx => ?_⟩
  rw [List.getElem?_map] at hx
  cases hz : zs[i]? with
  | none => rw [hz] at hx; cases hx
  | some n =>
    rw [hz] at hx
    injection hx with hx
    have hmem : n ∈ zs := List.mem_of_getElem? hz
    have hw := h n hmem
    have hb : 0 ≤ n ∧ n ≤ 255 := bounds_u8 hw
    rw [List.getD_eq_getElem?_getD, hz, ← hx]
    simp
    omega

theorem byte_of {n : Int} (h : (Lit.int .u8 n).wf = true) : ∃ x : UInt8, n = (x.toNat : Int) := by
  obtain ⟨h1, h2⟩ := bounds_u8 h
  refine ⟨UInt8.ofNat n.toNat, ?_⟩
  simp
  omega

section
variable {H : Type} {enc : TypeId × Value → H} {W : World} {spare : Nat → Bool} {held : Bool}
theorem bools_of_trod {n : Nat} {v : Value} {y : DataW H × List MemPlace} (h : DataW.trod enc Try.prog W 0 spare held n 59 [v] = some y) : ∃ (K : Option Addr) (N C : Nat) (f : Nat → Bool), v = .slice K N C ∧ BoolsAt W K N f := by
  rcases Go.Deep.open_slice1 Try.underlying59 cells_bool h with ⟨hcs, _⟩ | ⟨x, len, c, m, k, V, D, Pl, hcs, _, hl, hm, hmm, _, hi⟩
  · simp at hcs
    exact ⟨none, 0, 0, fun _ => false, hcs, .inl rfl⟩
  · simp at hcs
    have hlm : len ≤ m := by rw [hmm]; split <;> omega
    refine ⟨some x, len, c, fun i => match V i with | .bool b => b | _ => false, hcs, ?_⟩
    rcases Nat.eq_zero_or_pos len with h0 | h0
    · exact .inl h0
    · have hc0 := (hi 0 (by omega)).1
      have hs : x.spot = none := by simpa [Addr.add] using World.cell?_spot hc0
      have hb : x.block < W.heap.size := by simpa [Addr.add] using block_lt_of_cell hc0
      obtain ⟨b, o, s⟩ := x
      simp only at hs
      subst hs
      refine .inr ⟨b, o, rfl, hb, fun i hil => ?_⟩
      obtain ⟨g0, t0⟩ := hi i (by omega)
      rw [addr_add] at g0
      obtain ⟨bb, e, _⟩ := DataW.trod_bool Try.underlying4 t0
      simp at e
      rw [e] at g0
      show W.cell? _ = some (.bool (match V i with | .bool b => b | _ => false))
      rw [e]
      exact g0

theorem open_bools {ts : List TypeId} {ds : List (DataW H)} {d : DataW H} {p : List MemPlace} {a : Option Addr} {len cap : Nat}
    (h : DataW.Trod enc Try.prog W 0 spare held 59 (.slice a len cap) d p) (_ : (DataW.weightsEach Try.prog ts ds).all (· ≤ reachBytes) = true) {j : Nat} (_ : ts[j]? = some 59) (_ : ds[j]? = some d) : ∃ f, BoolsAt W a len f := by
  obtain ⟨fuel, hf⟩ := h
  obtain ⟨K, N, C, f, e, hb⟩ := bools_of_trod (v := .slice a len cap) (by simpa [Value.cells] using hf)
  injection e with e1 e2 e3
  subst e1 e2 e3
  exact ⟨f, hb⟩

/-- bytes that came in -/
theorem open_bytes {ts : List TypeId} {ds : List (DataW H)} {d : DataW H} {p : List MemPlace} {a : Option Addr} {len cap : Nat}
    (h : DataW.Trod enc Try.prog W 0 (fun _ => true) held 36 (.slice a len cap) d p) (_ : (DataW.weightsEach Try.prog ts ds).all (· ≤ reachBytes) = true) {j : Nat} (_ : ts[j]? = some 36) (_ : ds[j]? = some d) :
    ∃ l : List UInt8, DatAt W ⟨a, len, cap⟩ l := by
  obtain ⟨fuel, hf⟩ := h
  rcases open_ints Try.underlying36 Try.underlying5 cells_u8 hf with ⟨hcs, _⟩ | ⟨x, n, c, zs, hcs, _, hl, hm, hz, _, hcell, hwz⟩
  · simp [Value.cells] at hcs
    obtain ⟨rfl, rfl, rfl⟩ := hcs
    exact ⟨[], rfl, Nat.le_refl _, .inl rfl, .inl rfl⟩
  · simp [Value.cells] at hcs
    obtain ⟨rfl, rfl, rfl⟩ := hcs
    simp only [if_true] at hz
    obtain ⟨l, hl1, hl2⟩ := bytes_of_wf zs hwz
    have hlt : (l.take len).length = len := by rw [List.length_take]; omega
    rcases Nat.eq_zero_or_pos cap with h0 | h0
    · have : l.take len = [] := List.eq_nil_of_length_eq_zero (by omega)
      exact ⟨l.take len, hlt, hl, .inl h0, .inl this⟩
    · have hc0 := hcell 0 (by omega)
      have hs : x.spot = none := by simpa [Addr.add] using World.cell?_spot hc0
      have hbl : x.block < W.heap.size := by simpa [Addr.add] using block_lt_of_cell hc0
      obtain ⟨b, o, s⟩ := x
      simp only at hs
      subst hs
      refine ⟨l.take len, hlt, hl, .inr (.inr ⟨b, o, rfl⟩), .inr ⟨b, o, rfl, hbl, fun j u hu => ?_⟩⟩
      rw [ry_cells, List.getElem?_map, List.getElem?_take] at hu
      split at hu
      · next hj =>
        have h1 := hcell j (by omega)
        rw [addr_add] at h1
        rw [h1]
        cases hx : l[j]? with
        | none => rw [hx] at hu; cases hu
        | some y =>
          rw [hx] at hu
          rw [hl2 j y hx]
          simpa using hu
      · simp at hu
end

/-- one thing that is done -/
structure Ac where
  w : Int
  x : Int
  k : Int
  b : UInt8
def acD : Ac := ⟨0, 0, 0, 0⟩
/-- things that are done lie there -/
def Acts (W : World) (A : Option Addr) (n : Nat) (q : Nat → Ac) : Prop :=
  n = 0 ∨ ∃ b o, A = some ⟨b, o, none⟩ ∧ b < W.heap.size ∧ ∀ i, i < n → W.cell? ⟨b, o + i * 4, none⟩ = some (.int .i64 (q i).w) ∧ W.cell? ⟨b, o + i * 4 + 1, none⟩ = some (.int .i64 (q i).x) ∧ W.cell? ⟨b, o + i * 4 + 2, none⟩ = some (.int .i64 (q i).k) ∧ W.cell? ⟨b, o + i * 4 + 3, none⟩ = some (byV (q i).b)
theorem cells_act : Try.prog.cellsOf 64 = 4 := by kernel_rfl
theorem act_fields : ∃ f0 f1 f2 f3 : Field, Try.prog.underlying 64 = some (.struct #[f0, f1, f2, f3]) ∧ (f0.offset = 0 ∧ f1.offset = 1 ∧ f2.offset = 2 ∧ f3.offset = 3) ∧ (f0.type = 3 ∧ f1.type = 3 ∧ f2.type = 3 ∧ f3.type = 5) :=
  ⟨_, _, _, _, Try.underlying64, ⟨rfl, rfl, rfl, rfl⟩, rfl, rfl, rfl, rfl⟩
theorem open_acts {H : Type} {enc : TypeId × Value → H} {W : World} {spare : Nat → Bool} {held : Bool} {ts : List TypeId} {ds : List (DataW H)} {d : DataW H} {p : List MemPlace} {a : Option Addr} {len cap : Nat}
    (h : DataW.Trod enc Try.prog W 0 spare held 22 (.slice a len cap) d p) (_ : (DataW.weightsEach Try.prog ts ds).all (· ≤ reachBytes) = true) {j : Nat} (_ : ts[j]? = some 22) (_ : ds[j]? = some d) :
    ∃ q : Nat → Ac, Acts W a len q := by
  obtain ⟨fuel, hf⟩ := h
  obtain ⟨f0, f1, f2, f3, hu, ⟨o0, o1, o2, o3⟩, t0, t1, t2, t3⟩ := act_fields
  rcases Go.Deep.open_slice Try.underlying22 hf with ⟨hcs, _⟩ | ⟨x, n, c, m, k, D, Pl, hcs, _, hl, hm, hmm, _, hi⟩
  · simp [Value.cells] at hcs
    obtain ⟨rfl, rfl, rfl⟩ := hcs
    exact ⟨fun _ => acD, .inl rfl⟩
  · simp [Value.cells] at hcs
    obtain ⟨rfl, rfl, rfl⟩ := hcs
    have hlm : len ≤ m := by rw [hmm]; split <;> omega
    have each : ∀ i, ∃ q : Ac, i < len → (W.cell? (x.add (i * 4)) = some (.int .i64 q.w) ∧ W.cell? (x.add (i * 4 + 1)) = some (.int .i64 q.x) ∧ W.cell? (x.add (i * 4 + 2)) = some (.int .i64 q.k) ∧ W.cell? (x.add (i * 4 + 3)) = some (byV q.b)) := fun i => by
      by_cases hil : i < len
      · obtain ⟨cs', h1, h2⟩ := hi i (by omega)
        rw [cells_act] at h1
        obtain ⟨_, hlen, hcell⟩ := World.cells?_some h1
        obtain ⟨xs, k', _, _, _, hxl, hf⟩ := DataW.trod_struct hu h2
        match xs, hxl, cs', hlen with
        | [y0, y1, y2, y3], _, [v0, v1, v2, v3], _ =>
          have g0 := hf 0 f0 rfl
          have g1 := hf 1 f1 rfl
          have g2 := hf 2 f2 rfl
          have g3 := hf 3 f3 rfl
          simp [o0, o1, o2, o3, t0, t1, t2, t3, cells_int, cells_u8] at g0 g1 g2 g3
          have e0 := hcell 0 (by omega)
          have e1 := hcell 1 (by omega)
          have e2 := hcell 2 (by omega)
          have e3 := hcell 3 (by omega)
          rw [Go.Deep.add_add] at e0 e1 e2 e3
          obtain ⟨z0, w0, _, _⟩ := DataW.trod_int Try.underlying3 g0
          obtain ⟨z1, w1, _, _⟩ := DataW.trod_int Try.underlying3 g1
          obtain ⟨z2, w2, _, _⟩ := DataW.trod_int Try.underlying3 g2
          obtain ⟨z3, w3, _, b3⟩ := DataW.trod_int Try.underlying5 g3
          obtain ⟨y, rfl⟩ := byte_of b3
          simp at w0 w1 w2 w3
          subst w0 w1 w2 w3
          exact ⟨⟨z0, z1, z2, y⟩, fun _ => ⟨by simpa using e0, by simpa using e1, by simpa using e2, by simpa using e3⟩⟩
      · exact ⟨acD, fun h => absurd h hil⟩
    obtain ⟨q, hq⟩ := Classical.skolem.1 each
    refine ⟨q, ?_⟩
    rcases Nat.eq_zero_or_pos len with h0 | h0
    · exact .inl h0
    · have hc0 := (hq 0 h0).1
      have hs : x.spot = none := by simpa [Addr.add] using World.cell?_spot hc0
      have hb : x.block < W.heap.size := by simpa [Addr.add] using block_lt_of_cell hc0
      obtain ⟨b, o, s⟩ := x
      simp only at hs
      subst hs
      refine .inr ⟨b, o, rfl, hb, fun i hil => ?_⟩
      obtain ⟨g0, g1, g2, g3⟩ := hq i hil
      rw [addr_add] at g0 g1 g2 g3
      exact ⟨g0, g1, g2, g3⟩
end Go.Proofs.Ytmhnjmfcenbogaa
