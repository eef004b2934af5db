/-
  How the arguments of a statement are opened: ints, slices of ints, a table and transactions by value that came in.
-/
import Derived.Test.YtogngghfdcpeaaaRows
import Derived.Test.YtogngghfdcpeaaaLz
import Derived.ProofKit
import Derived.SizedLaws
import Derived.OpenShut
import Derived.ShutString
import Derived.ChangeOld
import Derived.Carry
import Derived.Lib.SmallJoins
import Derived.Deep.Slices
namespace Go.Proofs.Ytogngghfdcpeaaa
set_option maxRecDepth 100000
set_option linter.unusedVariables false
open Go.ChangeShapes Go.WideShapes Go.ChangeAt Go.RowKit Go.Joins

theorem rowOwn : ownKnob Try.prog.godebug = none := by kernel_rfl
theorem rowLaidOut : laidOutB Try.prog = true := by kernel_rfl
theorem cells_int : Try.prog.cellsOf 3 = 1 := by kernel_rfl

section
variable {H : Type} {enc : TypeId × Value → H} {W : World} {spare : Nat → Bool} {held : Bool}
/-- ints that came in -/
theorem open_ls {ts : List TypeId} {ds : List (DataW H)} {d : DataW H} {p : List MemPlace} {a : Option Addr} {len cap : Nat}
    (h : DataW.Trod enc Try.prog W 0 (fun _ => true) held 29 (.slice a len cap) d p) (_ : (DataW.weightsEach Try.prog ts ds).all (· ≤ reachBytes) = true) {j : Nat} (_ : ts[j]? = some 29) (_ : ds[j]? = some d) :
    ∃ l : List Int, Ls W a len l ∧ len ≤ cap ∧ (cap = 0 ∨ Go.Proofs.Ytogngghfdcpeaaa.Sp a) := by
  obtain ⟨fuel, hf⟩ := h
  rcases open_ints Try.underlying29 Try.underlying3 cells_int hf with ⟨hcs, _⟩ | ⟨x, n, c, zs, hcs, _, hl, hm, hz, _, hcell, hwz⟩
  · simp [Value.cells] at hcs
    obtain ⟨rfl, rfl, rfl⟩ := hcs
    exact ⟨[], ⟨rfl, by simp, .inl rfl⟩, Nat.le_refl _, .inl rfl⟩
  · simp [Value.cells] at hcs
    obtain ⟨rfl, rfl, rfl⟩ := hcs
    simp only [if_true] at hz
    have hlt : (zs.take len).length = len := by rw [List.length_take]; omega
    have hok : ∀ y ∈ zs.take len, okI y := fun y hy => bounds_i64 (hwz y (List.mem_of_mem_take hy))
    rcases Nat.eq_zero_or_pos cap with h0 | h0
    · have : zs.take len = [] := List.eq_nil_of_length_eq_zero (by omega)
      exact ⟨zs.take len, ⟨hlt, hok, .inl this⟩, hl, .inl h0⟩
    · have hc0 := hcell 0 (by omega)
      have hs : x.spot = none := by simpa [Addr.add] using World.cell?_spot hc0
      have hbl : x.block < W.heap.size := by simpa [Addr.add] using block_lt_of_cell hc0
      obtain ⟨b, o, s⟩ := x
      simp only at hs
      subst hs
      refine ⟨zs.take len, ⟨hlt, hok, .inr ⟨b, o, rfl, hbl, fun j u hu => ?_⟩⟩, hl, .inr (.inr ⟨b, o, rfl⟩)⟩
      rw [ri_cells, List.getElem?_map, List.getElem?_take] at hu
      split at hu
      · next hj =>
        have h1 := hcell j (by omega)
        rw [addr_add] at h1
        rw [h1]
        rw [List.getElem?_eq_getElem (show j < zs.length by omega)] at hu
        rw [List.getD_eq_getElem?_getD, List.getElem?_eq_getElem (show j < zs.length by omega)]
        simpa using hu
      · simp at hu

end

theorem cells_ct : Try.prog.cellsOf 72 = 3 := by kernel_rfl
theorem ct_fields : ∃ f0 f1 f2 : Field, Try.prog.underlying 72 = some (.struct #[f0, f1, f2]) ∧ (f0.offset = 0 ∧ f1.offset = 1 ∧ f2.offset = 2) ∧ (f0.type = 3 ∧ f1.type = 3 ∧ f2.type = 3) :=
  ⟨_, _, _, Try.underlying72, ⟨rfl, rfl, rfl⟩, rfl, rfl, rfl⟩
theorem sl_ct : Try.prog.cellsOf 22 = 1 := by kernel_rfl
/-- a row that came in -/
theorem row_ct {H : Type} {enc : TypeId × Value → H} {W : World} {held : Bool} {n : Nat} {v : Value} {y : DataW H × List MemPlace} (h : DataW.trod enc Try.prog W 0 (fun _ => true) held n 22 [v] = some y) :
    ∃ (A : Option Addr) (N C : Nat) (l : List Ct), v = .slice A N C ∧ l.length = N ∧ RCr.At W A l ∧ (∀ c ∈ l, Ct.Ok c) ∧ N ≤ C ∧ (C = 0 ∨ Go.Proofs.Ytogngghfdcpeaaa.Sp A) := by
  obtain ⟨f0, f1, f2, hu, ⟨o0, o1, o2⟩, t0, t1, t2⟩ := ct_fields
  rcases Go.Deep.open_slice Try.underlying22 h with ⟨hcs, _⟩ | ⟨x, len, c, m, k, D, Pl, hcs, _, hl, hm, hmm, _, hi⟩
  · simp at hcs
    exact ⟨none, 0, 0, [], hcs, rfl, .inl rfl, by simp, Nat.le_refl _, .inl rfl⟩
  · simp at hcs
    subst hcs
    have hmc : len ≤ m ∧ (0 < c → 0 < m) := by
      simp only [if_true] at hmm
      omega
    have each : ∀ i, ∃ q : Ct, i < len → (Ct.Ok q ∧ W.cell? (x.add (i * 3)) = some (.int .i64 q.lo) ∧ W.cell? (x.add (i * 3 + 1)) = some (.int .i64 q.hi) ∧ W.cell? (x.add (i * 3 + 2)) = some (.int .i64 q.v)) := fun i => by
      by_cases hil : i < len
      · obtain ⟨cs', h1, h2⟩ := hi i (by omega)
        rw [cells_ct] at h1
        obtain ⟨_, hlen, hcell⟩ := World.cells?_some h1
        obtain ⟨xs, k', _, _, _, hxl, hf⟩ := DataW.trod_struct hu h2
        match xs, hxl, cs', hlen with
        | [y0, y1, y2], _, [v0, v1, v2], _ =>
          have g0 := hf 0 f0 rfl
          have g1 := hf 1 f1 rfl
          have g2 := hf 2 f2 rfl
          simp [o0, o1, o2, t0, t1, t2, cells_int] at g0 g1 g2
          have e0 := hcell 0 (by omega)
          have e1 := hcell 1 (by omega)
          have e2 := hcell 2 (by omega)
          rw [Go.Deep.add_add] at e0 e1 e2
          obtain ⟨z0, w0, _, b0⟩ := DataW.trod_int Try.underlying3 g0
          obtain ⟨z1, w1, _, b1⟩ := DataW.trod_int Try.underlying3 g1
          obtain ⟨z2, w2, _, b2⟩ := DataW.trod_int Try.underlying3 g2
          simp at w0 w1 w2
          subst w0 w1 w2
          exact ⟨⟨z0, z1, z2⟩, fun _ => ⟨⟨bounds_i64 b0, bounds_i64 b1, bounds_i64 b2⟩, by simpa using e0, by simpa using e1, by simpa using e2⟩⟩
      · exact ⟨ctD, fun h => absurd h hil⟩
    obtain ⟨q, hq⟩ := Classical.skolem.1 each
    have hsp : 0 < c → (∃ b o, x = ⟨b, o, none⟩ ∧ b < W.heap.size) := fun h0 => by
      obtain ⟨cs', h1, _⟩ := hi 0 (hmc.2 h0)
      rw [cells_ct] at h1
      obtain ⟨_, hlen, hcell⟩ := World.cells?_some h1
      have hc0 := hcell 0 (by omega)
      rw [List.getElem?_eq_getElem (show 0 < cs'.length by omega)] at hc0
      have hs : x.spot = none := by simpa [Addr.add] using World.cell?_spot hc0
      have hb : x.block < W.heap.size := by simpa [Addr.add] using block_lt_of_cell hc0
      obtain ⟨b, o, s⟩ := x
      simp only at hs
      subst hs
      exact ⟨b, o, rfl, hb⟩
    have hmem : ∀ c ∈ (List.range len).map q, Ct.Ok c := fun c hc => by
      obtain ⟨i, hi2, rfl⟩ := List.mem_map.1 hc
      exact (hq i (List.mem_range.1 hi2)).1
    rcases Nat.eq_zero_or_pos c with h0 | h0
    · have hl0 : len = 0 := by omega
      exact ⟨some x, len, c, (List.range len).map q, rfl, by simp, .inl (by rw [hl0]; rfl), hmem, hl, .inl h0⟩
    · obtain ⟨b, o, rfl, hb⟩ := hsp h0
      refine ⟨some ⟨b, o, none⟩, len, c, (List.range len).map q, rfl, by simp, .inr ⟨b, o, rfl, hb, fun j u hu2 => ?_⟩, hmem, hl, .inr (.inr ⟨b, o, rfl⟩)⟩
      have hjl : j < len * 3 := by
        have := (List.getElem?_eq_some_iff.1 hu2).1
        rw [Rk.Ok.length rc_okr, List.length_map, List.length_range] at this
        exact this
      obtain ⟨i, r, hij, hr⟩ : ∃ i r, j = i * 3 + r ∧ r < 3 := ⟨j / 3, j % 3, by omega, by omega⟩
      have hil : i < len := by omega
      have hx : ((List.range len).map q)[i]? = some (q i) := by rw [List.getElem?_map, List.getElem?_range hil]; rfl
      subst hij
      have h9 : (RCr.enc (q i))[r]? = some u := by
        have := Rk.Ok.at rc_okr ((List.range len).map q) i (q i) r hx hr
        rw [← this]; exact hu2
      obtain ⟨_, g0, g1, g2⟩ := hq i hil
      rw [addr_add] at g0 g1 g2
      match r, hr, h9 with
      | 0, _, h9 => injection h9 with h9; subst h9; exact g0
      | 1, _, h9 => injection h9 with h9; subst h9; exact g1
      | 2, _, h9 => injection h9 with h9; subst h9; exact g2

theorem cells_pd : Try.prog.cellsOf 74 = 4 := by kernel_rfl
theorem pd_fields : ∃ f0 f1 f2 f3 : Field, Try.prog.underlying 74 = some (.struct #[f0, f1, f2, f3]) ∧ (f0.offset = 0 ∧ f1.offset = 1 ∧ f2.offset = 2 ∧ f3.offset = 3) ∧ (f0.type = 3 ∧ f1.type = 3 ∧ f2.type = 3 ∧ f3.type = 3) :=
  ⟨_, _, _, _, Try.underlying74, ⟨rfl, rfl, rfl, rfl⟩, rfl, rfl, rfl, rfl⟩
theorem sl_pd : Try.prog.cellsOf 23 = 1 := by kernel_rfl
/-- a row that came in -/
theorem row_pd {H : Type} {enc : TypeId × Value → H} {W : World} {held : Bool} {n : Nat} {v : Value} {y : DataW H × List MemPlace} (h : DataW.trod enc Try.prog W 0 (fun _ => true) held n 23 [v] = some y) :
    ∃ (A : Option Addr) (N C : Nat) (l : List Pd), v = .slice A N C ∧ l.length = N ∧ RPr.At W A l ∧ (∀ c ∈ l, Pd.Ok c) ∧ N ≤ C ∧ (C = 0 ∨ Go.Proofs.Ytogngghfdcpeaaa.Sp A) := by
  obtain ⟨f0, f1, f2, f3, hu, ⟨o0, o1, o2, o3⟩, t0, t1, t2, t3⟩ := pd_fields
  rcases Go.Deep.open_slice Try.underlying23 h with ⟨hcs, _⟩ | ⟨x, len, c, m, k, D, Pl, hcs, _, hl, hm, hmm, _, hi⟩
  · simp at hcs
    exact ⟨none, 0, 0, [], hcs, rfl, .inl rfl, by simp, Nat.le_refl _, .inl rfl⟩
  · simp at hcs
    subst hcs
    have hmc : len ≤ m ∧ (0 < c → 0 < m) := by
      simp only [if_true] at hmm
      omega
    have each : ∀ i, ∃ q : Pd, i < len → (Pd.Ok q ∧ W.cell? (x.add (i * 4)) = some (.int .i64 q.c) ∧ W.cell? (x.add (i * 4 + 1)) = some (.int .i64 q.x) ∧ W.cell? (x.add (i * 4 + 2)) = some (.int .i64 q.u) ∧ W.cell? (x.add (i * 4 + 3)) = some (.int .i64 q.d)) := fun i => by
      by_cases hil : i < len
      · obtain ⟨cs', h1, h2⟩ := hi i (by omega)
        rw [cells_pd] at h1
        obtain ⟨_, hlen, hcell⟩ := World.cells?_some h1
        obtain ⟨xs, k', _, _, _, hxl, hf⟩ := DataW.trod_struct hu h2
        match xs, hxl, cs', hlen with
        | [y0, y1, y2, y3], _, [v0, v1, v2, v3], _ =>
          have g0 := hf 0 f0 rfl
          have g1 := hf 1 f1 rfl
          have g2 := hf 2 f2 rfl
          have g3 := hf 3 f3 rfl
          simp [o0, o1, o2, o3, t0, t1, t2, t3, cells_int] at g0 g1 g2 g3
          have e0 := hcell 0 (by omega)
          have e1 := hcell 1 (by omega)
          have e2 := hcell 2 (by omega)
          have e3 := hcell 3 (by omega)
          rw [Go.Deep.add_add] at e0 e1 e2 e3
          obtain ⟨z0, w0, _, b0⟩ := DataW.trod_int Try.underlying3 g0
          obtain ⟨z1, w1, _, b1⟩ := DataW.trod_int Try.underlying3 g1
          obtain ⟨z2, w2, _, b2⟩ := DataW.trod_int Try.underlying3 g2
          obtain ⟨z3, w3, _, b3⟩ := DataW.trod_int Try.underlying3 g3
          simp at w0 w1 w2 w3
          subst w0 w1 w2 w3
          exact ⟨⟨z0, z1, z2, z3⟩, fun _ => ⟨⟨bounds_i64 b0, bounds_i64 b1, bounds_i64 b2, bounds_i64 b3⟩, by simpa using e0, by simpa using e1, by simpa using e2, by simpa using e3⟩⟩
      · exact ⟨pdD, fun h => absurd h hil⟩
    obtain ⟨q, hq⟩ := Classical.skolem.1 each
    have hsp : 0 < c → (∃ b o, x = ⟨b, o, none⟩ ∧ b < W.heap.size) := fun h0 => by
      obtain ⟨cs', h1, _⟩ := hi 0 (hmc.2 h0)
      rw [cells_pd] at h1
      obtain ⟨_, hlen, hcell⟩ := World.cells?_some h1
      have hc0 := hcell 0 (by omega)
      rw [List.getElem?_eq_getElem (show 0 < cs'.length by omega)] at hc0
      have hs : x.spot = none := by simpa [Addr.add] using World.cell?_spot hc0
      have hb : x.block < W.heap.size := by simpa [Addr.add] using block_lt_of_cell hc0
      obtain ⟨b, o, s⟩ := x
      simp only at hs
      subst hs
      exact ⟨b, o, rfl, hb⟩
    have hmem : ∀ c ∈ (List.range len).map q, Pd.Ok c := fun c hc => by
      obtain ⟨i, hi2, rfl⟩ := List.mem_map.1 hc
      exact (hq i (List.mem_range.1 hi2)).1
    rcases Nat.eq_zero_or_pos c with h0 | h0
    · have hl0 : len = 0 := by omega
      exact ⟨some x, len, c, (List.range len).map q, rfl, by simp, .inl (by rw [hl0]; rfl), hmem, hl, .inl h0⟩
    · obtain ⟨b, o, rfl, hb⟩ := hsp h0
      refine ⟨some ⟨b, o, none⟩, len, c, (List.range len).map q, rfl, by simp, .inr ⟨b, o, rfl, hb, fun j u hu2 => ?_⟩, hmem, hl, .inr (.inr ⟨b, o, rfl⟩)⟩
      have hjl : j < len * 4 := by
        have := (List.getElem?_eq_some_iff.1 hu2).1
        rw [Rk.Ok.length rp_okr, List.length_map, List.length_range] at this
        exact this
      obtain ⟨i, r, hij, hr⟩ : ∃ i r, j = i * 4 + r ∧ r < 4 := ⟨j / 4, j % 4, by omega, by omega⟩
      have hil : i < len := by omega
      have hx : ((List.range len).map q)[i]? = some (q i) := by rw [List.getElem?_map, List.getElem?_range hil]; rfl
      subst hij
      have h9 : (RPr.enc (q i))[r]? = some u := by
        have := Rk.Ok.at rp_okr ((List.range len).map q) i (q i) r hx hr
        rw [← this]; exact hu2
      obtain ⟨_, g0, g1, g2, g3⟩ := hq i hil
      rw [addr_add] at g0 g1 g2 g3
      match r, hr, h9 with
      | 0, _, h9 => injection h9 with h9; subst h9; exact g0
      | 1, _, h9 => injection h9 with h9; subst h9; exact g1
      | 2, _, h9 => injection h9 with h9; subst h9; exact g2
      | 3, _, h9 => injection h9 with h9; subst h9; exact g3

theorem cells_tx : Try.prog.cellsOf 77 = 4 := by kernel_rfl
theorem tx_fields : ∃ f0 f1 f2 f3 : Field, Try.prog.underlying 77 = some (.struct #[f0, f1, f2, f3]) ∧ (f0.offset = 0 ∧ f1.offset = 1 ∧ f2.offset = 2 ∧ f3.offset = 3) ∧ (f0.type = 3 ∧ f1.type = 3 ∧ f2.type = 3 ∧ f3.type = 3) :=
  ⟨_, _, _, _, Try.underlying77, ⟨rfl, rfl, rfl, rfl⟩, rfl, rfl, rfl, rfl⟩
theorem sl_tx : Try.prog.cellsOf 26 = 1 := by kernel_rfl
/-- a row that came in -/
theorem row_tx {H : Type} {enc : TypeId × Value → H} {W : World} {held : Bool} {n : Nat} {v : Value} {y : DataW H × List MemPlace} (h : DataW.trod enc Try.prog W 0 (fun _ => true) held n 26 [v] = some y) :
    ∃ (A : Option Addr) (N C : Nat) (l : List Tx), v = .slice A N C ∧ l.length = N ∧ RTr.At W A l ∧ (∀ c ∈ l, TxOk c) ∧ N ≤ C ∧ (C = 0 ∨ Go.Proofs.Ytogngghfdcpeaaa.Sp A) := by
  obtain ⟨f0, f1, f2, f3, hu, ⟨o0, o1, o2, o3⟩, t0, t1, t2, t3⟩ := tx_fields
  rcases Go.Deep.open_slice Try.underlying26 h with ⟨hcs, _⟩ | ⟨x, len, c, m, k, D, Pl, hcs, _, hl, hm, hmm, _, hi⟩
  · simp at hcs
    exact ⟨none, 0, 0, [], hcs, rfl, .inl rfl, by simp, Nat.le_refl _, .inl rfl⟩
  · simp at hcs
    subst hcs
    have hmc : len ≤ m ∧ (0 < c → 0 < m) := by
      simp only [if_true] at hmm
      omega
    have each : ∀ i, ∃ q : Tx, i < len → (TxOk q ∧ W.cell? (x.add (i * 4)) = some (.int .i64 q.p) ∧ W.cell? (x.add (i * 4 + 1)) = some (.int .i64 q.s) ∧ W.cell? (x.add (i * 4 + 2)) = some (.int .i64 q.b) ∧ W.cell? (x.add (i * 4 + 3)) = some (.int .i64 q.e)) := fun i => by
      by_cases hil : i < len
      · obtain ⟨cs', h1, h2⟩ := hi i (by omega)
        rw [cells_tx] at h1
        obtain ⟨_, hlen, hcell⟩ := World.cells?_some h1
        obtain ⟨xs, k', _, _, _, hxl, hf⟩ := DataW.trod_struct hu h2
        match xs, hxl, cs', hlen with
        | [y0, y1, y2, y3], _, [v0, v1, v2, v3], _ =>
          have g0 := hf 0 f0 rfl
          have g1 := hf 1 f1 rfl
          have g2 := hf 2 f2 rfl
          have g3 := hf 3 f3 rfl
          simp [o0, o1, o2, o3, t0, t1, t2, t3, cells_int] at g0 g1 g2 g3
          have e0 := hcell 0 (by omega)
          have e1 := hcell 1 (by omega)
          have e2 := hcell 2 (by omega)
          have e3 := hcell 3 (by omega)
          rw [Go.Deep.add_add] at e0 e1 e2 e3
          obtain ⟨z0, w0, _, b0⟩ := DataW.trod_int Try.underlying3 g0
          obtain ⟨z1, w1, _, b1⟩ := DataW.trod_int Try.underlying3 g1
          obtain ⟨z2, w2, _, b2⟩ := DataW.trod_int Try.underlying3 g2
          obtain ⟨z3, w3, _, b3⟩ := DataW.trod_int Try.underlying3 g3
          simp at w0 w1 w2 w3
          subst w0 w1 w2 w3
          exact ⟨⟨z0, z1, z2, z3⟩, fun _ => ⟨⟨bounds_i64 b0, bounds_i64 b1, bounds_i64 b2, bounds_i64 b3⟩, by simpa using e0, by simpa using e1, by simpa using e2, by simpa using e3⟩⟩
      · exact ⟨⟨0, 0, 0, 0⟩, fun h => absurd h hil⟩
    obtain ⟨q, hq⟩ := Classical.skolem.1 each
    have hsp : 0 < c → (∃ b o, x = ⟨b, o, none⟩ ∧ b < W.heap.size) := fun h0 => by
      obtain ⟨cs', h1, _⟩ := hi 0 (hmc.2 h0)
      rw [cells_tx] at h1
      obtain ⟨_, hlen, hcell⟩ := World.cells?_some h1
      have hc0 := hcell 0 (by omega)
      rw [List.getElem?_eq_getElem (show 0 < cs'.length by omega)] at hc0
      have hs : x.spot = none := by simpa [Addr.add] using World.cell?_spot hc0
      have hb : x.block < W.heap.size := by simpa [Addr.add] using block_lt_of_cell hc0
      obtain ⟨b, o, s⟩ := x
      simp only at hs
      subst hs
      exact ⟨b, o, rfl, hb⟩
    have hmem : ∀ c ∈ (List.range len).map q, TxOk c := fun c hc => by
      obtain ⟨i, hi2, rfl⟩ := List.mem_map.1 hc
      exact (hq i (List.mem_range.1 hi2)).1
    rcases Nat.eq_zero_or_pos c with h0 | h0
    · have hl0 : len = 0 := by omega
      exact ⟨some x, len, c, (List.range len).map q, rfl, by simp, .inl (by rw [hl0]; rfl), hmem, hl, .inl h0⟩
    · obtain ⟨b, o, rfl, hb⟩ := hsp h0
      refine ⟨some ⟨b, o, none⟩, len, c, (List.range len).map q, rfl, by simp, .inr ⟨b, o, rfl, hb, fun j u hu2 => ?_⟩, hmem, hl, .inr (.inr ⟨b, o, rfl⟩)⟩
      have hjl : j < len * 4 := by
        have := (List.getElem?_eq_some_iff.1 hu2).1
        rw [Rk.Ok.length rt_okr, List.length_map, List.length_range] at this
        exact this
      obtain ⟨i, r, hij, hr⟩ : ∃ i r, j = i * 4 + r ∧ r < 4 := ⟨j / 4, j % 4, by omega, by omega⟩
      have hil : i < len := by omega
      have hx : ((List.range len).map q)[i]? = some (q i) := by rw [List.getElem?_map, List.getElem?_range hil]; rfl
      subst hij
      have h9 : (RTr.enc (q i))[r]? = some u := by
        have := Rk.Ok.at rt_okr ((List.range len).map q) i (q i) r hx hr
        rw [← this]; exact hu2
      obtain ⟨_, g0, g1, g2, g3⟩ := hq i hil
      rw [addr_add] at g0 g1 g2 g3
      match r, hr, h9 with
      | 0, _, h9 => injection h9 with h9; subst h9; exact g0
      | 1, _, h9 => injection h9 with h9; subst h9; exact g1
      | 2, _, h9 => injection h9 with h9; subst h9; exact g2
      | 3, _, h9 => injection h9 with h9; subst h9; exact g3

theorem cells_tb : Try.prog.cellsOf 25 = 2 := by kernel_rfl
theorem cells_tr : Try.prog.cellsOf 28 = 2 := by kernel_rfl
/-- a table that came in -/
theorem open_tb {H : Type} {enc : TypeId × Value → H} {W : World} {base : Nat} {v : Value} {d : DataW H} {p : List MemPlace} {held : Bool}
    (hv : Value.okWide Try.prog W .any base 25 v) (h : DataW.Trod enc Try.prog W 0 (fun _ => true) held 25 v d p) :
    ∃ (A : Option Addr) (n a : Nat) (B : Option Addr) (m b : Nat) (t : Tb), v = tbV A n a B m b ∧ TbAt W A n B m t ∧ (t.C = [] ∨ Go.Proofs.Ytogngghfdcpeaaa.Sp A) := by
  obtain ⟨cs, rfl, hsz⟩ := okWide_struct Try.underlying25 hv
  rw [cells_tb] at hsz
  obtain ⟨fuel, hf⟩ := h
  obtain ⟨xs, n, _, _, _, hlen, hfs⟩ := DataW.trod_struct Try.underlying25 hf
  obtain ⟨cl⟩ := cs
  match cl, hsz with
  | [c0, c1], _ =>
    match xs, hlen with
    | [y0, y1], _ =>
      have h0 : DataW.trod enc Try.prog W 0 (fun _ => true) held n 22 [c0] = some y0 := by have := hfs 0 _ rfl; simpa [Value.cells, sl_ct] using this
      have h1 : DataW.trod enc Try.prog W 0 (fun _ => true) held n 23 [c1] = some y1 := by have := hfs 1 _ rfl; simpa [Value.cells, sl_pd] using this
      obtain ⟨A, N, C, l, e0, q1, q2, q3, q4, q5⟩ := row_ct h0
      obtain ⟨B, M, D, r, e1, r1, r2, r3, r4, r5⟩ := row_pd h1
      subst e0 e1
      refine ⟨A, N, C, B, M, D, ⟨l, r⟩, rfl, ⟨q1, r1, q3, r3, q2, r2⟩, ?_⟩
      rcases q5 with h | h
      · exact .inl (List.eq_nil_of_length_eq_zero (by show l.length = 0; omega))
      · exact .inr h
/-- transactions that came in -/
theorem open_tr {H : Type} {enc : TypeId × Value → H} {W : World} {base : Nat} {v : Value} {d : DataW H} {p : List MemPlace} {held : Bool}
    (hv : Value.okWide Try.prog W .any base 28 v) (h : DataW.Trod enc Try.prog W 0 (fun _ => true) held 28 v d p) :
    ∃ (A : Option Addr) (N a : Nat) (c : Int) (T : Tr), v = trV A N a c ∧ TrAt W A N T := by
  obtain ⟨cs, rfl, hsz⟩ := okWide_struct Try.underlying28 hv
  rw [cells_tr] at hsz
  obtain ⟨fuel, hf⟩ := h
  obtain ⟨xs, n, _, _, _, hlen, hfs⟩ := DataW.trod_struct Try.underlying28 hf
  obtain ⟨cl⟩ := cs
  match cl, hsz with
  | [c0, c1], _ =>
    match xs, hlen with
    | [y0, y1], _ =>
      have h0 : DataW.trod enc Try.prog W 0 (fun _ => true) held n 26 [c0] = some y0 := by have := hfs 0 _ rfl; simpa [Value.cells, sl_tx] using this
      have h1 : DataW.trod enc Try.prog W 0 (fun _ => true) held n 3 [c1] = some y1 := by have := hfs 1 _ rfl; simpa [Value.cells, cells_int] using this
      obtain ⟨A, N, C, l, e0, q1, q2, q3, q4, q5⟩ := row_tx h0
      obtain ⟨z, e1, _, _⟩ := DataW.trod_int Try.underlying3 h1
      simp at e1
      subst e0 e1
      exact ⟨A, N, C, z, ⟨l, z⟩, rfl, q1, q3, q2⟩
end Go.Proofs.Ytogngghfdcpeaaa
