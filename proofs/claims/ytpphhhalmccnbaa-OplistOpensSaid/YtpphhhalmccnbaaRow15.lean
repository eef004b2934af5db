/-
  How the arguments of a statement are opened: ints, lists of ints, things that are done, entries and transactions by value.
-/
import Derived.Test.YtpphhhalmccnbaaRows
import Derived.Test.YtpphhhalmccnbaaQp
import Derived.ProofKit
import Derived.SizedLaws
import Derived.OpenShut
import Derived.ChangeOld
import Derived.Carry
import Derived.Lib.SmallJoins
import Derived.Deep.Slices
namespace Go.Proofs.Ytpphhhalmccnbaa
set_option maxRecDepth 100000
set_option linter.unusedVariables false
open Go.ChangeShapes Go.WideShapes Go.ChangeAt Go.RowKit Go.Joins

theorem rowOwn : ownKnob Try.prog.godebug = none := by kernel_rfl
theorem rowLaidOut : laidOutB Try.prog = true := by kernel_rfl
theorem cells_int : Try.prog.cellsOf 3 = 1 := by kernel_rfl

section
variable {H : Type} {enc : TypeId × Value → H} {W : World} {spare : Nat → Bool} {held : Bool}
/-- ints that came in -/
theorem open_ls {ts : List TypeId} {ds : List (DataW H)} {d : DataW H} {p : List MemPlace} {a : Option Addr} {len cap : Nat}
    (h : DataW.Trod enc Try.prog W 0 (fun _ => true) held 28 (.slice a len cap) d p) (_ : (DataW.weightsEach Try.prog ts ds).all (· ≤ reachBytes) = true) {j : Nat} (_ : ts[j]? = some 28) (_ : ds[j]? = some d) :
    ∃ l : List Int, Ls W a len l ∧ len ≤ cap ∧ (cap = 0 ∨ Go.Proofs.Ytpphhhalmccnbaa.Sp a) := by
  obtain ⟨fuel, hf⟩ := h
  rcases open_ints Try.underlying28 Try.underlying3 cells_int hf with ⟨hcs, _⟩ | ⟨x, n, c, zs, hcs, _, hl, hm, hz, _, hcell, hwz⟩
  · simp [Value.cells] at hcs
    obtain ⟨rfl, rfl, rfl⟩ := hcs
    exact ⟨[], ⟨rfl, by simp, .inl rfl⟩, Nat.le_refl _, .inl rfl⟩
  · simp [Value.cells] at hcs
    obtain ⟨rfl, rfl, rfl⟩ := hcs
    simp only [if_true] at hz
    have hlt : (zs.take len).length = len := by rw [List.length_take]; omega
    have hok : ∀ y ∈ zs.take len, okI y := fun y hy => bounds_i64 (hwz y (List.mem_of_mem_take hy))
    rcases Nat.eq_zero_or_pos cap with h0 | h0
    · have : zs.take len = [] := List.eq_nil_of_length_eq_zero (by omega)
      exact ⟨zs.take len, ⟨hlt, hok, .inl this⟩, hl, .inl h0⟩
    · have hc0 := hcell 0 (by omega)
      have hs : x.spot = none := by simpa [Addr.add] using World.cell?_spot hc0
      have hbl : x.block < W.heap.size := by simpa [Addr.add] using block_lt_of_cell hc0
      obtain ⟨b, o, s⟩ := x
      simp only at hs
      subst hs
      refine ⟨zs.take len, ⟨hlt, hok, .inr ⟨b, o, rfl, hbl, fun j u hu => ?_⟩⟩, hl, .inr (.inr ⟨b, o, rfl⟩)⟩
      rw [ri_cells, List.getElem?_map, List.getElem?_take] at hu
      split at hu
      · next hj =>
        have h1 := hcell j (by omega)
        rw [addr_add] at h1
        rw [h1]
        rw [List.getElem?_eq_getElem (show j < zs.length by omega)] at hu
        rw [List.getD_eq_getElem?_getD, List.getElem?_eq_getElem (show j < zs.length by omega)]
        simpa using hu
      · simp at hu

end

theorem cells_bool : Try.prog.cellsOf 4 = 1 := by kernel_rfl

theorem cells_en : Try.prog.cellsOf 73 = 4 := by kernel_rfl
theorem pd_fields : ∃ f0 f1 f2 f3 : Field, Try.prog.underlying 73 = some (.struct #[f0, f1, f2, f3]) ∧ (f0.offset = 0 ∧ f1.offset = 1 ∧ f2.offset = 2 ∧ f3.offset = 3) ∧ (f0.type = 3 ∧ f1.type = 3 ∧ f2.type = 3 ∧ f3.type = 4) :=
  ⟨_, _, _, _, Try.underlying73, ⟨rfl, rfl, rfl, rfl⟩, rfl, rfl, rfl, rfl⟩
theorem sl_en : Try.prog.cellsOf 22 = 1 := by kernel_rfl
/-- a row that came in -/
theorem row_en {H : Type} {enc : TypeId × Value → H} {W : World} {held : Bool} {n : Nat} {v : Value} {y : DataW H × List MemPlace} (h : DataW.trod enc Try.prog W 0 (fun _ => true) held n 22 [v] = some y) :
    ∃ (A : Option Addr) (N C : Nat) (l : List En), v = .slice A N C ∧ l.length = N ∧ REr.At W A l ∧ (∀ c ∈ l, En.Ok c) ∧ N ≤ C ∧ (C = 0 ∨ Go.Proofs.Ytpphhhalmccnbaa.Sp A) := by
  obtain ⟨f0, f1, f2, f3, hu, ⟨o0, o1, o2, o3⟩, t0, t1, t2, t3⟩ := pd_fields
  rcases Go.Deep.open_slice Try.underlying22 h with ⟨hcs, _⟩ | ⟨x, len, c, m, k, D, Pl, hcs, _, hl, hm, hmm, _, hi⟩
  · simp at hcs
    exact ⟨none, 0, 0, [], hcs, rfl, .inl rfl, by simp, Nat.le_refl _, .inl rfl⟩
  · simp at hcs
    subst hcs
    have hmc : len ≤ m ∧ (0 < c → 0 < m) := by
      simp only [if_true] at hmm
      omega
    have each : ∀ i, ∃ q : En, i < len → (En.Ok q ∧ W.cell? (x.add (i * 4)) = some (.int .i64 q.t) ∧ W.cell? (x.add (i * 4 + 1)) = some (.int .i64 q.c) ∧ W.cell? (x.add (i * 4 + 2)) = some (.int .i64 q.b) ∧ W.cell? (x.add (i * 4 + 3)) = some (.bool q.u)) := fun i => by
      by_cases hil : i < len
      · obtain ⟨cs', h1, h2⟩ := hi i (by omega)
        rw [cells_en] at h1
        obtain ⟨_, hlen, hcell⟩ := World.cells?_some h1
        obtain ⟨xs, k', _, _, _, hxl, hf⟩ := DataW.trod_struct hu h2
        match xs, hxl, cs', hlen with
        | [y0, y1, y2, y3], _, [v0, v1, v2, v3], _ =>
          have g0 := hf 0 f0 rfl
          have g1 := hf 1 f1 rfl
          have g2 := hf 2 f2 rfl
          have g3 := hf 3 f3 rfl
          simp [o0, o1, o2, o3, t0, t1, t2, t3, cells_int, cells_bool] at g0 g1 g2 g3
          have e0 := hcell 0 (by omega)
          have e1 := hcell 1 (by omega)
          have e2 := hcell 2 (by omega)
          have e3 := hcell 3 (by omega)
          rw [Go.Deep.add_add] at e0 e1 e2 e3
          obtain ⟨z0, w0, _, b0⟩ := DataW.trod_int Try.underlying3 g0
          obtain ⟨z1, w1, _, b1⟩ := DataW.trod_int Try.underlying3 g1
          obtain ⟨z2, w2, _, b2⟩ := DataW.trod_int Try.underlying3 g2
          obtain ⟨z3, w3, _⟩ := DataW.trod_bool Try.underlying4 g3
          simp at w0 w1 w2 w3
          subst w0 w1 w2 w3
          exact ⟨⟨z0, z1, z2, z3⟩, fun _ => ⟨⟨bounds_i64 b0, bounds_i64 b1, bounds_i64 b2⟩, by simpa using e0, by simpa using e1, by simpa using e2, by simpa using e3⟩⟩
      · exact ⟨enD, fun h => absurd h hil⟩
    obtain ⟨q, hq⟩ := Classical.skolem.1 each
    have hsp : 0 < c → (∃ b o, x = ⟨b, o, none⟩ ∧ b < W.heap.size) := fun h0 => by
      obtain ⟨cs', h1, _⟩ := hi 0 (hmc.2 h0)
      rw [cells_en] at h1
      obtain ⟨_, hlen, hcell⟩ := World.cells?_some h1
      have hc0 := hcell 0 (by omega)
      rw [List.getElem?_eq_getElem (show 0 < cs'.length by omega)] at hc0
      have hs : x.spot = none := by simpa [Addr.add] using World.cell?_spot hc0
      have hb : x.block < W.heap.size := by simpa [Addr.add] using block_lt_of_cell hc0
      obtain ⟨b, o, s⟩ := x
      simp only at hs
      subst hs
      exact ⟨b, o, rfl, hb⟩
    have hmem : ∀ c ∈ (List.range len).map q, En.Ok c := fun c hc => by
      obtain ⟨i, hi2, rfl⟩ := List.mem_map.1 hc
      exact (hq i (List.mem_range.1 hi2)).1
    rcases Nat.eq_zero_or_pos c with h0 | h0
    · have hl0 : len = 0 := by omega
      exact ⟨some x, len, c, (List.range len).map q, rfl, by simp, .inl (by rw [hl0]; rfl), hmem, hl, .inl h0⟩
    · obtain ⟨b, o, rfl, hb⟩ := hsp h0
      refine ⟨some ⟨b, o, none⟩, len, c, (List.range len).map q, rfl, by simp, .inr ⟨b, o, rfl, hb, fun j u hu2 => ?_⟩, hmem, hl, .inr (.inr ⟨b, o, rfl⟩)⟩
      have hjl : j < len * 4 := by
        have := (List.getElem?_eq_some_iff.1 hu2).1
        rw [Rk.Ok.length re_okr, List.length_map, List.length_range] at this
        exact this
      obtain ⟨i, r, hij, hr⟩ : ∃ i r, j = i * 4 + r ∧ r < 4 := ⟨j / 4, j % 4, by omega, by omega⟩
      have hil : i < len := by omega
      have hx : ((List.range len).map q)[i]? = some (q i) := by rw [List.getElem?_map, List.getElem?_range hil]; rfl
      subst hij
      have h9 : (REr.enc (q i))[r]? = some u := by
        have := Rk.Ok.at re_okr ((List.range len).map q) i (q i) r hx hr
        rw [← this]; exact hu2
      obtain ⟨_, g0, g1, g2, g3⟩ := hq i hil
      rw [addr_add] at g0 g1 g2 g3
      match r, hr, h9 with
      | 0, _, h9 => injection h9 with h9; subst h9; exact g0
      | 1, _, h9 => injection h9 with h9; subst h9; exact g1
      | 2, _, h9 => injection h9 with h9; subst h9; exact g2
      | 3, _, h9 => injection h9 with h9; subst h9; exact g3

theorem cells_tx : Try.prog.cellsOf 96 = 4 := by kernel_rfl
theorem tx_fields : ∃ f0 f1 f2 f3 : Field, Try.prog.underlying 96 = some (.struct #[f0, f1, f2, f3]) ∧ (f0.offset = 0 ∧ f1.offset = 1 ∧ f2.offset = 2 ∧ f3.offset = 3) ∧ (f0.type = 3 ∧ f1.type = 3 ∧ f2.type = 3 ∧ f3.type = 3) :=
  ⟨_, _, _, _, Try.underlying96, ⟨rfl, rfl, rfl, rfl⟩, rfl, rfl, rfl, rfl⟩
theorem sl_tx : Try.prog.cellsOf 25 = 1 := by kernel_rfl
/-- a row that came in -/
theorem row_tx {H : Type} {enc : TypeId × Value → H} {W : World} {held : Bool} {n : Nat} {v : Value} {y : DataW H × List MemPlace} (h : DataW.trod enc Try.prog W 0 (fun _ => true) held n 25 [v] = some y) :
    ∃ (A : Option Addr) (N C : Nat) (l : List Tx), v = .slice A N C ∧ l.length = N ∧ RTr.At W A l ∧ (∀ c ∈ l, TxOk c) ∧ N ≤ C ∧ (C = 0 ∨ Go.Proofs.Ytpphhhalmccnbaa.Sp A) := by
  obtain ⟨f0, f1, f2, f3, hu, ⟨o0, o1, o2, o3⟩, t0, t1, t2, t3⟩ := tx_fields
  rcases Go.Deep.open_slice Try.underlying25 h with ⟨hcs, _⟩ | ⟨x, len, c, m, k, D, Pl, hcs, _, hl, hm, hmm, _, hi⟩
  · simp at hcs
    exact ⟨none, 0, 0, [], hcs, rfl, .inl rfl, by simp, Nat.le_refl _, .inl rfl⟩
  · simp at hcs
    subst hcs
    have hmc : len ≤ m ∧ (0 < c → 0 < m) := by
      simp only [if_true] at hmm
      omega
    have each : ∀ i, ∃ q : Tx, i < len → (TxOk q ∧ W.cell? (x.add (i * 4)) = some (.int .i64 q.p) ∧ W.cell? (x.add (i * 4 + 1)) = some (.int .i64 q.s) ∧ W.cell? (x.add (i * 4 + 2)) = some (.int .i64 q.b) ∧ W.cell? (x.add (i * 4 + 3)) = some (.int .i64 q.e)) := fun i => by
      by_cases hil : i < len
      · obtain ⟨cs', h1, h2⟩ := hi i (by omega)
        rw [cells_tx] at h1
        obtain ⟨_, hlen, hcell⟩ := World.cells?_some h1
        obtain ⟨xs, k', _, _, _, hxl, hf⟩ := DataW.trod_struct hu h2
        match xs, hxl, cs', hlen with
        | [y0, y1, y2, y3], _, [v0, v1, v2, v3], _ =>
          have g0 := hf 0 f0 rfl
          have g1 := hf 1 f1 rfl
          have g2 := hf 2 f2 rfl
          have g3 := hf 3 f3 rfl
          simp [o0, o1, o2, o3, t0, t1, t2, t3, cells_int] at g0 g1 g2 g3
          have e0 := hcell 0 (by omega)
          have e1 := hcell 1 (by omega)
          have e2 := hcell 2 (by omega)
          have e3 := hcell 3 (by omega)
          rw [Go.Deep.add_add] at e0 e1 e2 e3
          obtain ⟨z0, w0, _, b0⟩ := DataW.trod_int Try.underlying3 g0
          obtain ⟨z1, w1, _, b1⟩ := DataW.trod_int Try.underlying3 g1
          obtain ⟨z2, w2, _, b2⟩ := DataW.trod_int Try.underlying3 g2
          obtain ⟨z3, w3, _, b3⟩ := DataW.trod_int Try.underlying3 g3
          simp at w0 w1 w2 w3
          subst w0 w1 w2 w3
          exact ⟨⟨z0, z1, z2, z3⟩, fun _ => ⟨⟨bounds_i64 b0, bounds_i64 b1, bounds_i64 b2, bounds_i64 b3⟩, by simpa using e0, by simpa using e1, by simpa using e2, by simpa using e3⟩⟩
      · exact ⟨⟨0, 0, 0, 0⟩, fun h => absurd h hil⟩
    obtain ⟨q, hq⟩ := Classical.skolem.1 each
    have hsp : 0 < c → (∃ b o, x = ⟨b, o, none⟩ ∧ b < W.heap.size) := fun h0 => by
      obtain ⟨cs', h1, _⟩ := hi 0 (hmc.2 h0)
      rw [cells_tx] at h1
      obtain ⟨_, hlen, hcell⟩ := World.cells?_some h1
      have hc0 := hcell 0 (by omega)
      rw [List.getElem?_eq_getElem (show 0 < cs'.length by omega)] at hc0
      have hs : x.spot = none := by simpa [Addr.add] using World.cell?_spot hc0
      have hb : x.block < W.heap.size := by simpa [Addr.add] using block_lt_of_cell hc0
      obtain ⟨b, o, s⟩ := x
      simp only at hs
      subst hs
      exact ⟨b, o, rfl, hb⟩
    have hmem : ∀ c ∈ (List.range len).map q, TxOk c := fun c hc => by
      obtain ⟨i, hi2, rfl⟩ := List.mem_map.1 hc
      exact (hq i (List.mem_range.1 hi2)).1
    rcases Nat.eq_zero_or_pos c with h0 | h0
    · have hl0 : len = 0 := by omega
      exact ⟨some x, len, c, (List.range len).map q, rfl, by simp, .inl (by rw [hl0]; rfl), hmem, hl, .inl h0⟩
    · obtain ⟨b, o, rfl, hb⟩ := hsp h0
      refine ⟨some ⟨b, o, none⟩, len, c, (List.range len).map q, rfl, by simp, .inr ⟨b, o, rfl, hb, fun j u hu2 => ?_⟩, hmem, hl, .inr (.inr ⟨b, o, rfl⟩)⟩
      have hjl : j < len * 4 := by
        have := (List.getElem?_eq_some_iff.1 hu2).1
        rw [Rk.Ok.length rt_okr, List.length_map, List.length_range] at this
        exact this
      obtain ⟨i, r, hij, hr⟩ : ∃ i r, j = i * 4 + r ∧ r < 4 := ⟨j / 4, j % 4, by omega, by omega⟩
      have hil : i < len := by omega
      have hx : ((List.range len).map q)[i]? = some (q i) := by rw [List.getElem?_map, List.getElem?_range hil]; rfl
      subst hij
      have h9 : (RTr.enc (q i))[r]? = some u := by
        have := Rk.Ok.at rt_okr ((List.range len).map q) i (q i) r hx hr
        rw [← this]; exact hu2
      obtain ⟨_, g0, g1, g2, g3⟩ := hq i hil
      rw [addr_add] at g0 g1 g2 g3
      match r, hr, h9 with
      | 0, _, h9 => injection h9 with h9; subst h9; exact g0
      | 1, _, h9 => injection h9 with h9; subst h9; exact g1
      | 2, _, h9 => injection h9 with h9; subst h9; exact g2
      | 3, _, h9 => injection h9 with h9; subst h9; exact g3

theorem cells_tr : Try.prog.cellsOf 27 = 2 := by kernel_rfl
theorem cells_li : Try.prog.cellsOf 24 = 1 := by kernel_rfl
/-- transactions that came in -/
theorem open_tr {H : Type} {enc : TypeId × Value → H} {W : World} {base : Nat} {v : Value} {d : DataW H} {p : List MemPlace} {held : Bool}
    (hv : Value.okWide Try.prog W .any base 27 v) (h : DataW.Trod enc Try.prog W 0 (fun _ => true) held 27 v d p) :
    ∃ (A : Option Addr) (N a : Nat) (c : Int) (T : Tr), v = trV A N a c ∧ TrAt W A N T := by
  obtain ⟨cs, rfl, hsz⟩ := okWide_struct Try.underlying27 hv
  rw [cells_tr] at hsz
  obtain ⟨fuel, hf⟩ := h
  obtain ⟨xs, n, _, _, _, hlen, hfs⟩ := DataW.trod_struct Try.underlying27 hf
  obtain ⟨cl⟩ := cs
  match cl, hsz with
  | [c0, c1], _ =>
    match xs, hlen with
    | [y0, y1], _ =>
      have h0 : DataW.trod enc Try.prog W 0 (fun _ => true) held n 25 [c0] = some y0 := by have := hfs 0 _ rfl; simpa [Value.cells, sl_tx] using this
      have h1 : DataW.trod enc Try.prog W 0 (fun _ => true) held n 3 [c1] = some y1 := by have := hfs 1 _ rfl; simpa [Value.cells, cells_int] using this
      obtain ⟨A, N, C, l, e0, q1, q2, q3, q4, q5⟩ := row_tx h0
      obtain ⟨z, e1, _, _⟩ := DataW.trod_int Try.underlying3 h1
      simp at e1
      subst e0 e1
      exact ⟨A, N, C, z, ⟨l, z⟩, rfl, q1, q3, q2⟩
/-- entries that came in -/
theorem open_en {H : Type} {enc : TypeId × Value → H} {W : World} {base : Nat} {v : Value} {d : DataW H} {p : List MemPlace} {held : Bool}
    (hv : Value.okWide Try.prog W .any base 24 v) (h : DataW.Trod enc Try.prog W 0 (fun _ => true) held 24 v d p) :
    ∃ (A : Option Addr) (n a : Nat) (l : List En), v = liV A n a ∧ EsAt REr W A n l ∧ (l = [] ∨ Go.Proofs.Ytpphhhalmccnbaa.Sp A) := by
  obtain ⟨cs, rfl, hsz⟩ := okWide_struct Try.underlying24 hv
  rw [cells_li] at hsz
  obtain ⟨fuel, hf⟩ := h
  obtain ⟨xs, n, _, _, _, hlen, hfs⟩ := DataW.trod_struct Try.underlying24 hf
  obtain ⟨cl⟩ := cs
  match cl, hsz with
  | [c0], _ =>
    match xs, hlen with
    | [y0], _ =>
      have h0 : DataW.trod enc Try.prog W 0 (fun _ => true) held n 22 [c0] = some y0 := by have := hfs 0 _ rfl; simpa [Value.cells, sl_en] using this
      obtain ⟨A, N, C, l, e0, q1, q2, q3, q4, q5⟩ := row_en h0
      subst e0
      refine ⟨A, N, C, l, rfl, ⟨q1, q3, q2⟩, ?_⟩
      rcases q5 with h | h
      · exact .inl (List.eq_nil_of_length_eq_zero (by show l.length = 0; omega))
      · exact .inr h

theorem cells_act : Try.prog.cellsOf 100 = 5 := by kernel_rfl
theorem act_fields : ∃ f0 f1 f2 f3 f4 : Field, Try.prog.underlying 100 = some (.struct #[f0, f1, f2, f3, f4]) ∧ (f0.offset = 0 ∧ f1.offset = 1 ∧ f2.offset = 2 ∧ f3.offset = 3 ∧ f4.offset = 4) ∧ (f0.type = 3 ∧ f1.type = 3 ∧ f2.type = 3 ∧ f3.type = 3 ∧ f4.type = 3) :=
  ⟨_, _, _, _, _, Try.underlying100, ⟨rfl, rfl, rfl, rfl, rfl⟩, rfl, rfl, rfl, rfl, rfl⟩
theorem open_acts {H : Type} {enc : TypeId × Value → H} {W : World} {spare : Nat → Bool} {held : Bool} {ts : List TypeId} {ds : List (DataW H)} {d : DataW H} {p : List MemPlace} {a : Option Addr} {len cap : Nat}
    (h : DataW.Trod enc Try.prog W 0 spare held 59 (.slice a len cap) d p) (_ : (DataW.weightsEach Try.prog ts ds).all (· ≤ reachBytes) = true) {j : Nat} (_ : ts[j]? = some 59) (_ : ds[j]? = some d) :
    ∃ q : Nat → Ac, Acts W a len q := by
  obtain ⟨fuel, hf⟩ := h
  obtain ⟨f0, f1, f2, f3, f4, hu, ⟨o0, o1, o2, o3, o4⟩, t0, t1, t2, t3, t4⟩ := act_fields
  rcases Go.Deep.open_slice Try.underlying59 hf with ⟨hcs, _⟩ | ⟨x, n, c, m, k, D, Pl, hcs, _, hl, hm, hmm, _, hi⟩
  · simp [Value.cells] at hcs
    obtain ⟨rfl, rfl, rfl⟩ := hcs
    exact ⟨fun _ => acD, .inl rfl⟩
  · simp [Value.cells] at hcs
    obtain ⟨rfl, rfl, rfl⟩ := hcs
    have hlm : len ≤ m := by rw [hmm]; split <;> omega
    have each : ∀ i, ∃ q : Ac, i < len → (okI q.b ∧ W.cell? (x.add (i * 5)) = some (.int .i64 q.w) ∧ W.cell? (x.add (i * 5 + 1)) = some (.int .i64 q.t) ∧ W.cell? (x.add (i * 5 + 2)) = some (.int .i64 q.o) ∧ W.cell? (x.add (i * 5 + 3)) = some (.int .i64 q.c) ∧ W.cell? (x.add (i * 5 + 4)) = some (.int .i64 q.b)) := fun i => by
      by_cases hil : i < len
      · obtain ⟨cs', h1, h2⟩ := hi i (by omega)
        rw [cells_act] at h1
        obtain ⟨_, hlen, hcell⟩ := World.cells?_some h1
        obtain ⟨xs, k', _, _, _, hxl, hf⟩ := DataW.trod_struct hu h2
        match xs, hxl, cs', hlen with
        | [y0, y1, y2, y3, y4], _, [v0, v1, v2, v3, v4], _ =>
          have g0 := hf 0 f0 rfl
          have g1 := hf 1 f1 rfl
          have g2 := hf 2 f2 rfl
          have g3 := hf 3 f3 rfl
          have g4 := hf 4 f4 rfl
          simp [o0, o1, o2, o3, o4, t0, t1, t2, t3, t4, cells_int] at g0 g1 g2 g3 g4
          have e0 := hcell 0 (by omega)
          have e1 := hcell 1 (by omega)
          have e2 := hcell 2 (by omega)
          have e3 := hcell 3 (by omega)
          have e4 := hcell 4 (by omega)
          rw [Go.Deep.add_add] at e0 e1 e2 e3 e4
          obtain ⟨z0, w0, _, _⟩ := DataW.trod_int Try.underlying3 g0
          obtain ⟨z1, w1, _, _⟩ := DataW.trod_int Try.underlying3 g1
          obtain ⟨z2, w2, _, _⟩ := DataW.trod_int Try.underlying3 g2
          obtain ⟨z3, w3, _, _⟩ := DataW.trod_int Try.underlying3 g3
          obtain ⟨z4, w4, _, b4⟩ := DataW.trod_int Try.underlying3 g4
          simp at w0 w1 w2 w3 w4
          subst w0 w1 w2 w3 w4
          exact ⟨⟨z0, z1, z2, z3, z4⟩, fun _ => ⟨bounds_i64 b4, by simpa using e0, by simpa using e1, by simpa using e2, by simpa using e3, by simpa using e4⟩⟩
      · exact ⟨acD, fun h => absurd h hil⟩
    obtain ⟨q, hq⟩ := Classical.skolem.1 each
    refine ⟨q, ?_⟩
    rcases Nat.eq_zero_or_pos len with h0 | h0
    · exact .inl h0
    · have hc0 := (hq 0 h0).2.1
      have hs : x.spot = none := by simpa [Addr.add] using World.cell?_spot hc0
      have hb : x.block < W.heap.size := by simpa [Addr.add] using block_lt_of_cell hc0
      obtain ⟨b, o, s⟩ := x
      simp only at hs
      subst hs
      refine .inr ⟨b, o, rfl, hb, fun i hil => ?_⟩
      obtain ⟨gk, g0, g1, g2, g3, g4⟩ := hq i hil
      rw [addr_add] at g0 g1 g2 g3 g4
      exact ⟨gk, g0, g1, g2, g3, g4⟩

end Go.Proofs.Ytpphhhalmccnbaa
