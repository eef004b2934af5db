/-
  Three cells in a block: loaded, stored and answered whole, cell by cell; the law's turning of one kind into the other.
-/
import Derived.Test.YtknjkihcpcimpaaPg
import Derived.Laws.ResultCell
import Derived.Laws.Tables
namespace Go.Proofs.Ytknjkihcpcimpaa
set_option maxRecDepth 100000
open Go.RowKit Crc Wm Pg

def c3C (x : C3) : Array Value := #[.int .i64 x.a.V, .int .i64 x.a.L, .int .i64 x.b.V, .int .i64 x.b.L, .int .i64 x.c.V, .int .i64 x.c.L]
def c3V (x : C3) : Value := .agg (c3C x)
def C3At (W : World) (g : Nat) (t : TypeId) (x : C3) : Prop := W.heap[g]? = some (.cells (c3C x) t (0, 0))

/-- the type of three cells, the program's or the document's -/
structure CTy (ty : TypeId) : Prop where
  hu : ∃ n e, Try.prog.underlying ty = some (.array n e)
  hi : (Try.prog.info? ty).map (·.size) = some 6
theorem tyP : CTy 32 := ⟨⟨_, _, Try.underlying32⟩, by kernel_rfl⟩
theorem tyR : CTy 25 := ⟨⟨_, _, Try.underlying25⟩, by kernel_rfl⟩

theorem c3C_one (x : C3) : (c3C x).all (·.oneCell') = true := by
  unfold c3C
  simp [Value.oneCell']
theorem c3C_size (x : C3) : (c3C x).size = 6 := rfl
theorem c3V_inj {x y : C3} (h : c3V x = c3V y) : x = y := by
  unfold c3V c3C at h
  simp at h
  obtain ⟨⟨_, _⟩, ⟨_, _⟩, ⟨_, _⟩⟩ := x
  obtain ⟨⟨_, _⟩, ⟨_, _⟩, ⟨_, _⟩⟩ := y
  simp_all

/-- the i-th cell put -/
def C3.put (x : C3) (i : Nat) (c : Ce) : C3 := if i = 0 then { x with a := c } else if i = 1 then { x with b := c } else { x with c := c }
theorem c3C_put (x : C3) (i : Nat) (hi : i < 3) (c : Ce) : ((c3C x).setIfInBounds (i * 2) (.int .i64 c.V)).setIfInBounds (i * 2 + 1) (.int .i64 c.L) = c3C (C3.put x i c) := by
  rcases i with _ | _ | _ | i <;> first | omega | rfl

section
variable {ty t : TypeId} {w : World} {g : Nat} {x x0 : C3}
theorem C3At.cells (h : C3At w g t x) : w.cell? ⟨g, 0, none⟩ = some (.int .i64 x.a.V) ∧ w.cell? ⟨g, 1, none⟩ = some (.int .i64 x.a.L) ∧ w.cell? ⟨g, 2, none⟩ = some (.int .i64 x.b.V) ∧ w.cell? ⟨g, 3, none⟩ = some (.int .i64 x.b.L) ∧ w.cell? ⟨g, 4, none⟩ = some (.int .i64 x.c.V) ∧ w.cell? ⟨g, 5, none⟩ = some (.int .i64 x.c.L) :=
  ⟨(cell_of_row _ _ _ _ _ _ h).trans rfl, (cell_of_row _ _ _ _ _ _ h).trans rfl, (cell_of_row _ _ _ _ _ _ h).trans rfl, (cell_of_row _ _ _ _ _ _ h).trans rfl, (cell_of_row _ _ _ _ _ _ h).trans rfl, (cell_of_row _ _ _ _ _ _ h).trans rfl⟩
theorem C3At.at_ (h : C3At w g t x) (i : Nat) (hi : i < 3) : w.cell? ⟨g, i * 2, none⟩ = some (.int .i64 (x.at_ i).V) ∧ w.cell? ⟨g, i * 2 + 1, none⟩ = some (.int .i64 (x.at_ i).L) := by
  obtain ⟨h0, h1, h2, h3, h4, h5⟩ := h.cells
  rcases i with _ | _ | _ | i
  · exact ⟨h0, h1⟩
  · exact ⟨h2, h3⟩
  · exact ⟨h4, h5⟩
  · omega
theorem C3At.below {V : World} (h : C3At w g t x) (hb : Below w.heap.size w V) : C3At V g t x := (hb.block g (lt_of_block h)).trans h
theorem C3At.far {V : World} {r : Nat} (h : C3At w g t x) (hg : w.grownBy V (some r)) (hne : g ≠ r) : C3At V g t x := (hg.block g (lt_of_block h) (fun e => by injection e with e; exact hne e)).trans h
theorem run_load_c3 (hT : CTy ty) (h : C3At w g t x) : (loadVar ty ⟨g, 0, none⟩).run Try.prog w = .ok (c3V x) w := by
  obtain ⟨⟨n, e, hu⟩, hi⟩ := hT
  exact run_loadVar_row w g t ty (c3C x) (0, 0) _ h hu rfl hi
theorem wpList_load_c3 {ops : Array Oper} {rest : List Oper} {o : Oper} {a : Act} {Q : Exit → Act → World → Prop} (hT : CTy ty) (h : C3At w g t x) (hgd : o.guard = none) (p : Operand) (ho : o.op = .load ty p) (hx : a.eval p = .pointer (some ⟨g, 0, none⟩))
    (k : wpList Try.prog ops Q rest (a.put o.dst (c3V x)) w) : wpList Try.prog ops Q (o :: rest) a w := by
  obtain ⟨⟨n, e, hu⟩, hi⟩ := hT
  exact wpList_load_row hgd ty p ho g hx t (c3C x) (0, 0) _ h hu rfl hi k
theorem wpList_store_c3 {ops : Array Oper} {rest : List Oper} {o : Oper} {a : Act} {Q : Exit → Act → World → Prop} (hT : CTy ty) (h : C3At w g t x0) (hgd : o.guard = none) (p y : Operand) (ho : o.op = .store ty p y) (hx : a.eval p = .pointer (some ⟨g, 0, none⟩)) (x : C3) (hy : a.eval y = c3V x)
    (k : ∀ w', C3At w' g t x → w.grownBy w' (some g) → wpList Try.prog ops Q rest (a.put o.dst undef) w') : wpList Try.prog ops Q (o :: rest) a w := by
  obtain ⟨⟨n, e, hu⟩, hi⟩ := hT
  refine wpList_store_row hgd ty p y ho g (c3C x) hx hy t (c3C x0) h hi rfl (c3C_one x) (k _ (setRow_heap _ _ _ _ _ _ h) ?_)
  exact ⟨rfl, rfl, rfl, by rw [setRow_size]; exact Nat.le_refl _, fun j _ hj => setRow_other w g j _ (fun e => hj (by rw [e]))⟩
theorem results_c3 {fn : Func} {p : Tmp} (hT : CTy ty) (hf : fn.results = #[.cell p ty]) (tmps : Array Value) (hp : tmps.getD p undef = .pointer (some ⟨g, 0, none⟩)) (h : C3At w g t x) : (results fn tmps).run Try.prog w = .ok (c3V x) w := by
  obtain ⟨⟨n, e, hu⟩, hi⟩ := hT
  exact results_cell_row hf tmps w g t (c3C x) (0, 0) _ hp h hu rfl hi
theorem results_c32 {fn : Func} {p u : Tmp} (hT : CTy ty) (hf : fn.results = #[.cell p ty, .tmp u]) (tmps : Array Value) (hp : tmps.getD p undef = .pointer (some ⟨g, 0, none⟩)) (v : Value) (hv : tmps.getD u undef = v) (h : C3At w g t x) : (results fn tmps).run Try.prog w = .ok (.tuple #[c3V x, v]) w := by
  have hp' : tmps[p]?.getD undef = .pointer (some ⟨g, 0, none⟩) := by simpa using hp
  have hv' : tmps[u]?.getD undef = v := by simpa using hv
  simp [results, hf, hp', hv', asAddr, run_load_c3 hT h]
end

end Go.Proofs.Ytknjkihcpcimpaa
