/-
  A table in a block, a lock in a block; slices cut as operations.
-/
import Derived.Test.YtohnfjneghbceaaAgainst
namespace Go.Proofs.Ytohnfjneghbceaa
set_option maxRecDepth 100000
set_option linter.unusedVariables false
open Go.RowKit Go.Shelf Go.Sort

/-- a table lies in block g -/
def KB (W : World) (g : Nat) (A : Option Addr) (n k : Nat) : Prop := W.heap[g]? = some (.cells #[.slice A n k] 49 (0, 0))
/-- a lock lies in block g -/
def LH (W : World) (g : Nat) (y : Lk) : Prop := W.heap[g]? = some (.cells #[.int .i64 y.b, .int .i64 y.x, .int .i64 y.h, .int .i64 y.k] 53 (0, 0))
theorem setRow_grown (W : World) (g : Nat) (cs : Array Value) : W.grownBy (W.setRow g cs) (some g) := ⟨rfl, rfl, rfl, by rw [setRow_size]; exact Nat.le_refl _, fun j _ hj => setRow_other W g j _ (fun e => hj (by rw [e]))⟩
section
variable {W V : World} {g : Nat} {A A' : Option Addr} {n k n' k' : Nat} {y z : Lk}
theorem KB.c0 (h : KB W g A n k) : W.cell? ⟨g, 0, none⟩ = some (.slice A n k) := (cell_of_row _ _ _ _ _ _ h).trans rfl
theorem KB.fr (h : KB W g A n k) (j : Nat) : W.frozen? ⟨g, j, none⟩ = false := by
  have h' : W.heap[g]? = _ := h
  unfold World.frozen?
  simp only [h']
  simp
theorem KB.lt (h : KB W g A n k) : g < W.heap.size := lt_of_block h
theorem KB.below (h : KB W g A n k) (hb : Below W.heap.size W V) : KB V g A n k := (hb.block g h.lt).trans h
theorem KB.turn {S : Nat → Prop} (h : KB W g A n k) (ht : Turn S W V) (hS : ¬ S g) : KB V g A n k := (ht.block g h.lt hS).trans h
theorem KB.far {r : Option Nat} (h : KB W g A n k) (hg : W.grownBy V r) (hne : some g ≠ r) : KB V g A n k := (hg.block g h.lt hne).trans h
theorem KB.new (W : World) (A : Option Addr) (n k : Nat) : KB (W.alloc (.cells #[.slice A n k] 49)) W.heap.size A n k := heap_alloc_new W _
theorem table_info : (Try.prog.info? 49).map (·.size) = some (#[Value.slice none 0 0] : Array Value).size := by kernel_rfl
theorem table_under : ∃ fs, Try.prog.underlying 49 = some (.struct fs) := ⟨_, Try.underlying49⟩
theorem wp_store_table {o : Oper} {a : Act} {K : Act → World → Prop} {Q : Exit → Act → World → Prop} (x u : Operand) (ho : o.op = .store 49 x u) (hx : a.eval x = .pointer (some ⟨g, 0, none⟩)) (hy : a.eval u = .agg #[.slice A' n' k'])
    (hb : KB W g A n k) (h : ∀ w', KB w' g A' n' k' → W.grownBy w' (some g) → K (a.put o.dst undef) w') : o.wp Try.prog a W K Q :=
  wp_store_row 49 x u ho g _ hx hy 49 _ hb table_info rfl (by simp [Value.oneCell']) (h _ (setRow_heap _ _ _ _ _ _ hb) (setRow_grown _ _ _))
theorem wpList_store_table {ops : Array Oper} {rest : List Oper} {o : Oper} {a : Act} {Q : Exit → Act → World → Prop} (hgd : o.guard = none) (x u : Operand) (ho : o.op = .store 49 x u) (hx : a.eval x = .pointer (some ⟨g, 0, none⟩)) (hy : a.eval u = .agg #[.slice A' n' k'])
    (hb : KB W g A n k) (h : ∀ w', KB w' g A' n' k' → W.grownBy w' (some g) → wpList Try.prog ops Q rest (a.put o.dst undef) w') : wpList Try.prog ops Q (o :: rest) a W :=
  wpList_store_row hgd 49 x u ho g _ hx hy 49 _ hb table_info rfl (by simp [Value.oneCell']) (h _ (setRow_heap _ _ _ _ _ _ hb) (setRow_grown _ _ _))
theorem run_load_table (h : KB W g A n k) : (loadVar 49 ⟨g, 0, none⟩).run Try.prog W = .ok (.agg #[.slice A n k]) W := by
  obtain ⟨fs, hu⟩ := table_under
  exact run_loadVar_row W g _ _ _ (0, 0) _ h hu rfl table_info
theorem results_table {fn : Func} {p : Tmp} (hf : fn.results = #[.cell p 49]) (tmps : Array Value) (hp : tmps.getD p undef = .pointer (some ⟨g, 0, none⟩)) (h : KB W g A n k) : (results fn tmps).run Try.prog W = .ok (.agg #[.slice A n k]) W := by
  obtain ⟨fs, hu⟩ := table_under
  exact results_cell_row hf tmps W g _ _ (0, 0) _ hp h hu rfl table_info
theorem results_table2 {fn : Func} {p u : Tmp} (hf : fn.results = #[.cell p 49, .tmp u]) (tmps : Array Value) (hp : tmps.getD p undef = .pointer (some ⟨g, 0, none⟩)) (v : Value) (hv : tmps.getD u undef = v) (h : KB W g A n k) :
    (results fn tmps).run Try.prog W = .ok (.tuple #[.agg #[.slice A n k], v]) W := by
  have hp' : tmps[p]?.getD undef = .pointer (some ⟨g, 0, none⟩) := by simpa using hp
  have hv' : tmps[u]?.getD undef = v := by simpa using hv
  simp [results, hf, hp', hv', asAddr, run_load_table h]

theorem LH.c0 (h : LH W g y) : W.cell? ⟨g, 0, none⟩ = some (.int .i64 y.b) := (cell_of_row _ _ _ _ _ _ h).trans rfl
theorem LH.c1 (h : LH W g y) : W.cell? ⟨g, 1, none⟩ = some (.int .i64 y.x) := (cell_of_row _ _ _ _ _ _ h).trans rfl
theorem LH.c2 (h : LH W g y) : W.cell? ⟨g, 2, none⟩ = some (.int .i64 y.h) := (cell_of_row _ _ _ _ _ _ h).trans rfl
theorem LH.c3 (h : LH W g y) : W.cell? ⟨g, 3, none⟩ = some (.int .i64 y.k) := (cell_of_row _ _ _ _ _ _ h).trans rfl
theorem LH.fr (h : LH W g y) (j : Nat) : W.frozen? ⟨g, j, none⟩ = false := by
  have h' : W.heap[g]? = _ := h
  unfold World.frozen?
  simp only [h']
  simp
theorem LH.lt (h : LH W g y) : g < W.heap.size := lt_of_block h
theorem LH.below (h : LH W g y) (hb : Below W.heap.size W V) : LH V g y := (hb.block g h.lt).trans h
theorem LH.turn {S : Nat → Prop} (h : LH W g y) (ht : Turn S W V) (hS : ¬ S g) : LH V g y := (ht.block g h.lt hS).trans h
theorem LH.far {r : Option Nat} (h : LH W g y) (hg : W.grownBy V r) (hne : some g ≠ r) : LH V g y := (hg.block g h.lt hne).trans h
theorem LH.new (W : World) (y : Lk) : LH (W.alloc (.cells #[.int .i64 y.b, .int .i64 y.x, .int .i64 y.h, .int .i64 y.k] 53)) W.heap.size y := heap_alloc_new W _
theorem LH.setH (h : LH W g y) (x : Int) : LH (W.setCell ⟨g, 2, none⟩ (.int .i64 x)) g { y with h := x } := heap_setCell_same W g 2 _ _ _ h
theorem LH.setK (h : LH W g y) (x : Int) : LH (W.setCell ⟨g, 3, none⟩ (.int .i64 x)) g { y with k := x } := heap_setCell_same W g 3 _ _ _ h
theorem lock_info : (Try.prog.info? 53).map (·.size) = some (#[Value.int .i64 0, .int .i64 0, .int .i64 0, .int .i64 0] : Array Value).size := by kernel_rfl
theorem lock_under : ∃ fs, Try.prog.underlying 53 = some (.struct fs) := ⟨_, Try.underlying53⟩
theorem wpList_store_lock {ops : Array Oper} {rest : List Oper} {o : Oper} {a : Act} {Q : Exit → Act → World → Prop} (hgd : o.guard = none) (x u : Operand) (ho : o.op = .store 53 x u) (hx : a.eval x = .pointer (some ⟨g, 0, none⟩)) (hy : a.eval u = .agg #[.int .i64 z.b, .int .i64 z.x, .int .i64 z.h, .int .i64 z.k])
    (hb : LH W g y) (h : ∀ w', LH w' g z → W.grownBy w' (some g) → wpList Try.prog ops Q rest (a.put o.dst undef) w') : wpList Try.prog ops Q (o :: rest) a W :=
  wpList_store_row hgd 53 x u ho g _ hx hy 53 _ hb lock_info rfl (by simp [Value.oneCell']) (h _ (setRow_heap _ _ _ _ _ _ hb) (setRow_grown _ _ _))
theorem results_lock {fn : Func} {p : Tmp} (hf : fn.results = #[.cell p 53]) (tmps : Array Value) (hp : tmps.getD p undef = .pointer (some ⟨g, 0, none⟩)) (h : LH W g y) : (results fn tmps).run Try.prog W = .ok (.agg #[.int .i64 y.b, .int .i64 y.x, .int .i64 y.h, .int .i64 y.k]) W := by
  obtain ⟨fs, hu⟩ := lock_under
  exact results_cell_row hf tmps W g _ _ (0, 0) _ hp h hu rfl lock_info
end

/-- an address that no variable's name marks, or none -/
def Sp (A : Option Addr) : Prop := A = none ∨ ∃ b o, A = some ⟨b, o, none⟩
theorem LkAt.sp {W : World} {A : Option Addr} {l : List Lk} (h : LkAt W A l) (hne : l ≠ []) : Sp A := by
  rcases h with h | ⟨b, o, e, _⟩
  · exact absurd h hne
  · exact .inr ⟨b, o, e⟩

/-- 'l[:m]' -/
theorem wpList_slice_to {ops : Array Oper} {rest : List Oper} {o : Oper} {a : Act} {w : World} {Q : Exit → Act → World → Prop} (hgd : o.guard = none) (s x : Operand) (ho : o.op = .slice 47 s none (some x) none)
    (A : Option Addr) (n k m : Nat) (hs : a.eval s = .slice A n k) (hx : a.eval x = .int .i64 (m : Int)) (hA : Sp A) (hm : m ≤ k)
    (h : wpList Try.prog ops Q rest (a.put o.dst (.slice A m k)) w) : wpList Try.prog ops Q (o :: rest) a w := by
  refine wpList_plain hgd fun K hK => ?_
  have hrun : (Instr.slice 47 (.slice A n k) none (some (.int .i64 (m : Int))) none).run Try.prog w = .ok (.slice A m k) w := by
    rw [run_slice_h w 47 A n k Try.underlying47 .i64 (m : Int) (by omega) (by omega)]
    rw [show (Go.sizeOf (Try.prog.elem 47)).run Try.prog w = .ok 4 w from Try.sizeOf53 w]
    rcases hA with rfl | ⟨b, q, rfl⟩ <;> simp [Result.andThen, sliced, Addr.add]
  unfold Oper.wp execOp
  simp only [ho, Sem.run_bind, Sem.run_pure, Result.andThen_ok, hs, hx, Option.map_some, Option.map_none, run_sliceAt_slice _ _ _ _ _ _ Try.underlying47, hrun]
  exact hK _ _ h
/-- 'l[m:]' -/
theorem wpList_slice_from {ops : Array Oper} {rest : List Oper} {o : Oper} {a : Act} {w : World} {Q : Exit → Act → World → Prop} (hgd : o.guard = none) (s x : Operand) (ho : o.op = .slice 47 s (some x) none none)
    (A : Option Addr) (n k m : Nat) (hs : a.eval s = .slice A n k) (hx : a.eval x = .int .i64 (m : Int)) (hA : Sp A) (hm : m ≤ n) (hk : n ≤ k) {W : World} {l r : List Lk} (hl : LkAt W A (l ++ r)) (hlm : l.length = m) (hn : (l ++ r).length = n)
    (h : ∀ A' n' k', Sp A' → LkAt W A' r → r.length = n' → n' ≤ k' → wpList Try.prog ops Q rest (a.put o.dst (.slice A' n' k')) w) : wpList Try.prog ops Q (o :: rest) a w := by
  refine wpList_plain hgd fun K hK => ?_
  have hrn : r.length = n - m := by rw [← hn, List.length_append, hlm]; omega
  obtain ⟨A', hA', hL', hrun⟩ : ∃ A', Sp A' ∧ LkAt W A' r ∧ (Instr.slice 47 (.slice A n k) (some (.int .i64 (m : Int))) none none).run Try.prog w = .ok (.slice A' (n - m) (k - m)) w := by
    rw [run_slice_l w 47 A n k Try.underlying47 .i64 (m : Int) (by omega) (by omega)]
    rw [show (Go.sizeOf (Try.prog.elem 47)).run Try.prog w = .ok 4 w from Try.sizeOf53 w]
    by_cases e : k = m
    · have : r = [] := List.eq_nil_of_length_eq_zero (by omega)
      subst this
      exact ⟨A, hA, .inl rfl, by simp [Result.andThen, sliced, e]⟩
    · rcases hA with rfl | ⟨b, q, rfl⟩
      · refine ⟨none, .inl rfl, ?_, by simp [Result.andThen, sliced, e]⟩
        rcases hl with h | ⟨b, q, e, _⟩
        · exact .inl (List.append_eq_nil_iff.1 h).2
        · cases e
      · refine ⟨some ⟨b, q + m * 4, none⟩, .inr ⟨_, _, rfl⟩, hl.right hlm, ?_⟩
        simp [Result.andThen, sliced, e, addr_add]
  unfold Oper.wp execOp
  simp only [ho, Sem.run_bind, Sem.run_pure, Result.andThen_ok, hs, hx, Option.map_some, Option.map_none, run_sliceAt_slice _ _ _ _ _ _ Try.underlying47, hrun]
  exact hK _ _ (h A' (n - m) (k - m) hA' hL' hrn (by omega))
end Go.Proofs.Ytohnfjneghbceaa
