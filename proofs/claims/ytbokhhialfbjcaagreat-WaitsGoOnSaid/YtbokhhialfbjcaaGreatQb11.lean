/-
  A queue in a block; a want in a block; a row of one laid.
-/
import Derived.Test.YtbokhhialfbjcaaGreatSan11
import Derived.Test.YtbokhhialfbjcaaGreatStateA
namespace Go.Proofs.YtbokhhialfbjcaaGreat
set_option maxRecDepth 100000
set_option linter.unusedVariables false
open Go.RowKit Go.Shelf Go.Sort

abbrev Qb (W : World) (g : Nat) (A : Option Addr) (n k : Nat) : Prop := Bk W g #[.slice A n k] 28
abbrev Wb (W : World) (g : Nat) (y : Wn) : Prop := Bk W g #[.int .i64 (y.x : Int), .int .i64 y.b, .int .i64 y.m] 52
theorem queue_info : (Tryz.prog.info? 28).map (·.size) = some (#[Value.slice none 0 0] : Array Value).size := by kernel_rfl
theorem queue_under : ∃ fs, Tryz.prog.underlying 28 = some (.struct fs) := ⟨_, Tryz.underlying28⟩
section
variable {W V : World} {g : Nat} {A A' : Option Addr} {n k n' k' : Nat} {y z : Wn}
theorem wp_store_queue {o : Oper} {a : Act} {K : Act → World → Prop} {Q : Exit → Act → World → Prop} (x u : Operand) (ho : o.op = .store 28 x u) (hx : a.eval x = .pointer (some ⟨g, 0, none⟩)) (hy : a.eval u = .agg #[.slice A' n' k'])
    (hb : Qb W g A n k) (h : ∀ w', Qb w' g A' n' k' → W.grownBy w' (some g) → K (a.put o.dst undef) w') : o.wp Tryz.prog a W K Q :=
  wp_store_row 28 x u ho g _ hx hy 28 _ hb queue_info rfl (by simp [Value.oneCell']) (h _ (setRow_heap _ _ _ _ _ _ hb) (setRow_grown _ _ _))
theorem wpList_store_queue {ops : Array Oper} {rest : List Oper} {o : Oper} {a : Act} {Q : Exit → Act → World → Prop} (hgd : o.guard = none) (x u : Operand) (ho : o.op = .store 28 x u) (hx : a.eval x = .pointer (some ⟨g, 0, none⟩)) (hy : a.eval u = .agg #[.slice A' n' k'])
    (hb : Qb W g A n k) (h : ∀ w', Qb w' g A' n' k' → W.grownBy w' (some g) → wpList Tryz.prog ops Q rest (a.put o.dst undef) w') : wpList Tryz.prog ops Q (o :: rest) a W :=
  wpList_store_row hgd 28 x u ho g _ hx hy 28 _ hb queue_info rfl (by simp [Value.oneCell']) (h _ (setRow_heap _ _ _ _ _ _ hb) (setRow_grown _ _ _))
theorem run_load_queue (h : Qb W g A n k) : (loadVar 28 ⟨g, 0, none⟩).run Tryz.prog W = .ok (.agg #[.slice A n k]) W := by
  obtain ⟨fs, hu⟩ := queue_under
  exact run_loadVar_row W g _ _ _ (0, 0) _ h hu rfl queue_info
theorem results_queue {fn : Func} {p : Tmp} (hf : fn.results = #[.cell p 28]) (tmps : Array Value) (hp : tmps.getD p undef = .pointer (some ⟨g, 0, none⟩)) (h : Qb W g A n k) : (results fn tmps).run Tryz.prog W = .ok (.agg #[.slice A n k]) W := by
  obtain ⟨fs, hu⟩ := queue_under
  exact results_cell_row hf tmps W g _ _ (0, 0) _ hp h hu rfl queue_info
theorem results_queue2 {fn : Func} {p u : Tmp} (hf : fn.results = #[.cell p 28, .tmp u]) (tmps : Array Value) (hp : tmps.getD p undef = .pointer (some ⟨g, 0, none⟩)) (v : Value) (hv : tmps.getD u undef = v) (h : Qb W g A n k) :
    (results fn tmps).run Tryz.prog W = .ok (.tuple #[.agg #[.slice A n k], v]) W := by
  have hp' : tmps[p]?.getD undef = .pointer (some ⟨g, 0, none⟩) := by simpa using hp
  have hv' : tmps[u]?.getD undef = v := by simpa using hv
  simp [results, hf, hp', hv', asAddr, run_load_queue h]
theorem wp_build_want {o : Oper} {a : Act} {K : Act → World → Prop} {Q : Exit → Act → World → Prop} (x : Operand) (ho : o.op = .buildSlice 26 1 #[(0, x)]) (hx : a.eval x = wnV y)
    (h : ∀ w' h', W.heap.size ≤ h' → RW.At w' (some ⟨h', 0, none⟩) [y] → Below W.heap.size W w' → K (a.put o.dst (.slice (some ⟨h', 0, none⟩) 1 1)) w') : o.wp Tryz.prog a W K Q := by
  unfold wnV at hx
  unfold Oper.wp execOp
  simp only [ho, List.map_toArray, List.map_cons, List.map_nil, hx]
  go_simp
  exact h _ _ (Nat.le_refl _) (Rk.At.new rw_ok W y _) (below_new W _)
end

theorem cloneW_any (A : Option Addr) (l : List Wn) (n cap : Nat) (w : World) (hl : l.length = n) (hn : n ≤ 100000) (hA : A = none ∨ ∃ b o, A = some ⟨b, o, none⟩) (hT : RW.At w A l) :
    Calls Tryz.prog 38 #[.slice A n cap] w fun e w' => ∃ A' k', e = .returned (.slice A' n k') ∧ RW.Own w' w.heap.size (.slice A' n k') l ∧ Below w.heap.size w w' := by
  subst hl
  rcases hA with rfl | ⟨b, o, rfl⟩
  · have hm0 : l = [] := by
      rcases hT with h | ⟨b, o, e, _⟩
      · exact h
      · cases e
    subst hm0
    refine (AnyE.slices_Clone_nil (P := Tryz.prog) (ρ := Tryz.cloneW_ren) Tryz.cloneW 0 cap w).mono ?_
    rintro e w' ⟨rfl, rfl⟩
    exact ⟨none, 0, rfl, World.ownsRow_nil _ _ _ _, Below.refl _ _⟩
  · obtain ⟨i0, hi, hz, hs1, hb⟩ := parts_of rw_ok.facts
    have hcells : ∀ j u, (RW.cells l)[j]? = some u → w.cell? ⟨b, o + j, none⟩ = some u := by
      rcases hT with rfl | ⟨b', o', e, _, hc⟩
      · intro j u hu; simp [Rk.cells] at hu
      · injection e with e
        injection e with e1 e2
        subst e1; subst e2
        exact hc
    refine (AnyE.slices_Clone (P := Tryz.prog) (ρ := Tryz.cloneW_ren) Tryz.cloneW i0 _ 3 24 hi hz hs1 hb rfl (by decide) Tryz.sizeOf52 b o l.length cap (RW.cells l) w (rw_ok.length l) (by unfold maxLen; omega) (by omega) hcells (rw_ok.ones l)).mono ?_
    rintro e w' ⟨v, rfl, ho, _, hb⟩
    obtain ⟨A', k', rfl, _⟩ := Rk.Own.form rw_ok (l := l) ho
    exact ⟨A', k', rfl, ho, hb⟩
end Go.Proofs.YtbokhhialfbjcaaGreat
