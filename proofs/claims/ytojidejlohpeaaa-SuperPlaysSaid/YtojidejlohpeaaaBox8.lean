/-
  A super in a block: loaded, stored and answered whole.
-/
import Derived.Test.YtojidejlohpeaaaSane8
import Derived.Laws.ResultCell
import Derived.Laws.Tables
namespace Go.Proofs.Ytojidejlohpeaaa
set_option maxRecDepth 100000
open Go.RowKit Crc Wm Sup

/-- the type of a super, the program's or the document's -/
structure SupTy (ty : TypeId) : Prop where
  hu : ∃ fs, Try.prog.underlying ty = some (.struct fs)
  hi : (Try.prog.info? ty).map (·.size) = some 7
theorem tyP : SupTy 29 := ⟨⟨_, Try.underlying29⟩, by kernel_rfl⟩
theorem tyR : SupTy 23 := ⟨⟨_, Try.underlying23⟩, by kernel_rfl⟩

theorem supC_one (s : Sup) : (supC s).all (·.oneCell') = true := by
  unfold supC
  simp [Value.oneCell']
theorem supC_size (s : Sup) : (supC s).size = 7 := rfl
theorem supV_inj {s t : Sup} (h : supV s = supV t) : s = t := by
  unfold supV supC at h
  simp at h
  cases s
  cases t
  simp_all

section
variable {ty t : TypeId} {w : World} {g : Nat} {s s0 : Sup}
theorem run_load_sup (hT : SupTy ty) (h : SupAt w g t s) : (loadVar ty ⟨g, 0, none⟩).run Try.prog w = .ok (supV s) w := by
  obtain ⟨⟨fs, hu⟩, hi⟩ := hT
  exact run_loadVar_row w g t ty (supC s) (0, 0) _ h hu rfl hi
theorem wpList_load_sup {ops : Array Oper} {rest : List Oper} {o : Oper} {a : Act} {Q : Exit → Act → World → Prop} (hT : SupTy ty) (h : SupAt w g t s) (hgd : o.guard = none) (x : Operand) (ho : o.op = .load ty x) (hx : a.eval x = .pointer (some ⟨g, 0, none⟩))
    (k : wpList Try.prog ops Q rest (a.put o.dst (supV s)) w) : wpList Try.prog ops Q (o :: rest) a w := by
  obtain ⟨⟨fs, hu⟩, hi⟩ := hT
  exact wpList_load_row hgd ty x ho g hx t (supC s) (0, 0) _ h hu rfl hi k
theorem wpList_store_sup {ops : Array Oper} {rest : List Oper} {o : Oper} {a : Act} {Q : Exit → Act → World → Prop} (hT : SupTy ty) (h : SupAt w g t s0) (hgd : o.guard = none) (x y : Operand) (ho : o.op = .store ty x y) (hx : a.eval x = .pointer (some ⟨g, 0, none⟩)) (s : Sup) (hy : a.eval y = supV s)
    (k : ∀ w', SupAt w' g t s → w.grownBy w' (some g) → wpList Try.prog ops Q rest (a.put o.dst undef) w') : wpList Try.prog ops Q (o :: rest) a w := by
  obtain ⟨⟨fs, hu⟩, hi⟩ := hT
  refine wpList_store_row hgd ty x y ho g (supC s) hx hy t (supC s0) h hi rfl (supC_one s) (k _ (setRow_heap _ _ _ _ _ _ h) ?_)
  exact ⟨rfl, rfl, rfl, by rw [setRow_size]; exact Nat.le_refl _, fun j _ hj => setRow_other w g j _ (fun e => hj (by rw [e]))⟩
theorem results_sup {fn : Func} {p : Tmp} (hT : SupTy ty) (hf : fn.results = #[.cell p ty]) (tmps : Array Value) (hp : tmps.getD p undef = .pointer (some ⟨g, 0, none⟩)) (h : SupAt w g t s) : (results fn tmps).run Try.prog w = .ok (supV s) w := by
  obtain ⟨⟨fs, hu⟩, hi⟩ := hT
  exact results_cell_row hf tmps w g t (supC s) (0, 0) _ hp h hu rfl hi
theorem results_sup2 {fn : Func} {p u : Tmp} (hT : SupTy ty) (hf : fn.results = #[.cell p ty, .tmp u]) (tmps : Array Value) (hp : tmps.getD p undef = .pointer (some ⟨g, 0, none⟩)) (v : Value) (hv : tmps.getD u undef = v) (h : SupAt w g t s) : (results fn tmps).run Try.prog w = .ok (.tuple #[supV s, v]) w := by
  have hp' : tmps[p]?.getD undef = .pointer (some ⟨g, 0, none⟩) := by simpa using hp
  have hv' : tmps[u]?.getD undef = v := by simpa using hv
  simp [results, hf, hp', hv', asAddr, run_load_sup hT h]
/-- in another block -/
theorem SupAt.far {V : World} {r : Nat} (h : SupAt w g t s) (hg : w.grownBy V (some r)) (hne : g ≠ r) : SupAt V g t s := (hg.block g (lt_of_block h) (fun e => by injection e with e; exact hne e)).trans h
end

end Go.Proofs.Ytojidejlohpeaaa
