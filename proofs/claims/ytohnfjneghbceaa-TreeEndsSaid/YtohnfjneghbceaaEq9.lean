/-
  Two transactions that are one, held against each other; those that an abort, or a commit, has turned.
-/
import Derived.Test.YtohnfjneghbceaaPlain
import Derived.Laws.StructEq
namespace Go.Proofs.Ytohnfjneghbceaa
set_option maxRecDepth 100000
set_option linter.unusedVariables false
open Go.RowKit Go.Shelf

theorem run_eq_i64 (d : Nat) (x y : Int) (w : World) : (Op.equalIn (d + 1) 3 (.int .i64 x) (.int .i64 y)).run Try.prog w = .ok (x == y) w := by
  simp [Op.equalIn, run_underlying Try.underlying3]
theorem run_part_tx (p s b e : Int) (w : World) : (part 3 #[.int .i64 p, .int .i64 s, .int .i64 b, .int .i64 e] 0).run Try.prog w = .ok (.int .i64 p) w ∧ (part 3 #[.int .i64 p, .int .i64 s, .int .i64 b, .int .i64 e] 1).run Try.prog w = .ok (.int .i64 s) w ∧
    (part 3 #[.int .i64 p, .int .i64 s, .int .i64 b, .int .i64 e] 2).run Try.prog w = .ok (.int .i64 b) w ∧ (part 3 #[.int .i64 p, .int .i64 s, .int .i64 b, .int .i64 e] 3).run Try.prog w = .ok (.int .i64 e) w := by
  have hagg : (isAgg 3).run Try.prog w = .ok false w := by
    unfold isAgg
    rw [Sem.run_bind, run_underlying Try.underlying3 w]
    rfl
  refine ⟨?_, ?_, ?_, ?_⟩ <;> simp [part, Sem.run_bind, hagg]
theorem run_tx_in (p s b e : Int) (w : World) : (Op.equalIn 10000 32 (.agg #[.int .i64 p, .int .i64 s, .int .i64 b, .int .i64 e]) (.agg #[.int .i64 p, .int .i64 s, .int .i64 b, .int .i64 e])).run Try.prog w = .ok true w := by
  have hf : Try.prog.underlying 32 = some (.struct (Try.prog.fieldsOf 32)) := by kernel_rfl
  obtain ⟨h0, h1, h2, h3⟩ := run_part_tx p s b e w
  have he : ∀ x y : Int, (Op.equalIn 9999 3 (.int .i64 x) (.int .i64 y)).run Try.prog w = .ok (x == y) w := fun x y => run_eq_i64 9998 x y w
  rw [run_equalIn_agg w 9999 _ _ _ hf (by kernel_rfl)]
  simp only [Program.fieldsOf, Try.underlying32]
  have hn : ∀ s : String, (s = "Parent" ∨ s = "State" ∨ s = "Began" ∨ s = "Ended") → s ≠ "_" := by
    intro s hs e
    subst e
    rcases hs with hs | hs | hs | hs <;> exact absurd hs (by decide)
  simp only [Op.eqFields]
  rw [if_pos (hn _ (.inl rfl)), if_pos (hn _ (.inr (.inl rfl))), if_pos (hn _ (.inr (.inr (.inl rfl)))), if_pos (hn _ (.inr (.inr (.inr rfl))))]
  clear hn hf
  simp [Sem.run_bind, h0, h1, h2, h3, Result.andThen_ok, he]
theorem run_tx_neq (p s b e : Int) (w : World) : (binOp .neq 32 (.agg #[.int .i64 p, .int .i64 s, .int .i64 b, .int .i64 e]) (.agg #[.int .i64 p, .int .i64 s, .int .i64 b, .int .i64 e])).run Try.prog w = .ok (.bool false) w := by
  rw [run_neq_struct, run_tx_in]
  rfl
theorem run_tx_guard (op : BinOp) (x y : Operand) (s t : Array Value) (w : World) : (eqGuard op 32 x y (.agg s) (.agg t)).run Try.prog w = .ok () w :=
  run_eqGuard_agg (P := Try.prog) w _ _ _ _ _ _ (by kernel_rfl)

theorem undone_in {T : Tr} {i j : Nat} (hj : j < T.l.length) (h : T.inn i j) : ((T.undone i).tx j).s = 3 := by
  unfold Tr.undone
  by_cases h3 : (T.tx j).s = 3
  · rw [tx_out hj (fun h' => h'.2 h3)]; exact h3
  · exact (tx_in (X := fun y => T.inn i y ∧ (T.tx y).s ≠ 3) hj ⟨h, h3⟩).1
theorem undone_out {T : Tr} {i j : Nat} (hj : j < T.l.length) (h : ¬ T.inn i j) : (T.undone i).tx j = T.tx j := by
  unfold Tr.undone
  exact tx_out hj (fun h' => h h'.1)
theorem done_at {T : Tr} {i : Nat} (hi : i < T.l.length) : ((T.done i).tx i).s = 2 ∧ ((T.done i).tx i).e = T.c + 1 := tx_in (X := fun y => y = i) hi rfl
theorem done_out {T : Tr} {i j : Nat} (hj : j < T.l.length) (h : j ≠ i) : (T.done i).tx j = T.tx j := by
  unfold Tr.done
  exact tx_out hj h
theorem gone_succ (T : Tr) (i j : Nat) : (T.gone i (j + 1)).length = if T.inn i j ∧ (T.tx j).s ≠ 3 then (T.gone i j).length + 1 else (T.gone i j).length := by
  unfold Tr.gone
  rw [kin_succ]
  by_cases h : T.inn i j
  · rw [if_pos h, List.filter_append, List.length_append]
    by_cases h3 : (T.tx j).s = 3
    · rw [if_neg (fun h' => h'.2 h3)]; simp [h3]
    · rw [if_pos ⟨h, h3⟩]; simp [h3]
  · rw [if_neg h, if_neg (fun h' => h h'.1)]
theorem gone_len (T : Tr) (i j : Nat) : (T.gone i j).length ≤ j := by
  unfold Tr.gone
  exact Nat.le_trans (List.length_filter_le _ _) (kin_len T i j)

end Go.Proofs.Ytohnfjneghbceaa
