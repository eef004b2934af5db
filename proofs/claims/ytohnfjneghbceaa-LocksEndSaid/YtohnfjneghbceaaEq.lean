/-
  What a commit, or an abort, has turned.
-/
import Derived.Test.YtohnfjneghbceaaPlain
namespace Go.Proofs.Ytohnfjneghbceaa
set_option maxRecDepth 100000
set_option linter.unusedVariables false
open Go.RowKit Go.Shelf

theorem undone_in {T : Tr} {i j : Nat} (hj : j < T.l.length) (h : T.inn i j) : ((T.undone i).tx j).s = 3 := by
  unfold Tr.undone
  by_cases h3 : (T.tx j).s = 3
  · rw [tx_out hj (fun h' => h'.2 h3)]; exact h3
  · exact (tx_in (X := fun y => T.inn i y ∧ (T.tx y).s ≠ 3) hj ⟨h, h3⟩).1
theorem undone_out {T : Tr} {i j : Nat} (hj : j < T.l.length) (h : ¬ T.inn i j) : (T.undone i).tx j = T.tx j := by
  unfold Tr.undone
  exact tx_out hj (fun h' => h h'.1)
theorem done_at {T : Tr} {i : Nat} (hi : i < T.l.length) : ((T.done i).tx i).s = 2 ∧ ((T.done i).tx i).e = T.c + 1 := tx_in (X := fun y => y = i) hi rfl
theorem done_out {T : Tr} {i j : Nat} (hj : j < T.l.length) (h : j ≠ i) : (T.done i).tx j = T.tx j := by
  unfold Tr.done
  exact tx_out hj h
theorem gone_succ (T : Tr) (i j : Nat) : (T.gone i (j + 1)).length = if T.inn i j ∧ (T.tx j).s ≠ 3 then (T.gone i j).length + 1 else (T.gone i j).length := by
  unfold Tr.gone
  rw [kin_succ]
  by_cases h : T.inn i j
  · rw [if_pos h, List.filter_append, List.length_append]
    by_cases h3 : (T.tx j).s = 3
    · rw [if_neg (fun h' => h'.2 h3)]; simp [h3]
    · rw [if_pos ⟨h, h3⟩]; simp [h3]
  · rw [if_neg h, if_neg (fun h' => h h'.1)]
theorem gone_len (T : Tr) (i j : Nat) : (T.gone i j).length ≤ j := by
  unfold Tr.gone
  exact Nat.le_trans (List.length_filter_le _ _) (kin_len T i j)

end Go.Proofs.Ytohnfjneghbceaa
