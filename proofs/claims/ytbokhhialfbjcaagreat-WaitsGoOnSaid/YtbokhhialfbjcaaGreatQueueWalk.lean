/-
  WaitsQueue, walked.
-/
import Derived.Test.YtbokhhialfbjcaaGreatAw11
namespace Go.Proofs.YtbokhhialfbjcaaGreat
set_option maxRecDepth 100000
set_option linter.unusedVariables false
set_option linter.unusedSimpArgs false
open Go.RowKit Go.Shelf Go.Sort

theorem sq_snoc {Q : List Wn} {y : Wn} (h : SQ Q) (hy : MayW y) (ha : addE Q y = 0) : SQ (Q ++ [y]) := by
  unfold addE at ha
  by_cases h1 : hasL Q (y.x : Int) = true
  · rw [if_pos h1] at ha; cases ha
  · rw [if_neg h1] at ha
    by_cases h2 : 64 ≤ Q.length
    · rw [if_pos h2] at ha; cases ha
    · refine ⟨by rw [List.length_append]; simp; omega, fun w hw => ?_, List.pairwise_append.2 ⟨h.one, List.pairwise_singleton _ _, fun a ha b hb => ?_⟩⟩
      · rcases List.mem_append.1 hw with hw | hw
        · exact h.may w hw
        · have : w = y := by simpa using hw
          rw [this]; exact hy
      · have hb : b = y := by simpa using hb
        subst hb
        intro e
        refine h1 ?_
        unfold hasL
        rw [List.any_eq_true]
        exact ⟨a, ha, by simp [e]⟩
theorem sq_filter {Q : List Wn} (h : SQ Q) (P : Wn → Bool) : SQ (Q.filter P) :=
  ⟨Nat.le_trans (List.length_filter_le _ _) h.n, fun w hw => h.may w (List.mem_filter.1 hw).1, h.one.sublist List.filter_sublist⟩
theorem sq_drop {Q : List Wn} (h : SQ Q) (l : List Nat) : SQ (dropL Q l) := sq_filter h _
theorem add_new {Q : List Wn} {y : Wn} (h : ∀ w ∈ Q, w.x ≠ y.x) (hn : Q.length < 64) : addE Q y = 0 := by
  unfold addE
  rw [if_neg, if_neg (by omega)]
  intro e
  unfold hasL at e
  rw [List.any_eq_true] at e
  obtain ⟨a, ha, e⟩ := e
  have := h a ha
  simp at e
  omega
theorem qu_new {j : Nat} : ∀ w ∈ quQ j, w.x ≠ j + 2 := by
  intro w hw
  unfold quQ at hw
  rcases List.mem_cons.1 hw with h | h
  · subst h
    show 1 ≠ j + 2
    omega
  · obtain ⟨i, hi, rfl⟩ := List.mem_map.1 h
    have := List.mem_range.1 hi
    show i + 2 ≠ j + 2
    omega
theorem ask_qu {T : Tr} {k : Nat} (h : Tops T k) (hk : 3 ≤ k) : askE T [] 0 5 1 = 0 := by
  unfold askE
  rw [if_pos (by rw [h.n]; omega), if_pos (show (T.tx (Int.toNat 0)).s = 1 from (h.each 0 (by omega)).2), if_pos (show agL T 0 5 1 [] = [] from rfl)]

end Go.Proofs.YtbokhhialfbjcaaGreat
