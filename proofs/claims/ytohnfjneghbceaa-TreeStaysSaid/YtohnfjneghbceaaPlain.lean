/-
  Plain facts on ways: what one stands in, the top one, how many.
-/
import Derived.Test.YtohnfjneghbceaaGrown
namespace Go.Proofs.Ytohnfjneghbceaa
set_option maxRecDepth 100000
set_option linter.unusedVariables false
open Go.RowKit Go.Shelf

theorem stands_nat {T : Tr} {i : Nat} (hi : i < T.l.length) (of : Nat) : T.stands (i : Int) (of : Int) = decide (T.inn of i) := by
  unfold Tr.stands
  rw [Tr.way_nat hi, Bool.eq_iff_iff, List.any_eq_true, decide_eq_true_eq]
  constructor
  · rintro ⟨x, hx, he⟩
    have e : x = of := by have := of_decide_eq_true he; omega
    rw [← e]; exact hx
  · exact fun h => ⟨of, h, by simp⟩
theorem stands_step {T : Tr} (hG : Good T) {i : Nat} (hi : i < T.l.length) (of : Nat) : T.stands (i : Int) (of : Int) = (decide (of = i) || T.stands (T.tx i).p (of : Int)) := by
  unfold Tr.stands
  rw [way_step hG hi, List.any_cons]
  congr 1
  by_cases h : of = i
  · subst h; simp
  · simp [h]; omega
theorem stands_none' {T : Tr} {p : Int} (hp : p < 0) (of : Int) : T.stands p of = false := by
  unfold Tr.stands
  rw [Tr.way_none (.inl hp)]; rfl
theorem top_step {T : Tr} (hG : Good T) {i : Nat} (hi : i < T.l.length) : T.top (i : Int) = if (T.tx i).p = -1 then (i : Int) else T.top (T.tx i).p := by
  unfold Tr.top
  rw [way_step hG hi, List.find?_cons]
  by_cases h : (T.tx i).p = -1
  · simp [h]
  · simp [h]
theorem top_in {T : Tr} (hG : Good T) (i : Nat) (hi : i < T.l.length) : ∃ t : Nat, T.top (i : Int) = t ∧ t < T.l.length ∧ (T.tx t).p = -1 ∧ T.inn t i := by
  induction i using Nat.strongRecOn with
  | ind i ih =>
    rw [top_step hG hi]
    by_cases h : (T.tx i).p = -1
    · rw [if_pos h]
      exact ⟨i, rfl, hi, h, wayN_self _ _⟩
    · rw [if_neg h]
      have hp := hG.par i hi
      obtain ⟨j, hj⟩ : ∃ j : Nat, (T.tx i).p = j := ⟨(T.tx i).p.toNat, by omega⟩
      obtain ⟨t, h1, h2, h3, h4⟩ := ih j (by omega) (by omega)
      refine ⟨t, by rw [hj]; exact h1, h2, h3, ?_⟩
      unfold Tr.inn at h4 ⊢
      rw [wayN_up (f := T.par) (j := j) hj (by omega)]
      exact List.mem_cons_of_mem _ h4
theorem top_same {T : Tr} (hG : Good T) (i of : Nat) (hi : i < T.l.length) (h : T.inn of i) : T.top (of : Int) = T.top (i : Int) := by
  induction i using Nat.strongRecOn with
  | ind i ih =>
    by_cases e : of = i
    · rw [e]
    · unfold Tr.inn at h
      rw [wayN_eq] at h
      rcases List.mem_cons.1 h with h | h
      · exact absurd h e
      · split at h
        · next hc =>
          have hp : T.par i = (T.tx i).p := rfl
          obtain ⟨j, hj⟩ : ∃ j : Nat, (T.tx i).p = j := ⟨(T.tx i).p.toNat, by omega⟩
          rw [hp, hj] at h
          rw [top_step hG hi, if_neg (by omega), hj]
          exact ih j (by omega) (by omega) (by have h2 : of ∈ wayN T.par j := (by simpa using h); exact h2)
        · simp at h
theorem way_empty {T : Tr} (h : T.l.length = 0) (a : Int) : T.way a = [] := Tr.way_none (by omega)
theorem top_empty {T : Tr} (h : T.l.length = 0) (a : Int) : T.top a = -1 := by unfold Tr.top; rw [way_empty h]; rfl

/-- how many of a list lie below j -/
def cnt (l : List Nat) (j : Nat) : Nat := (l.filter (fun x => decide (x < j))).length
theorem cnt_zero (l : List Nat) : cnt l 0 = 0 := by unfold cnt; simp
theorem cnt_all {l : List Nat} {n : Nat} (h : ∀ x ∈ l, x < n) : cnt l n = l.length := by
  unfold cnt
  rw [List.filter_eq_self.2 (fun x hx => by simpa using h x hx)]
theorem cnt_succ : ∀ {l : List Nat} {j : Nat}, l.Nodup → cnt l (j + 1) = cnt l j + (if j ∈ l then 1 else 0)
  | [], j, _ => by simp [cnt]
  | x :: l, j, h => by
    have ih := cnt_succ (l := l) (j := j) (List.nodup_cons.1 h).2
    unfold cnt at ih ⊢
    have hx := (List.nodup_cons.1 h).1
    by_cases h1 : x < j
    · have h2 : x < j + 1 := by omega
      have h3 : ¬ j = x := by omega
      simp only [List.filter_cons, decide_eq_true h1, decide_eq_true h2, if_true, List.length_cons, List.mem_cons, h3, false_or]
      omega
    · by_cases h2 : x = j
      · subst h2
        simp only [List.filter_cons, decide_eq_false h1, List.mem_cons, true_or, if_true, decide_eq_true (Nat.lt_succ_self x), List.length_cons]
        rw [if_neg hx] at ih
        simp only [Bool.false_eq_true, if_false]
        omega
      · have h3 : ¬ x < j + 1 := by omega
        have h4 : ¬ j = x := fun e => h2 e.symm
        simp only [List.filter_cons, decide_eq_false h1, decide_eq_false h3, List.mem_cons, h4, false_or]
        simpa using ih

end Go.Proofs.Ytohnfjneghbceaa
