/-
  The stacks of a map, each in a row of its own; settle: which entries are open, and whether each one with Undo undoes one.
-/
import Derived.Test.YtpphhhalmccnbaaQb
namespace Go.Proofs.Ytpphhhalmccnbaa
set_option maxRecDepth 100000
set_option linter.unusedVariables false
set_option linter.unusedSimpArgs false
open Go.RowKit

/-- a stack's places, as numbers -/
def nI (l : List Nat) : List Int := l.map fun j : Nat => (j : Int)
theorem nI_len (l : List Nat) : (nI l).length = l.length := by unfold nI; simp
theorem nI_snoc (l : List Nat) (j : Nat) : nI (l ++ [j]) = nI l ++ [(j : Int)] := by unfold nI; simp
/-- each kind's stack lies in a row of its own, from B on -/
structure Sk (W : World) (B : Nat) (V : Kd → Value) (P : List Pe) : Prop where
  own : ∀ k, RI.Own W B (V k) (nI (stkO P k))
  apart : ∀ k q j, (V k).ownBlock = some j → (V q).ownBlock = some j → k = q
theorem Sk.nil (W : World) (B : Nat) : Sk W B (fun _ => nilI) [] := ⟨fun k => Rk.Own.nil _ _ _, fun k q j e => by cases e⟩
section
variable {W W' : World} {B : Nat} {V : Kd → Value} {P : List Pe}
theorem Sk.turn {S : Nat → Prop} (h : Sk W B V P) (ht : Turn S W W') (hS : ∀ q, B ≤ q → q < W.heap.size → ¬ S q) : Sk W' B V P :=
  ⟨fun k => (h.own k).turn ht fun j e => hS j ((h.own k).lt j e).1 ((h.own k).lt j e).2, h.apart⟩
theorem Sk.below (h : Sk W B V P) (hb : Below W.heap.size W W') : Sk W' B V P := h.turn (S := fun _ => False) (Turn.ofBelow hb) (fun q _ _ h => h)
/-- one kind's stack has turned -/
theorem Sk.step {P' : List Pe} {k0 : Kd} {v : Value} (h : Sk W B V P) (ho : RI.Own W' B v (nI (stkO P' k0))) (ht : Turn (fun q => (V k0).ownBlock = some q) W W') (hv : v.ownBlock = (V k0).ownBlock ∨ ∃ g, v.ownBlock = some g ∧ W.heap.size ≤ g)
    (he : ∀ k, k ≠ k0 → stkO P' k = stkO P k) : Sk W' B (fun k => if k = k0 then v else V k) P' := by
  refine ⟨fun k => ?_, fun k q j e1 e2 => ?_⟩
  · by_cases hk : k = k0
    · subst hk; simp only [if_true]; exact ho
    · simp only [if_neg hk]
      rw [he k hk]
      exact (h.own k).turn ht fun j e e' => hk (h.apart _ _ j e e')
  · have key : ∀ q, ¬ q = k0 → ∀ j, v.ownBlock = some j → (V q).ownBlock = some j → False := fun q hq j e e' => by
      rcases hv with h1 | ⟨g, h1, h2⟩
      · exact hq (h.apart _ _ j e' (by rw [← h1]; exact e))
      · rw [h1] at e
        injection e with e
        have := ((h.own q).lt j e').2
        omega
    by_cases hk : k = k0
    · by_cases hq : q = k0
      · rw [hk, hq]
      · simp only [if_pos hk, if_neg hq] at e1 e2
        exact (key q hq j e1 e2).elim
    · by_cases hq : q = k0
      · simp only [if_neg hk, if_pos hq] at e1 e2
        exact (key k hk j e2 e1).elim
      · simp only [if_neg hk, if_neg hq] at e1 e2
        exact h.apart _ _ j e1 e2
end
/-- a map of stacks -/
structure Ms (W : World) (b n B : Nat) (P : List Pe) : Prop where
  ex : ∃ V, Km W b n V ∧ Sk W B V P
  lt : b < B
theorem Ms.turn {W W' : World} {b n B : Nat} {P : List Pe} {S : Nat → Prop} (h : Ms W b n B P) (ht : Turn S W W') (hS : ∀ q, S q → q < B ∧ q ≠ b) : Ms W' b n B P := by
  obtain ⟨⟨V, h1, h2⟩, h3⟩ := h
  exact ⟨⟨V, h1.turn ht (fun h => (hS b h).2 rfl), h2.turn ht (fun q h4 h5 h6 => by have := (hS q h6).1; omega)⟩, h3⟩
theorem Ms.below {W W' : World} {b n B : Nat} {P : List Pe} (h : Ms W b n B P) (hb : Below W.heap.size W W') : Ms W' b n B P := h.turn (S := fun _ => False) (Turn.ofBelow hb) (fun q h => h.elim)

/-- what settle knows behind the first i: which are open, and whether each Undo so far undid one -/
structure Sd (l : List En) (i : Nat) (P : List Pe) (ev : Bool) : Prop where
  fit : Fit (l.take i) P
  yes : ev = true → openO (l.take i) = some P
  no : ev = false → openO (l.take i) = none
theorem Sd.zero (l : List En) : Sd l 0 [] true := ⟨⟨.nil, by simp, by simp⟩, fun _ => by rfl, fun h => by cases h⟩
section
variable {l : List En} {i : Nat} {P : List Pe} {ev : Bool} {e : En}
theorem take_snoc {α : Type} {l : List α} {i : Nat} {e : α} (h : l[i]? = some e) : l.take (i + 1) = l.take i ++ [e] := by rw [List.take_add_one, h]; rfl
theorem take_lenE {l : List En} {i : Nat} {e : En} (h : l[i]? = some e) : (l.take i).length = i := by
  rw [List.length_take]
  have := (List.getElem?_eq_some_iff.1 h).1
  omega
theorem Sd.push (h : Sd l i P ev) (he : l[i]? = some e) (hu : e.u = false) : Sd l (i + 1) (P ++ [(i, e)]) ev := by
  refine ⟨?_, fun hv => ?_, fun hv => ?_⟩
  · have := h.fit.snoc hu
    rw [take_lenE he] at this
    rw [take_snoc he]; exact this
  · rw [openO_step (h.yes hv) he, step_own hu]
  · rw [openO_take he, h.no hv]; rfl
theorem Sd.lost (h : Sd l i P ev) (he : l[i]? = some e) (hu : e.u = true) (hs : stkO P e.kdU = []) : Sd l (i + 1) P false := by
  refine ⟨by rw [take_snoc he]; exact h.fit.more, fun hv => (by cases hv), fun _ => ?_⟩
  cases ev with
  | true => rw [openO_step (h.yes rfl) he]; exact (stkO_empty hu).mp hs
  | false => rw [openO_take he, h.no rfl]; rfl
theorem Sd.pop (h : Sd l i P ev) (he : l[i]? = some e) (hu : e.u = true) {s : List Nat} {j : Nat} (hs : stkO P e.kdU = s ++ [j]) : Sd l (i + 1) (P.filter fun p => !decide (p.1 = j)) ev := by
  have hp := stkO_pop (i := i) h.fit hu hs
  have hst := hp.1
  refine ⟨?_, fun hv => ?_, fun hv => ?_⟩
  · have hf : stepO (l.take i).length e P = some (P.filter fun p => !decide (p.1 = j)) := by rw [take_lenE he]; exact hst
    rw [take_snoc he]; exact step_fit h.fit hf
  · rw [openO_step (h.yes hv) he]; exact hst
  · rw [openO_take he, h.no hv]; rfl
end
theorem stkO_push {P : List Pe} {i : Nat} {e : En} : stkO (P ++ [(i, e)]) e.kd = stkO P e.kd ++ [i] := by rw [stkO_snoc, if_pos rfl]
theorem stkO_oth {P : List Pe} {i : Nat} {e : En} {k : Kd} (h : k ≠ e.kd) : stkO (P ++ [(i, e)]) k = stkO P k := by rw [stkO_snoc, if_neg (fun e => h e.symm), List.append_nil]
end Go.Proofs.Ytpphhhalmccnbaa
