/-
  Two notes as one, by their words: nothing more, in any order, how many. No program.
-/
import Derived.Test.YtjpnihmijnpjcaaNq
namespace Go.Proofs.Ytjpnihmijnpjcaa
set_option maxRecDepth 100000
set_option linter.unusedVariables false
set_option linter.unusedSimpArgs false
open Go.RowKit Wm Nn

namespace Nn
theorem fm_congr {α β : Type} {f g : α → Option β} : ∀ {l : List α}, (∀ x ∈ l, f x = g x) → l.filterMap f = l.filterMap g
  | [], _ => rfl
  | x :: l, h => by
    rw [List.filterMap_cons, List.filterMap_cons, h x List.mem_cons_self, fm_congr (l := l) (fun y hy => h y (List.mem_cons_of_mem _ hy))]
def Up (l : List Im) : Prop := l.Pairwise fun x y => x.k < y.k
theorem up_of {l : List Im} (h : ∀ j, imGood l j) : Up l := by
  have h1 : ∀ d i x y, l[i]? = some x → l[i + d + 1]? = some y → x.k < y.k := by
    intro d
    induction d with
    | zero => intro i x y hx hy; exact (h (i + 1) y hy).2.2 i x rfl hx
    | succ d ih =>
      intro i x y hx hy
      obtain ⟨z, hz⟩ : ∃ z, l[i + d + 1]? = some z := ⟨_, List.getElem?_eq_getElem (by have := (List.getElem?_eq_some_iff.1 hy).1; omega)⟩
      have a := ih i x z hx hz
      have b := (h (i + (d + 1) + 1) y hy).2.2 (i + d + 1) z (by omega) hz
      omega
  unfold Up
  rw [List.pairwise_iff_getElem]
  intro i j hi hj hij
  exact h1 (j - i - 1) i _ _ (List.getElem?_eq_getElem hi) (by rw [show i + (j - i - 1) + 1 = j by omega]; exact List.getElem?_eq_getElem hj)
theorem pick_cons (x : Im) (t : List Im) (k : Nat) : pick (x :: t) k = if x.k = (k : Int) then some x else pick t k := by
  unfold pick
  rw [List.find?_cons]
  by_cases h : x.k = (k : Int)
  · simp [h]
  · simp [h]
theorem pick_key {l : List Im} {k : Nat} {x : Im} (h : pick l k = some x) : x.k = (k : Int) := by
  have := List.find?_some h
  simpa using this
theorem pick_no {l : List Im} {k : Nat} (h : ∀ x ∈ l, x.k ≠ (k : Int)) : pick l k = none := by
  unfold pick
  rw [List.find?_eq_none]
  intro x hx
  simpa using h x hx
theorem pick_rows : ∀ (len lo : Nat) (l : List Im), Up l → (∀ x ∈ l, (lo : Int) ≤ x.k ∧ x.k < (lo : Int) + len) → (List.range' lo len).filterMap (pick l) = l
  | 0, lo, l, _, hb => by
    cases l with
    | nil => rfl
    | cons x t => have := hb x List.mem_cons_self; omega
  | len + 1, lo, l, hu, hb => by
    rw [List.range'_succ]
    cases l with
    | nil =>
      rw [List.filterMap_cons_none rfl]
      exact pick_rows len (lo + 1) [] hu (fun x hx => by cases hx)
    | cons x t =>
      obtain ⟨h1, h2⟩ := List.pairwise_cons.1 hu
      have hx := hb x List.mem_cons_self
      by_cases hk : x.k = (lo : Int)
      · have hp : pick (x :: t) lo = some x := by rw [pick_cons, if_pos hk]
        rw [List.filterMap_cons_some hp]
        have hc : (List.range' (lo + 1) len).filterMap (pick (x :: t)) = (List.range' (lo + 1) len).filterMap (pick t) := by
          refine fm_congr fun k hk' => ?_
          rw [pick_cons, if_neg]
          have := (List.mem_range'_1.1 hk').1
          omega
        rw [hc, pick_rows len (lo + 1) t h2 (fun y hy => by have := h1 y hy; have := hb y (List.mem_cons_of_mem _ hy); omega)]
      · have hall : ∀ y ∈ x :: t, (lo : Int) < y.k := fun y hy => by
          rcases List.mem_cons.1 hy with e | e
          · subst e; omega
          · have := h1 y e; omega
        rw [List.filterMap_cons_none (pick_no (fun y hy => by have := hall y hy; omega))]
        exact pick_rows len (lo + 1) (x :: t) hu (fun y hy => by have := hall y hy; have := hb y hy; omega)
theorem good_mem {l : List Im} (h : ∀ j, imGood l j) : ∀ x ∈ l, (0 ≤ x.k ∧ x.k ≤ 255) ∧ x.d.length = 32 := fun x hx => by
  obtain ⟨i, hi, he⟩ := List.getElem_of_mem hx
  have := h i x (by rw [List.getElem?_eq_getElem hi, he])
  exact ⟨this.1, this.2.1⟩
theorem pick_all {l : List Im} (h : ∀ j, imGood l j) : (List.range 256).filterMap (pick l) = l := by
  rw [List.range_eq_range']
  exact pick_rows 256 0 l (up_of h) (fun x hx => by have := (good_mem h x hx).1; omega)
/-- with nothing: nothing more -/
theorem upTo_none {l : List Im} (h : ∀ j, imGood l j) : upTo l [] 256 = l := by
  have e : both l [] = pick l := by
    funext k
    unfold both
    rfl
  unfold upTo
  rw [e]
  exact pick_all h
theorem both_key {a b : List Im} {k : Nat} {x : Im} (h : both a b k = some x) : x.k = (k : Int) := by
  unfold both at h
  cases hp : pick b k with
  | some y => rw [hp] at h; injection h with h; subst h; exact pick_key hp
  | none => rw [hp] at h; exact pick_key h
theorem upTo_lt {a b : List Im} : ∀ (n : Nat) (x : Im), x ∈ upTo a b n → x.k < (n : Int) := by
  intro n x hx
  unfold upTo at hx
  rw [List.mem_filterMap] at hx
  obtain ⟨k, hk, he⟩ := hx
  have := both_key he
  have := List.mem_range.1 hk
  omega
theorem pick_upTo (a b : List Im) : ∀ (n k : Nat), k < n → pick (upTo a b n) k = both a b k
  | 0, _, h => by omega
  | n + 1, k, h => by
    rw [upTo_step]
    unfold pick
    rw [List.find?_append]
    rcases Nat.lt_or_ge k n with hk | hk
    · have ih := pick_upTo a b n k hk
      unfold pick at ih
      rw [ih]
      cases hb : both a b k with
      | some x => rfl
      | none =>
        rw [Option.none_or, List.find?_eq_none]
        intro y hy
        cases hn : both a b n with
        | none => rw [hn] at hy; simp at hy
        | some z =>
          rw [hn] at hy
          simp at hy
          subst hy
          have := both_key hn
          simp
          omega
    · have e : k = n := by omega
      subst e
      have h0 : (upTo a b k).find? (fun x => decide (x.k = (k : Int))) = none := by
        rw [List.find?_eq_none]
        intro y hy
        have := upTo_lt k y hy
        simp
        omega
      rw [h0, Option.none_or]
      cases hn : both a b k with
      | none => simp
      | some z =>
        have := both_key hn
        simp [this]
/-- whichever two are laid together first -/
theorem upTo_order (a b c : List Im) : upTo (upTo a b 256) c 256 = upTo a (upTo b c 256) 256 := by
  show (List.range 256).filterMap (both (upTo a b 256) c) = (List.range 256).filterMap (both a (upTo b c 256))
  refine fm_congr fun k hk => ?_
  have hk' := List.mem_range.1 hk
  have e1 : both (upTo a b 256) c k = match pick c k with | some x => some x | none => both a b k := by
    show (match pick c k with | some x => some x | none => pick (upTo a b 256) k) = _
    rw [pick_upTo a b 256 k hk']
  have e2 : both a (upTo b c 256) k = match both b c k with | some x => some x | none => pick a k := by
    show (match pick (upTo b c 256) k with | some x => some x | none => pick a k) = _
    rw [pick_upTo b c 256 k hk']
  rw [e1, e2]
  unfold both
  cases pick c k <;> cases pick b k <;> rfl
theorem mer_order (a b c : Nt) : mer (mer a b) c = mer a (mer b c) := by
  unfold mer
  simp only
  rw [upTo_order, List.append_assoc]
/-- how many -/
theorem up_count : ∀ (r : List Nat) (a b : List Im), (r.filterMap (both a b)).length ≤ (r.filterMap (pick a)).length + (r.filterMap (pick b)).length ∧ (r.filterMap (pick a)).length ≤ (r.filterMap (both a b)).length ∧ (r.filterMap (pick b)).length ≤ (r.filterMap (both a b)).length
  | [], _, _ => ⟨Nat.le_refl _, Nat.le_refl _, Nat.le_refl _⟩
  | k :: r, a, b => by
    obtain ⟨h1, h2, h3⟩ := up_count r a b
    rw [List.filterMap_cons, List.filterMap_cons, List.filterMap_cons]
    cases hb : pick b k with
    | some y =>
      have e : both a b k = some y := by unfold both; rw [hb]
      rw [e]
      cases pick a k <;> simp <;> omega
    | none =>
      have e : both a b k = pick a k := by unfold both; rw [hb]
      rw [e]
      cases pick a k <;> simp <;> omega
theorem upTo_count {a b : List Im} (ha : ∀ j, imGood a j) (hb : ∀ j, imGood b j) : (upTo a b 256).length ≤ a.length + b.length ∧ a.length ≤ (upTo a b 256).length ∧ b.length ≤ (upTo a b 256).length := by
  have h := up_count (List.range 256) a b
  rw [pick_all ha, pick_all hb] at h
  exact h
end Nn

end Go.Proofs.Ytjpnihmijnpjcaa
