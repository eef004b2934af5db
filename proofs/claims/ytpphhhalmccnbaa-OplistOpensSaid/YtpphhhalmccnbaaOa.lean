/-
  What was done with counters and undone again: entries, which of them are open, by the chapter's words. No program in it.
-/
import Derived.Test.YtpphhhalmccnbaaSp
namespace Go.Proofs.Ytpphhhalmccnbaa
set_option maxRecDepth 100000
set_option linter.unusedVariables false
set_option linter.unusedSimpArgs false

structure En where
  t : Int
  c : Int
  b : Int
  u : Bool
deriving DecidableEq
def enD : En := ⟨0, 0, 0, false⟩
structure En.Ok (e : En) : Prop where
  t : okI e.t
  c : okI e.c
  b : okI e.b
theorem enD_ok : enD.Ok := ⟨by decide, by decide, by decide⟩
/-- a number's negation, as an int has it -/
def wneg (x : Int) : Int := if x = -9223372036854775808 then x else -x
theorem wneg_ok {x : Int} (h : okI x) : okI (wneg x) := by unfold okI wneg at *; split <;> omega
theorem wneg_wneg {x : Int} (h : okI x) : wneg (wneg x) = x := by 
  unfold okI at h; unfold wneg
  by_cases e : x = -9223372036854775808
  · rw [if_pos e, if_pos e]
  · rw [if_neg e, if_neg (by omega)]; omega
theorem wneg_of {x : Int} (h : x ≠ -9223372036854775808) : wneg x = -x := by unfold wneg; rw [if_neg h]
/-- may it be, by itself? -/
def En.may (e : En) : Bool := decide (0 ≤ e.t ∧ e.t ≤ 63 ∧ 0 ≤ e.c ∧ e.c ≤ 63 ∧ e.b ≠ -9223372036854775808)
/-- what undoes it -/
def En.neg (e : En) : En := ⟨e.t, e.c, wneg e.b, true⟩
/-- does e undo one like x? -/
def En.hits (e x : En) : Bool := decide (x.t = e.t ∧ x.c = e.c ∧ x.b = wneg e.b)
theorem En.may_iff {e : En} : e.may = true ↔ (0 ≤ e.t ∧ e.t ≤ 63 ∧ 0 ≤ e.c ∧ e.c ≤ 63 ∧ e.b ≠ -9223372036854775808) := by unfold En.may; simp
theorem En.hits_iff {e x : En} : e.hits x = true ↔ (x.t = e.t ∧ x.c = e.c ∧ x.b = wneg e.b) := by unfold En.hits; simp
theorem En.neg_hits {e : En} (h : okI e.b) : e.neg.hits e = true := by rw [En.hits_iff]; exact ⟨rfl, rfl, (wneg_wneg h).symm⟩
theorem En.neg_tx {e x : En} (h : x.t ≠ e.t) : e.neg.hits x = false := by unfold En.hits En.neg; simp [h]
theorem En.neg_may {e : En} (h : e.may = true) (hk : okI e.b) : e.neg.may = true := by
  rw [En.may_iff] at h ⊢; unfold En.neg; rw [wneg_of h.2.2.2.2]; unfold okI at hk; simp only; omega
theorem En.neg_ok {e : En} (h : e.Ok) : e.neg.Ok := ⟨h.t, h.c, wneg_ok h.b⟩

/-! ### the last one of some is taken out -/
section
variable {α : Type}
def cutL (q : α → Bool) : List α → Option (List α)
  | [] => none
  | x :: xs => match cutL q xs with
    | some ys => some (x :: ys)
    | none => if q x then some xs else none
theorem cutL_none {q : α → Bool} {l : List α} : cutL q l = none ↔ ∀ x ∈ l, q x = false := by
  induction l with
  | nil => simp [cutL]
  | cons x l ih =>
    unfold cutL
    cases h : cutL q l with
    | some ys =>
      refine ⟨fun e => (by cases e), fun e => ?_⟩
      rw [ih.mpr fun y hy => e y (by simp [hy])] at h; cases h
    | none =>
      have := ih.mp h
      cases hq : q x with
      | true =>
        refine ⟨fun e => ?_, fun e => ?_⟩
        · simp at e
        · have h' := e x (by simp)
          rw [hq] at h'; cases h'
      | false =>
        refine ⟨fun _ y hy => ?_, fun _ => by simp⟩
        rcases List.mem_cons.mp hy with rfl | hy
        · exact hq
        · exact this y hy
theorem cutL_at {q : α → Bool} {a b : List α} {x : α} (hx : q x = true) (hb : ∀ y ∈ b, q y = false) : cutL q (a ++ x :: b) = some (a ++ b) := by
  induction a with
  | nil =>
    rw [List.nil_append]; unfold cutL
    rw [cutL_none.mpr hb]; simp [hx]
  | cons y a ih => rw [List.cons_append]; unfold cutL; rw [ih]; rfl
theorem cutL_some {q : α → Bool} {l m : List α} (h : cutL q l = some m) : ∃ a x b, l = a ++ x :: b ∧ q x = true ∧ (∀ y ∈ b, q y = false) ∧ m = a ++ b := by
  induction l generalizing m with
  | nil => cases h
  | cons x l ih =>
    unfold cutL at h
    cases hc : cutL q l with
    | some ys =>
      rw [hc] at h
      obtain ⟨a, y, b, e, hy, hb, rfl⟩ := ih hc
      simp at h; subst h
      exact ⟨x :: a, y, b, by rw [e]; rfl, hy, hb, rfl⟩
    | none =>
      rw [hc] at h
      cases hq : q x with
      | true => simp [hq] at h; subst h; exact ⟨[], x, l, rfl, hq, cutL_none.mp hc, rfl⟩
      | false => simp [hq] at h
theorem cutL_last {q : α → Bool} {l : List α} {y : α} : cutL q (l ++ [y]) = if q y then some l else (cutL q l).map (· ++ [y]) := by
  cases hq : q y with
  | true => rw [if_pos rfl, cutL_at (b := []) hq (by simp), List.append_nil]
  | false =>
    simp only [Bool.false_eq_true, if_false]
    cases hc : cutL q l with
    | none =>
      rw [Option.map_none, cutL_none]
      intro x hx
      rcases List.mem_append.mp hx with hx | hx
      · exact cutL_none.mp hc x hx
      · simp at hx; rw [hx]; exact hq
    | some m =>
      obtain ⟨a, x, b, rfl, hx, hb, rfl⟩ := cutL_some hc
      rw [Option.map_some, List.append_assoc, List.cons_append, cutL_at hx (by
        intro z hz
        rcases List.mem_append.mp hz with hz | hz
        · exact hb z hz
        · simp at hz; rw [hz]; exact hq), List.append_assoc]
theorem cutL_len {q : α → Bool} {l m : List α} (h : cutL q l = some m) : m.length + 1 = l.length := by
  obtain ⟨a, x, b, rfl, _, _, rfl⟩ := cutL_some h; simp; omega
theorem cutL_sub {q : α → Bool} {l m : List α} (h : cutL q l = some m) : List.Sublist m l := by
  obtain ⟨a, x, b, rfl, _, _, rfl⟩ := cutL_some h
  exact List.Sublist.append_left (List.sublist_cons_self ..) a
end

/-! ### which are open -/
/-- an entry's place, and it -/
abbrev Pe := Nat × En
def stepO (i : Nat) (e : En) (P : List Pe) : Option (List Pe) :=
  if e.u then cutL (fun p => e.hits p.2) P else some (P ++ [(i, e)])
def walkO : List En → Nat → List Pe → Option (List Pe)
  | [], _, P => some P
  | e :: l, i, P => (stepO i e P).bind (walkO l (i + 1))
def openO (l : List En) : Option (List Pe) := walkO l 0 []
theorem walkO_append {l m : List En} {i : Nat} {P : List Pe} : walkO (l ++ m) i P = (walkO l i P).bind (walkO m (i + l.length)) := by
  induction l generalizing i P with
  | nil => rfl
  | cons e l ih =>
    rw [List.cons_append]; unfold walkO
    cases stepO i e P with
    | none => rfl
    | some Q => rw [Option.bind_some, Option.bind_some, ih, List.length_cons, show i + 1 + l.length = i + (l.length + 1) by omega]
theorem openO_append {l m : List En} : openO (l ++ m) = (openO l).bind (walkO m l.length) := by
  unfold openO; rw [walkO_append]; simp
theorem walkO_one {e : En} {i : Nat} {P : List Pe} : walkO [e] i P = stepO i e P := by
  unfold walkO
  cases stepO i e P with
  | none => rfl
  | some Q => rfl
theorem openO_one {l : List En} {e : En} : openO (l ++ [e]) = (openO l).bind (stepO l.length e) := by
  rw [openO_append]
  cases openO l with
  | none => rfl
  | some P => rw [Option.bind_some, Option.bind_some, walkO_one]
/-- behind the first ones -/
theorem openO_take {l : List En} {i : Nat} {e : En} (h : l[i]? = some e) : openO (l.take (i + 1)) = (openO (l.take i)).bind (stepO i e) := by
  have hi : i < l.length := by
    rcases Nat.lt_or_ge i l.length with h' | h'
    · exact h'
    · rw [List.getElem?_eq_none h'] at h; cases h
  rw [List.take_add_one, h, Option.toList_some, openO_one, List.length_take, Nat.min_eq_left (by omega)]
/-- once none is undone, none is at all -/
theorem openO_stuck {l : List En} {i : Nat} (h : openO (l.take i) = none) : openO l = none := by
  have e : l = l.take i ++ l.drop i := (List.take_append_drop i l).symm
  rw [e, openO_append, h]; rfl
/-- rising places, each one's entry as it stands there, none with Undo -/
structure Fit (l : List En) (P : List Pe) : Prop where
  up : P.Pairwise fun p q => p.1 < q.1
  at' : ∀ p ∈ P, l[p.1]? = some p.2
  no : ∀ p ∈ P, p.2.u = false
theorem Fit.lt {l : List En} {P : List Pe} (h : Fit l P) {p : Pe} (hp : p ∈ P) : p.1 < l.length := by
  rcases Nat.lt_or_ge p.1 l.length with h' | h'
  · exact h'
  · have := h.at' p hp; rw [List.getElem?_eq_none h'] at this; cases this
theorem Fit.sub {l : List En} {P Q : List Pe} (h : Fit l P) (hs : List.Sublist Q P) : Fit l Q :=
  ⟨h.up.sublist hs, fun p hp => h.at' p (hs.subset hp), fun p hp => h.no p (hs.subset hp)⟩
theorem Fit.more {l m : List En} {P : List Pe} (h : Fit l P) : Fit (l ++ m) P :=
  ⟨h.up, fun p hp => by rw [List.getElem?_append_left (h.lt hp)]; exact h.at' p hp, h.no⟩
theorem Fit.snoc {l : List En} {P : List Pe} (h : Fit l P) {e : En} (he : e.u = false) : Fit (l ++ [e]) (P ++ [(l.length, e)]) := by
  refine ⟨?_, ?_, ?_⟩
  · rw [List.pairwise_append]
    refine ⟨h.up, by simp, ?_⟩
    intro p hp q hq
    simp at hq; rw [hq]; exact h.lt hp
  · intro p hp
    rcases List.mem_append.mp hp with hp | hp
    · exact (h.more (m := [e])).at' p hp
    · simp at hp; rw [hp]; simp
  · intro p hp
    rcases List.mem_append.mp hp with hp | hp
    · exact h.no p hp
    · simp at hp; rw [hp]; exact he
theorem step_fit {l : List En} {P Q : List Pe} (h : Fit l P) {e : En} (hs : stepO l.length e P = some Q) : Fit (l ++ [e]) Q := by
  unfold stepO at hs
  cases he : e.u with
  | true => rw [he, if_pos rfl] at hs; exact (h.sub (cutL_sub hs)).more
  | false => rw [he] at hs; simp at hs; subst hs; exact h.snoc he
theorem open_fit {l : List En} {P : List Pe} (h : openO l = some P) : Fit l P := by
  suffices ∀ n (l : List En) (P : List Pe), l.length = n → openO l = some P → Fit l P from this _ l P rfl h
  intro n
  induction n with
  | zero =>
    intro l P hl h
    have := List.length_eq_zero_iff.mp hl
    subst this
    cases h
    exact ⟨.nil, by simp, by simp⟩
  | succ n ih =>
    intro l P hl h
    have hne : l ≠ [] := by intro e; subst e; cases hl
    have e := (List.dropLast_concat_getLast hne).symm
    rw [e] at h ⊢
    rw [openO_one] at h
    cases ho : openO l.dropLast with
    | none => rw [ho] at h; cases h
    | some Q =>
      rw [ho, Option.bind_some] at h
      exact step_fit (ih _ _ (by rw [List.length_dropLast]; omega) ho) h
theorem Fit.len {l : List En} {P : List Pe} (h : Fit l P) : P.length ≤ l.length := by
  suffices ∀ (P : List Pe) (k n : Nat), P.Pairwise (fun p q => p.1 < q.1) → (∀ p ∈ P, k ≤ p.1 ∧ p.1 < n) → P.length ≤ n - k by
    simpa using this P 0 l.length h.up fun p hp => ⟨Nat.zero_le _, h.lt hp⟩
  intro P
  induction P with
  | nil => intro k n _ _; exact Nat.zero_le _
  | cons p P ih =>
    intro k n hu hb
    rw [List.pairwise_cons] at hu
    have hp := hb p (by simp)
    have := ih (p.1 + 1) n hu.2 fun q hq => ⟨hu.1 q hq, (hb q (by simp [hq])).2⟩
    rw [List.length_cons]; omega
end Go.Proofs.Ytpphhhalmccnbaa
