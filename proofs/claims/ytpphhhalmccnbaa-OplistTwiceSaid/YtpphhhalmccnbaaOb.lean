/-
  What is undone, the sum of a counter, whether any may be, one more. No program in it.
-/
import Derived.Test.YtpphhhalmccnbaaOa
namespace Go.Proofs.Ytpphhhalmccnbaa
set_option maxRecDepth 100000
set_option linter.unusedVariables false
set_option linter.unusedSimpArgs false

/-! ### undone -/
/-- those that undo, the last first -/
def undoL (sel : En → Bool) (P : List Pe) : List En := (P.filter fun p => sel p.2).reverse.map fun p => p.2.neg
theorem undoL_snoc {sel : En → Bool} {P : List Pe} {y : Pe} : undoL sel (P ++ [y]) = (if sel y.2 then [y.2.neg] else []) ++ undoL sel P := by
  unfold undoL
  rw [List.filter_append, List.reverse_append, List.map_append]
  cases h : sel y.2 <;> simp [h]
theorem walkO_keep {U : List En} {y : Pe} (hu : ∀ u ∈ U, u.u = true ∧ u.hits y.2 = false) : ∀ {i : Nat} {P : List Pe}, walkO U i (P ++ [y]) = (walkO U i P).map (· ++ [y]) := by
  induction U with
  | nil => intro i P; rfl
  | cons e U ih =>
    intro i P
    obtain ⟨h1, h2⟩ := hu e (by simp)
    unfold walkO
    have : stepO i e (P ++ [y]) = (stepO i e P).map (· ++ [y]) := by
      unfold stepO; rw [h1, if_pos rfl, if_pos rfl, cutL_last, h2]; rfl
    rw [this]
    cases stepO i e P with
    | none => rfl
    | some Q => rw [Option.map_some, Option.bind_some, Option.bind_some, ih fun u hu' => hu u (by simp [hu'])]
theorem undoL_walk {sel : En → Bool} (hs : ∀ x y : En, x.t = y.t → sel x = sel y) : ∀ {P : List Pe} {i : Nat}, (∀ p ∈ P, okI p.2.b) → walkO (undoL sel P) i P = some (P.filter fun p => !sel p.2) := by
  suffices ∀ n (P : List Pe) (i : Nat), P.length = n → (∀ p ∈ P, okI p.2.b) → walkO (undoL sel P) i P = some (P.filter fun p => !sel p.2) from fun {P i} => this _ P i rfl
  intro n
  induction n with
  | zero => intro P i hl _; have := List.length_eq_zero_iff.mp hl; subst this; rfl
  | succ n ih =>
    intro P i hl hk
    have hne : P ≠ [] := by intro e; subst e; cases hl
    have e := (List.dropLast_concat_getLast hne).symm
    have hd : P.dropLast.length = n := by rw [List.length_dropLast]; omega
    generalize P.dropLast = Q at e hd
    generalize P.getLast hne = y at e
    subst e
    rw [undoL_snoc, List.filter_append]
    cases h : sel y.2 with
    | true =>
      rw [if_pos rfl, List.singleton_append]
      unfold walkO
      have : stepO i y.2.neg (Q ++ [y]) = some Q := by
        unfold stepO; rw [if_pos (show y.2.neg.u = true from rfl), cutL_last, if_pos (En.neg_hits (hk _ (by simp)))]
      rw [this, Option.bind_some, ih _ _ hd fun p hp => hk p (by simp [hp])]
      simp [h]
    | false =>
      simp only [Bool.false_eq_true, if_false, List.nil_append]
      rw [walkO_keep, ih _ _ hd fun p hp => hk p (by simp [hp])]
      · simp [h]
      · intro u hu
        unfold undoL at hu
        rw [List.mem_map] at hu
        obtain ⟨p, hp, rfl⟩ := hu
        rw [List.mem_reverse, List.mem_filter] at hp
        refine ⟨rfl, En.neg_tx fun e => ?_⟩
        have := hs _ _ e
        rw [h, hp.2] at this; cases this
theorem undoL_len {sel : En → Bool} {P : List Pe} : (undoL sel P).length + (P.filter fun p => !sel p.2).length = P.length := by
  unfold undoL
  rw [List.length_map, List.length_reverse]
  induction P with
  | nil => rfl
  | cons p P ih =>
    rw [List.filter_cons, List.filter_cons]
    cases sel p.2 <;> simp <;> omega

/-! ### sums -/
def netE (l : List En) (c : Int) : List Int := (l.filter fun e => decide (e.c = c)).map (·.b)
theorem netE_append {l m : List En} {c : Int} : netE (l ++ m) c = netE l c ++ netE m c := by unfold netE; rw [List.filter_append, List.map_append]
theorem netE_len (l : List En) (c : Int) : (netE l c).length ≤ l.length := by unfold netE; rw [List.length_map]; exact List.length_filter_le ..
theorem netE_one (e : En) (c : Int) : sumI (netE [e] c) = if e.c = c then e.b else 0 := by
  unfold netE
  by_cases h : e.c = c <;> simp [h, sumI_cons, sumI_nil]
theorem netE_cons (e : En) (l : List En) (c : Int) : sumI (netE (e :: l) c) = (if e.c = c then e.b else 0) + sumI (netE l c) := by
  rw [show e :: l = [e] ++ l from rfl, netE_append, sumI_append, netE_one]
theorem netE_ok {l : List En} (h : ∀ e ∈ l, e.Ok) (c : Int) : ∀ x ∈ netE l c, okI x := by
  intro x hx
  unfold netE at hx
  rw [List.mem_map] at hx
  obtain ⟨e, he, rfl⟩ := hx
  exact (h e (List.mem_filter.mp he).1).b
theorem step_net {i : Nat} {e : En} {P Q : List Pe} (hm : e.may = true) (h : stepO i e P = some Q) (c : Int) : sumI (netE (Q.map (·.2)) c) = sumI (netE (P.map (·.2)) c) + (if e.c = c then e.b else 0) := by
  unfold stepO at h
  cases he : e.u with
  | true =>
    rw [he, if_pos rfl] at h
    obtain ⟨a, x, b, rfl, hx, _, rfl⟩ := cutL_some h
    rw [En.hits_iff, wneg_of (En.may_iff.mp hm).2.2.2.2] at hx
    rw [List.map_append, List.map_append, List.map_cons, netE_append, netE_append, sumI_append, sumI_append, netE_cons, hx.2.1, hx.2.2]
    split <;> omega
  | false =>
    rw [he] at h; simp at h; subst h
    rw [List.map_append, netE_append, sumI_append, List.map_cons, List.map_nil, netE_one]
theorem walk_net {l : List En} (hm : ∀ e ∈ l, e.may = true) (c : Int) : ∀ {i : Nat} {P Q : List Pe}, walkO l i P = some Q → sumI (netE (Q.map (·.2)) c) = sumI (netE (P.map (·.2)) c) + sumI (netE l c) := by
  induction l with
  | nil => intro i P Q h; cases h; show _ = _ + sumI []; rw [sumI_nil]; omega
  | cons e l ih =>
    intro i P Q h
    unfold walkO at h
    cases hs : stepO i e P with
    | none => rw [hs] at h; cases h
    | some R =>
      rw [hs, Option.bind_some] at h
      rw [ih (fun x hx => hm x (by simp [hx])) h, step_net (hm e (by simp)) hs, netE_cons]; omega
/-- what is undone counts nothing -/
theorem open_net {l : List En} {P : List Pe} (hm : ∀ e ∈ l, e.may = true) (h : openO l = some P) (c : Int) : sumI (netE l c) = sumI (netE (P.map (·.2)) c) := by
  have := walk_net hm c (P := []) h
  rw [this]; show _ = sumI [] + _; rw [sumI_nil]; omega

/-! ### may they be? -/
def saneE (l : List En) : Bool :=
  match openO l with
  | none => false
  | some P => l.all En.may && decide (l.length + P.length ≤ 256)
structure SanO (l : List En) (P : List Pe) : Prop where
  op : openO l = some P
  may : ∀ e ∈ l, e.may = true
  few : l.length + P.length ≤ 256
theorem saneE_iff {l : List En} : saneE l = true ↔ ∃ P, SanO l P := by
  unfold saneE
  constructor
  · intro h
    split at h
    · cases h
    · rename_i P ho
      simp only [Bool.and_eq_true, List.all_eq_true, decide_eq_true_eq] at h
      exact ⟨P, ho, h.1, h.2⟩
  · rintro ⟨P, h1, h2, h3⟩
    rw [h1]
    simp only [Bool.and_eq_true, List.all_eq_true, decide_eq_true_eq]
    exact ⟨h2, h3⟩
theorem sanO_nil : SanO [] [] := ⟨rfl, by simp, by simp⟩
section
variable {l : List En} {P : List Pe}
theorem SanO.sane (h : SanO l P) : saneE l = true := saneE_iff.mpr ⟨P, h⟩
theorem SanO.fit (h : SanO l P) : Fit l P := open_fit h.op
theorem SanO.only {Q : List Pe} (h : SanO l P) (k : openO l = some Q) : Q = P := by have := h.op.symm.trans k; simp at this; exact this.symm
/-- one more -/
theorem SanO.one (h : SanO l P) {e : En} (he : e.u = false) : openO (l ++ [e]) = some (P ++ [(l.length, e)]) := by
  rw [openO_one, h.op, Option.bind_some]; unfold stepO; rw [he]; rfl
theorem SanO.snoc (h : SanO l P) {e : En} (he : e.u = false) (hm : e.may = true) (hf : l.length + P.length ≤ 254) : SanO (l ++ [e]) (P ++ [(l.length, e)]) :=
  ⟨h.one he, fun x hx => by
    rcases List.mem_append.mp hx with hx | hx
    · exact h.may x hx
    · simp at hx; rw [hx]; exact hm, by simp; omega⟩
theorem SanO.snoc_iff (h : SanO l P) {e : En} (he : e.u = false) (hm : e.may = true) : saneE (l ++ [e]) = decide (l.length + P.length ≤ 254) := by
  by_cases hf : l.length + P.length ≤ 254
  · rw [(h.snoc he hm hf).sane]; simp [hf]
  · cases hs : saneE (l ++ [e]) with
    | false => simp [hf]
    | true =>
      obtain ⟨Q, hq⟩ := saneE_iff.mp hs
      have e1 := hq.only (h.one he)
      have := hq.few
      rw [← e1] at this; simp at this; omega
/-- a transaction's, undone -/
def withU (sel : En → Bool) (l : List En) (P : List Pe) : List En := l ++ undoL sel P
theorem SanO.undo (h : SanO l P) {sel : En → Bool} (hs : ∀ x y : En, x.t = y.t → sel x = sel y) (hk : ∀ e ∈ l, okI e.b) : SanO (withU sel l P) (P.filter fun p => !sel p.2) := by
  refine ⟨?_, ?_, ?_⟩
  · unfold withU; rw [openO_append, h.op, Option.bind_some, undoL_walk hs fun p hp => hk _ (List.mem_of_getElem? (h.fit.at' p hp))]
  · intro x hx
    rcases List.mem_append.mp hx with hx | hx
    · exact h.may x hx
    · unfold undoL at hx
      rw [List.mem_map] at hx
      obtain ⟨p, hp, rfl⟩ := hx
      rw [List.mem_reverse, List.mem_filter] at hp
      have hm := List.mem_of_getElem? (h.fit.at' p hp.1)
      exact En.neg_may (h.may _ hm) (hk _ hm)
  · unfold withU; rw [List.length_append]; have := undoL_len (sel := sel) (P := P); have := h.few; omega
theorem SanO.undo_ok (h : SanO l P) {sel : En → Bool} (hk : ∀ e ∈ l, e.Ok) : ∀ e ∈ withU sel l P, e.Ok := by
  intro x hx
  rcases List.mem_append.mp hx with hx | hx
  · exact hk x hx
  · unfold undoL at hx
    rw [List.mem_map] at hx
    obtain ⟨p, hp, rfl⟩ := hx
    rw [List.mem_reverse, List.mem_filter] at hp
    have hm := List.mem_of_getElem? (h.fit.at' p hp.1)
    exact En.neg_ok (hk _ hm)
end
theorem undoL_none {sel : En → Bool} {P : List Pe} (h : ∀ p ∈ P, sel p.2 = false) : undoL sel P = [] := by
  unfold undoL
  rw [List.filter_eq_nil_iff.mpr fun p hp => by rw [h p hp]; simp]; rfl
/-- undone twice is undone once -/
theorem undoL_twice {sel : En → Bool} {P : List Pe} : undoL sel (P.filter fun p => !sel p.2) = [] :=
  undoL_none fun p hp => by have := (List.mem_filter.mp hp).2; simpa using this

/-! ### a transaction's -/
def openT (P : List Pe) (t : Int) : List En := (P.filter fun p => decide (p.2.t = t)).map (·.2)
/-- is it one of some? -/
def amongE (T : List Int) (e : En) : Bool := decide (e.t ∈ T)
theorem amongE_tx (T : List Int) : ∀ x y : En, x.t = y.t → amongE T x = amongE T y := by intro x y h; unfold amongE; rw [h]
theorem openT_undone {P : List Pe} {T : List Int} {t : Int} (h : t ∈ T) : openT (P.filter fun p => !amongE T p.2) t = [] := by
  unfold openT
  rw [List.filter_filter, List.filter_eq_nil_iff.mpr]
  · rfl
  · intro p hp
    unfold amongE
    by_cases e : p.2.t = t <;> simp [e, h]
theorem openT_else {P : List Pe} {T : List Int} {t : Int} (h : t ∉ T) : openT (P.filter fun p => !amongE T p.2) t = openT P t := by
  unfold openT
  rw [List.filter_filter]
  congr 1
  apply List.filter_congr
  intro p hp
  unfold amongE
  by_cases e : p.2.t = t <;> simp [e, h]
theorem openT_snoc {P : List Pe} {i : Nat} {e : En} {t : Int} : openT (P ++ [(i, e)]) t = openT P t ++ (if e.t = t then [e] else []) := by
  unfold openT
  rw [List.filter_append, List.map_append]
  by_cases h : e.t = t <;> simp [h]
theorem openT_sum {P : List Pe} {c : Int} {n : Nat} (h : ∀ p ∈ P, 0 ≤ p.2.t ∧ p.2.t < (n : Int)) :
    sumI (netE ((List.range n).flatMap fun t : Nat => openT P (t : Int)) c) = sumI (netE (P.map (·.2)) c) := by
  induction n generalizing P with
  | zero =>
    cases P with
    | nil => rfl
    | cons p P => have := h p (by simp); omega
  | succ n ih =>
    rw [List.range_succ, List.flatMap_append, netE_append, sumI_append]
    have h1 : ((List.range n).flatMap fun t : Nat => openT P (t : Int)) = (List.range n).flatMap fun t : Nat => openT (P.filter fun p => decide (p.2.t < (n : Int))) (t : Int) := by
      rw [List.flatMap_def, List.flatMap_def]
      congr 1
      apply List.map_congr_left
      intro t ht
      rw [List.mem_range] at ht
      unfold openT
      rw [List.filter_filter]
      congr 1
      apply List.filter_congr
      intro p hp
      by_cases e : p.2.t = (t : Int)
      · simp [e]; omega
      · simp [e]
    rw [h1, ih (P := P.filter fun p => decide (p.2.t < (n : Int))) (fun p hp => by
      rw [List.mem_filter] at hp
      exact ⟨(h p hp.1).1, by simpa using hp.2⟩)]
    simp only [List.flatMap_cons, List.flatMap_nil, List.append_nil]
    have : ∀ P : List Pe, (∀ p ∈ P, 0 ≤ p.2.t ∧ p.2.t < ((n + 1 : Nat) : Int)) → sumI (netE ((P.filter fun p => decide (p.2.t < (n : Int))).map (·.2)) c) + sumI (netE (openT P (n : Int)) c) = sumI (netE (P.map (·.2)) c) := by
      intro P
      induction P with
      | nil => intro _; rfl
      | cons p P ihp =>
        intro h
        have hp := h p (by simp)
        have := ihp fun q hq => h q (by simp [hq])
        unfold openT at this ⊢
        rw [List.filter_cons, List.filter_cons, List.map_cons, netE_cons]
        by_cases e : p.2.t = (n : Int)
        · rw [if_neg (by simp; omega), if_pos (by simpa using e), List.map_cons, netE_cons]; omega
        · rw [if_pos (by simp; omega), if_neg (by simpa using e), List.map_cons, netE_cons]; omega
    exact this P h
end Go.Proofs.Ytpphhhalmccnbaa
