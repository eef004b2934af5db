/-
  The rounds of the loops, both sides': which is undone (a search from behind, a stack for each kind), what is open, in order. No program in it.
-/
import Derived.Test.YtpphhhalmccnbaaOb
namespace Go.Proofs.Ytpphhhalmccnbaa
set_option maxRecDepth 100000
set_option linter.unusedVariables false
set_option linter.unusedSimpArgs false

abbrev plO (P : List Pe) : List Nat := P.map (·.1)
section
variable {l : List En} {P Q : List Pe} {i k : Nat} {e : En}
theorem Fit.pl (h : Fit l P) : k ∈ plO P ↔ (k, l.getD k enD) ∈ P := by
  constructor
  · intro hk
    obtain ⟨p, hp, rfl⟩ := List.mem_map.mp hk
    have := h.at' p hp
    rw [List.getD_eq_getElem?_getD, this]; exact hp
  · intro hk; exact List.mem_map.mpr ⟨_, hk, rfl⟩
theorem Fit.pl_lt (h : Fit l P) (hk : k ∈ plO P) : k < l.length := by
  obtain ⟨p, hp, rfl⟩ := List.mem_map.mp hk; exact h.lt hp
theorem Fit.uniq (h : Fit l P) {a b : List Pe} {x : Pe} (e : P = a ++ x :: b) : (∀ y ∈ a, y.1 < x.1) ∧ (∀ y ∈ b, x.1 < y.1) := by
  have := h.up
  rw [e, List.pairwise_append, List.pairwise_cons] at this
  exact ⟨fun y hy => this.2.2 y hy x (by simp), this.2.1.1⟩
theorem Fit.cut (h : Fit l P) {a b : List Pe} {x : Pe} (e : P = a ++ x :: b) : a ++ b = P.filter fun p => !decide (p.1 = x.1) := by
  obtain ⟨h1, h2⟩ := h.uniq e
  rw [e, List.filter_append, List.filter_cons, if_neg (by simp), List.filter_eq_self.mpr, List.filter_eq_self.mpr]
  · intro y hy; have := h2 y hy; simp; omega
  · intro y hy; have := h1 y hy; simp; omega
theorem pl_cut : k ∈ plO (P.filter fun p => !decide (p.1 = i)) ↔ k ∈ plO P ∧ k ≠ i := by
  simp only [plO, List.mem_map, List.mem_filter]
  constructor
  · rintro ⟨p, ⟨hp, hn⟩, rfl⟩
    exact ⟨⟨p, hp, rfl⟩, by simpa using hn⟩
  · rintro ⟨⟨p, hp, rfl⟩, hn⟩
    exact ⟨p, ⟨hp, by simpa using hn⟩, rfl⟩
theorem pl_snoc : k ∈ plO (P ++ [(i, e)]) ↔ k ∈ plO P ∨ k = i := by simp [plO]

/-! ### the document's: a search from behind -/
def goneO (l : List En) (P : List Pe) (i : Nat) : List Bool := (List.range l.length).map fun k => decide (k < i) && !(l.getD k enD).u && !decide (k ∈ plO P)
theorem goneO_len : (goneO l P i).length = l.length := by unfold goneO; simp
theorem goneO_get (hk : k < l.length) : (goneO l P i)[k]? = some (decide (k < i) && !(l.getD k enD).u && !decide (k ∈ plO P)) := by
  unfold goneO; rw [List.getElem?_map, List.getElem?_range hk]; rfl
theorem goneO_zero : goneO l [] 0 = List.replicate l.length false := by
  unfold goneO
  rw [List.eq_replicate_iff]
  refine ⟨by simp, fun b hb => ?_⟩
  obtain ⟨k, _, rfl⟩ := List.mem_map.mp hb; simp
theorem goneO_done (he : l[i]? = some e) (hu : e.u = false) : goneO l (P ++ [(i, e)]) (i + 1) = goneO l P i := by
  unfold goneO
  apply List.map_congr_left
  intro k _
  rw [Bool.eq_iff_iff]
  simp only [Bool.and_eq_true, decide_eq_true_eq, Bool.not_eq_true', decide_eq_false_iff_not, pl_snoc]
  constructor
  · rintro ⟨⟨h1, h2⟩, h3⟩
    exact ⟨⟨by omega, h2⟩, fun h => h3 (.inl h)⟩
  · rintro ⟨⟨h1, h2⟩, h3⟩
    exact ⟨⟨by omega, h2⟩, fun h => h.elim h3 (by omega)⟩
/-- may the k-th be undone by e? -/
def goodO (l : List En) (P : List Pe) (i : Nat) (e : En) (k : Nat) : Bool := !(l.getD k enD).u && !((goneO l P i).getD k false) && e.hits (l.getD k enD)
theorem getD_take (hk : k < i) : (l.take i).getD k enD = l.getD k enD := by
  rw [List.getD_eq_getElem?_getD, List.getD_eq_getElem?_getD, List.getElem?_take, if_pos hk]
theorem goodO_iff (h : Fit (l.take i) P) (hi : i ≤ l.length) (hk : k < i) : goodO l P i e k = true ↔ k ∈ plO P ∧ e.hits (l.getD k enD) = true := by
  unfold goodO
  rw [List.getD_eq_getElem?_getD (l := goneO l P i), goneO_get (by omega), Option.getD_some]
  simp only [Bool.and_eq_true, Bool.not_eq_true', Bool.and_eq_false_iff, decide_eq_false_iff_not, Bool.not_eq_false', decide_eq_true_eq, Bool.not_eq_false]
  constructor
  · rintro ⟨⟨h1, h2⟩, h3⟩
    refine ⟨?_, h3⟩
    rcases h2 with (h2 | h2) | h2
    · exact absurd hk h2
    · rw [h1] at h2; cases h2
    · exact h2
  · rintro ⟨h1, h2⟩
    refine ⟨⟨?_, .inr h1⟩, h2⟩
    have := h.no _ (h.pl.mp h1)
    rw [getD_take hk] at this; exact this
/-- the search ends at one -/
theorem step_found (h : Fit (l.take i) P) (hi : i ≤ l.length) (hu : e.u = true) (hk : k < i) (hg : goodO l P i e k = true) (hn : ∀ j, k < j → j < i → goodO l P i e j = false) :
    stepO i e P = some (P.filter fun p => !decide (p.1 = k)) := by
  obtain ⟨h1, h2⟩ := (goodO_iff h hi hk).mp hg
  have hm := h.pl.mp h1
  rw [getD_take hk] at hm
  obtain ⟨a, b, hp⟩ := List.append_of_mem hm
  unfold stepO
  rw [hu, if_pos rfl, ← h.cut hp, hp]
  refine cutL_at (q := fun p : Pe => e.hits p.2) h2 ?_
  intro y hy
  have hy' : y ∈ P := by rw [hp]; simp [hy]
  have hlt := h.lt hy'
  rw [List.length_take] at hlt
  have hj := (h.uniq hp).2 y hy
  have := hn y.1 hj (by omega)
  cases hh : e.hits y.2 with
  | false => rfl
  | true =>
    have ha := h.at' y hy'
    rw [List.getElem?_take, if_pos (by omega)] at ha
    rw [(goodO_iff h hi (by omega)).mpr ⟨List.mem_map.mpr ⟨y, hy', rfl⟩, by rw [List.getD_eq_getElem?_getD, ha]; exact hh⟩] at this
    cases this
/-- the search ends at none -/
theorem step_lost (h : Fit (l.take i) P) (hi : i ≤ l.length) (hu : e.u = true) (hn : ∀ j, j < i → goodO l P i e j = false) : stepO i e P = none := by
  unfold stepO
  rw [hu, if_pos rfl, cutL_none]
  intro y hy
  have hlt := h.lt hy
  rw [List.length_take] at hlt
  have := hn y.1 (by omega)
  cases hh : e.hits y.2 with
  | false => rfl
  | true =>
    have ha := h.at' y hy
    rw [List.getElem?_take, if_pos (by omega)] at ha
    rw [(goodO_iff h hi (by omega)).mpr ⟨List.mem_map.mpr ⟨y, hy, rfl⟩, by rw [List.getD_eq_getElem?_getD, ha]; exact hh⟩] at this
    cases this
theorem goneO_undo (h : Fit (l.take i) P) (hi : l[i]? = some e) (hu : e.u = true) (hk : k < i) (hg : goodO l P i e k = true) :
    goneO l (P.filter fun p => !decide (p.1 = k)) (i + 1) = (goneO l P i).set k true := by
  have hl : i < l.length := by
    rcases Nat.lt_or_ge i l.length with h' | h'
    · exact h'
    · rw [List.getElem?_eq_none h'] at hi; cases hi
  apply List.ext_getElem?
  intro j
  rcases Nat.lt_or_ge j l.length with hj | hj
  · rw [goneO_get hj, List.getElem?_set, goneO_len]
    by_cases e1 : k = j
    · subst e1
      rw [if_pos rfl, if_pos hj]
      have : (l.getD k enD).u = false := by
        unfold goodO at hg; simp only [Bool.and_eq_true, Bool.not_eq_true'] at hg; exact hg.1.1
      rw [this]
      simp only [pl_cut]; simp; omega
    · rw [if_neg e1, goneO_get hj]
      congr 1
      rw [Bool.eq_iff_iff]
      simp only [Bool.and_eq_true, decide_eq_true_eq, Bool.not_eq_true', decide_eq_false_iff_not, pl_cut]
      constructor
      · rintro ⟨⟨h1, h2⟩, h3⟩
        refine ⟨⟨?_, h2⟩, fun h => h3 ⟨h, fun e => e1 e.symm⟩⟩
        rcases Nat.lt_or_ge j i with h' | h'
        · exact h'
        · have : j = i := by omega
          subst this
          rw [List.getD_eq_getElem?_getD, hi] at h2
          simp [hu] at h2
      · rintro ⟨⟨h1, h2⟩, h3⟩
        exact ⟨⟨by omega, h2⟩, fun h => h3 h.1⟩
  · rw [List.getElem?_eq_none (by rw [goneO_len]; exact hj), List.getElem?_eq_none (by rw [List.length_set, goneO_len]; exact hj)]

/-! ### which are open -/
def isO (n : Nat) (P : List Pe) : List Bool := (List.range n).map fun k => decide (k ∈ plO P)
theorem isO_len {n : Nat} : (isO n P).length = n := by unfold isO; simp
theorem isO_get {n : Nat} (hk : k < n) : (isO n P)[k]? = some (decide (k ∈ plO P)) := by unfold isO; rw [List.getElem?_map, List.getElem?_range hk]; rfl
theorem isO_nil {n : Nat} : isO n [] = List.replicate n false := by
  unfold isO
  rw [List.eq_replicate_iff]
  refine ⟨by simp, fun b hb => ?_⟩
  obtain ⟨k, _, rfl⟩ := List.mem_map.mp hb; simp [plO]
theorem isO_snoc {n : Nat} : isO n (P ++ [(i, e)]) = (isO n P).set i true := by
  apply List.ext_getElem?
  intro j
  rcases Nat.lt_or_ge j n with hj | hj
  · rw [isO_get hj, List.getElem?_set, isO_len, isO_get hj]
    by_cases e1 : i = j
    · subst e1; simp [hj, pl_snoc, plO]
    · rw [if_neg e1]; congr 1; rw [Bool.eq_iff_iff]; simp only [decide_eq_true_eq, pl_snoc]
      exact ⟨fun h => h.resolve_right fun e => e1 e.symm, .inl⟩
  · rw [List.getElem?_eq_none (by rw [isO_len]; exact hj), List.getElem?_eq_none (by rw [List.length_set, isO_len]; exact hj)]
theorem isO_cut {n : Nat} : isO n (P.filter fun p => !decide (p.1 = i)) = (isO n P).set i false := by
  apply List.ext_getElem?
  intro j
  rcases Nat.lt_or_ge j n with hj | hj
  · rw [isO_get hj, List.getElem?_set, isO_len, isO_get hj]
    by_cases e1 : i = j
    · subst e1
      rw [if_pos rfl, if_pos hj]; congr 1; rw [decide_eq_false_iff_not, pl_cut]; exact fun h => h.2 rfl
    · rw [if_neg e1]; congr 1; rw [Bool.eq_iff_iff]; simp only [decide_eq_true_eq, pl_cut]
      exact ⟨fun h => h.1, fun h => ⟨h, fun e => e1 e.symm⟩⟩
  · rw [List.getElem?_eq_none (by rw [isO_len]; exact hj), List.getElem?_eq_none (by rw [List.length_set, isO_len]; exact hj)]
/-- the document's way to say it -/
theorem isO_gone (h : Fit l P) (hk : k < l.length) : (!(l.getD k enD).u && !((goneO l P l.length).getD k false)) = decide (k ∈ plO P) := by
  rw [List.getD_eq_getElem?_getD (l := goneO l P l.length), goneO_get hk, Option.getD_some, decide_eq_true hk, Bool.true_and]
  by_cases hp : k ∈ plO P
  · rw [h.no _ (h.pl.mp hp), decide_eq_true hp]; rfl
  · rw [decide_eq_false hp]; cases (l.getD k enD).u <;> rfl

/-! ### the program's: a stack for each kind -/
structure Kd where
  t : Int
  c : Int
  b : Int
deriving DecidableEq
def En.kd (e : En) : Kd := ⟨e.t, e.c, e.b⟩
def En.kdU (e : En) : Kd := ⟨e.t, e.c, wneg e.b⟩
theorem En.hits_kd {e x : En} : e.hits x = decide (x.kd = e.kdU) := by
  rw [Bool.eq_iff_iff, En.hits_iff, decide_eq_true_eq]; unfold En.kd En.kdU
  simp
def stkO (P : List Pe) (k : Kd) : List Nat := (P.filter fun p => decide (p.2.kd = k)).map (·.1)
theorem stkO_nil {k : Kd} : stkO [] k = [] := rfl
theorem stkO_snoc {k : Kd} : stkO (P ++ [(i, e)]) k = stkO P k ++ (if e.kd = k then [i] else []) := by
  unfold stkO
  rw [List.filter_append, List.map_append]
  by_cases h : e.kd = k <;> simp [h]
theorem stkO_sub {k : Kd} : ∀ j ∈ stkO P k, j ∈ plO P := by
  intro j hj
  unfold stkO at hj
  obtain ⟨p, hp, rfl⟩ := List.mem_map.mp hj
  exact List.mem_map.mpr ⟨p, (List.mem_filter.mp hp).1, rfl⟩
theorem stkO_len {k : Kd} : (stkO P k).length ≤ P.length := by unfold stkO; rw [List.length_map]; exact List.length_filter_le ..
theorem stkO_empty (hu : e.u = true) : stkO P e.kdU = [] ↔ stepO i e P = none := by
  unfold stkO stepO
  rw [hu, if_pos rfl, cutL_none, List.map_eq_nil_iff, List.filter_eq_nil_iff]
  constructor
  · intro h x hx; have := h x hx; rw [En.hits_kd]; simpa using this
  · intro h x hx; have := h x hx; rw [En.hits_kd] at this; simpa using this
theorem stkO_pop (h : Fit l P) (hu : e.u = true) {s : List Nat} {j : Nat} (hs : stkO P e.kdU = s ++ [j]) :
    stepO i e P = some (P.filter fun p => !decide (p.1 = j)) ∧ j < l.length ∧ stkO (P.filter fun p => !decide (p.1 = j)) e.kdU = s ∧
      ∀ k, k ≠ e.kdU → stkO (P.filter fun p => !decide (p.1 = j)) k = stkO P k := by
  cases ho : stepO i e P with
  | none => rw [(stkO_empty (i := i) hu).mpr ho] at hs; simp at hs
  | some Q =>
    have hq := ho
    unfold stepO at hq
    rw [hu, if_pos rfl] at hq
    obtain ⟨a, x, b, hp, hx, hb, rfl⟩ := cutL_some hq
    rw [En.hits_kd, decide_eq_true_eq] at hx
    have hb' : (b.filter fun p => decide (p.2.kd = e.kdU)) = [] := by
      rw [List.filter_eq_nil_iff]; intro y hy; have := hb y hy; rw [En.hits_kd] at this; simpa using this
    have h1 : stkO P e.kdU = stkO a e.kdU ++ [x.1] := by
      unfold stkO
      rw [hp, List.filter_append, List.filter_cons, if_pos (by simpa using hx), hb', List.map_append]; rfl
    have h2 := hs.symm.trans h1
    obtain ⟨rfl, e2⟩ := List.append_inj' h2 rfl
    simp at e2; subst e2
    refine ⟨by rw [h.cut hp], h.lt (by rw [hp]; simp), ?_, ?_⟩
    · rw [← h.cut hp]; unfold stkO; rw [List.filter_append, hb', List.append_nil]
    · intro k hk
      rw [← h.cut hp, hp]; unfold stkO
      rw [List.filter_append, List.filter_append, List.filter_cons, if_neg (by simp; rw [hx]; exact fun e => hk e.symm)]

/-! ### in order -/
/-- those ahead of a place -/
def uptoO (P : List Pe) (i : Nat) : List Pe := P.filter fun p => decide (p.1 < i)
def fromO (P : List Pe) (i : Nat) : List Pe := P.filter fun p => !decide (p.1 < i)
theorem uptoO_zero : uptoO P 0 = [] := by unfold uptoO; rw [List.filter_eq_nil_iff]; simp
theorem uptoO_all (h : Fit l P) : uptoO P l.length = P := by
  unfold uptoO; rw [List.filter_eq_self]; intro p hp; simpa using h.lt hp
theorem fromO_zero : fromO P 0 = P := by unfold fromO; rw [List.filter_eq_self]; simp
theorem fromO_all (h : Fit l P) : fromO P l.length = [] := by
  unfold fromO; rw [List.filter_eq_nil_iff]; intro p hp; have := h.lt hp; simp; omega
theorem split_at (h : Fit l P) (i : Nat) : uptoO P i ++ fromO P i = P := by
  have := h.up
  clear h
  unfold uptoO fromO
  induction P with
  | nil => rfl
  | cons p P ih =>
    rw [List.pairwise_cons] at this
    have ih := ih this.2
    rw [List.filter_cons, List.filter_cons]
    by_cases hp : p.1 < i
    · rw [if_pos (by simpa using hp), if_neg (by simpa using hp), List.cons_append, ih]
    · have : (P.filter fun p => decide (p.1 < i)) = [] := by
        rw [List.filter_eq_nil_iff]; intro q hq; have := this.1 q hq; simp; omega
      rw [if_neg (by simpa using hp), if_pos (by simpa using hp)]
      rw [this] at ih ⊢
      rw [List.nil_append] at ih ⊢; rw [ih]
theorem uptoO_succ (h : Fit l P) (hi : l[i]? = some e) : uptoO P (i + 1) = uptoO P i ++ (if i ∈ plO P then [(i, e)] else []) := by
  have hs := split_at h i
  have hg : l.getD i enD = e := by rw [List.getD_eq_getElem?_getD, hi]; rfl
  by_cases hp : i ∈ plO P
  · rw [if_pos hp]
    have hm := h.pl.mp hp
    rw [hg] at hm
    obtain ⟨a, b, hab⟩ := List.append_of_mem hm
    obtain ⟨h1, h2⟩ := h.uniq hab
    unfold uptoO
    rw [hab, List.filter_append, List.filter_append, List.filter_cons, List.filter_cons, if_pos (by simp), if_neg (by simp)]
    have e1 : ∀ j, i ≤ j → (a.filter fun p => decide (p.1 < j)) = a := fun j hj => List.filter_eq_self.mpr fun y hy => by have := h1 y hy; simp at this ⊢; omega
    have e2 : ∀ j, j ≤ i + 1 → (b.filter fun p => decide (p.1 < j)) = [] := fun j hj => List.filter_eq_nil_iff.mpr fun y hy => by have := h2 y hy; simp at this ⊢; omega
    rw [e1 _ (by omega), e1 _ (by omega), e2 _ (by omega), e2 _ (by omega)]; simp
  · rw [if_neg hp, List.append_nil]
    unfold uptoO
    apply List.filter_congr
    intro p hpp
    have : p.1 ≠ i := fun e => hp (List.mem_map.mpr ⟨p, hpp, e⟩)
    rw [Bool.eq_iff_iff]; simp; omega
theorem fromO_pred (h : Fit l P) (hi : l[i]? = some e) : fromO P i = (if i ∈ plO P then [(i, e)] else []) ++ fromO P (i + 1) := by
  have h1 := split_at h i
  have h2 := split_at h (i + 1)
  rw [uptoO_succ h hi, List.append_assoc] at h2
  exact List.append_cancel_left (h1.trans h2.symm)
/-- what is told of them so far -/
def pickO (sel : En → Bool) (P : List Pe) : List En := (P.filter fun p => sel p.2).map (·.2)
theorem pickO_append (sel : En → Bool) (P Q : List Pe) : pickO sel (P ++ Q) = pickO sel P ++ pickO sel Q := by unfold pickO; rw [List.filter_append, List.map_append]
theorem pickO_one (sel : En → Bool) : pickO sel [(i, e)] = if sel e then [e] else [] := by unfold pickO; cases h : sel e <;> simp [h]
theorem pickO_succ (sel : En → Bool) (h : Fit l P) (hi : l[i]? = some e) : pickO sel (uptoO P (i + 1)) = pickO sel (uptoO P i) ++ (if decide (i ∈ plO P) && sel e then [e] else []) := by
  rw [uptoO_succ h hi, pickO_append]
  by_cases hp : i ∈ plO P
  · rw [if_pos hp, pickO_one, decide_eq_true hp, Bool.true_and]
  · rw [if_neg hp, decide_eq_false hp]; rfl
theorem undoL_pred (sel : En → Bool) (h : Fit l P) (hi : l[i]? = some e) : undoL sel (fromO P i) = undoL sel (fromO P (i + 1)) ++ (if decide (i ∈ plO P) && sel e then [e.neg] else []) := by
  rw [fromO_pred h hi]
  unfold undoL
  rw [List.filter_append, List.reverse_append, List.map_append]
  by_cases hp : i ∈ plO P
  · rw [if_pos hp, decide_eq_true hp, Bool.true_and]; cases hs : sel e <;> simp [hs]
  · rw [if_neg hp, decide_eq_false hp]; rfl
theorem undoL_pick {sel : En → Bool} {P : List Pe} : undoL sel P = (pickO sel P).reverse.map En.neg := by
  unfold undoL pickO; rw [← List.map_reverse, List.map_map]; rfl
theorem openT_pick {P : List Pe} {t : Int} : openT P t = pickO (fun e => decide (e.t = t)) P := rfl
end
end Go.Proofs.Ytpphhhalmccnbaa
