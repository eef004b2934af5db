/-
  Pends that rise: where one stands among them, those of one counter, one added to them. No program in it.
-/
import Derived.Test.YtogngghfdcpeaaaRh
import Derived.Test.YtogngghfdcpeaaaRi
namespace Go.Proofs.Ytogngghfdcpeaaa
set_option maxRecDepth 100000
set_option linter.unusedVariables false
set_option linter.unusedSimpArgs false

/-- which of two stands first -/
def Pd.L (p q : Pd) : Prop := p.c < q.c ∨ (p.c = q.c ∧ p.x < q.x)
instance (p q : Pd) : Decidable (p.L q) := by unfold Pd.L; infer_instance
def keyP (c x : Int) : Pd := ⟨c, x, 0, 0⟩
theorem Pd.lt_iff (p q : Pd) : p.lt q = true ↔ p.L q := by unfold Pd.lt Pd.L; simp
theorem Pd.L.trans {p q r : Pd} (h : p.L q) (k : q.L r) : p.L r := by unfold Pd.L at *; omega
def Rise (P : List Pd) : Prop := P.Pairwise Pd.L
theorem Rise.sub {P Q : List Pd} (h : Rise P) (k : Q.Sublist P) : Rise Q := List.Pairwise.sublist k h
theorem rise_split {P : List Pd} (h : Rise P) (z : Pd) : ∃ L1 L2, P = L1 ++ L2 ∧ (∀ y ∈ L1, y.L z) ∧ ∀ y ∈ L2, ¬ y.L z := by
  induction P with
  | nil => exact ⟨[], [], rfl, by simp, by simp⟩
  | cons a P ih =>
    obtain ⟨h1, h2⟩ := List.pairwise_cons.1 h
    by_cases e : a.L z
    · obtain ⟨L1, L2, rfl, i1, i2⟩ := ih h2
      refine ⟨a :: L1, L2, rfl, fun y hy => ?_, i2⟩
      rcases List.mem_cons.1 hy with rfl | hy
      · exact e
      · exact i1 y hy
    · refine ⟨[], a :: P, rfl, by simp, fun y hy hl => ?_⟩
      rcases List.mem_cons.1 hy with rfl | hy
      · exact e hl
      · exact e ((h1 y hy).trans hl)
/-- is the first one just there? -/
def thereB (z : Pd) : List Pd → Bool
  | [] => false
  | y :: _ => decide (y.c = z.c ∧ y.x = z.x)

theorem chain_rise {n : Nat} {P : List Pd} (h : (List.range P.length).all (stepP n P) = true) : (∀ p ∈ P, p.may n = true) ∧ Rise P := by
  rw [List.all_eq_true] at h
  have hs : ∀ i, i < P.length → (P.getD i pdD).may n = true ∧ (i = 0 ∨ (P.getD (i - 1) pdD).L (P.getD i pdD)) := fun i hi => by
    have h1 := h i (List.mem_range.2 hi)
    unfold stepP at h1
    rw [Bool.and_eq_true, Bool.or_eq_true, decide_eq_true_iff] at h1
    exact ⟨h1.1, h1.2.imp id fun h2 => (Pd.lt_iff _ _).1 h2⟩
  have hg : ∀ i (hi : i < P.length), P.getD i pdD = P[i] := fun i hi => by rw [List.getD_eq_getElem?_getD, List.getElem?_eq_getElem hi]; rfl
  refine ⟨fun p hp => ?_, ?_⟩
  · obtain ⟨i, hi, rfl⟩ := List.getElem_of_mem hp
    rw [← hg i hi]; exact (hs i hi).1
  · have hlt : ∀ k i, i + (k + 1) < P.length → (P.getD i pdD).L (P.getD (i + (k + 1)) pdD) := by
      intro k
      induction k with
      | zero =>
        intro i hi
        rcases (hs (i + 1) hi).2 with h1 | h1
        · omega
        · rw [Nat.add_sub_cancel] at h1; exact h1
      | succ k ih =>
        intro i hi
        have h1 := ih i (by omega)
        rcases (hs (i + (k + 1 + 1)) hi).2 with h2 | h2
        · omega
        · rw [show i + (k + 1 + 1) - 1 = i + (k + 1) from by omega] at h2
          exact h1.trans h2
    refine List.pairwise_iff_getElem.2 fun i j hi hj hij => ?_
    have h1 := hlt (j - i - 1) i (by omega)
    rw [show i + (j - i - 1 + 1) = j from by omega, hg i hi, hg j hj] at h1
    exact h1

structure PdMay (n : Nat) (p : Pd) : Prop where
  c0 : 0 ≤ p.c
  c1 : p.c < (n : Int)
  x0 : 0 ≤ p.x
  x1 : p.x ≤ 63
  u : 0 ≤ p.u
  d : p.d ≤ 0
  z : ¬ (p.u = 0 ∧ p.d = 0)
theorem may_iff (n : Nat) (p : Pd) : p.may n = true ↔ PdMay n p := by
  obtain ⟨c, x, u, d⟩ := p
  constructor
  · intro h
    have hh : ∀ b : Bool, b = true → b = true := fun _ h => h
    refine ⟨?_, ?_, ?_, ?_, ?_, ?_, ?_⟩ <;> apply Classical.byContradiction <;> intro hc <;> rw [may_first (by first | (left; left; exact Int.not_le.1 hc) | (left; right; simp only at hc ⊢; omega) | (right; left; left; exact Int.not_le.1 hc) | (right; left; right; exact Int.not_le.1 hc) | (right; right; left; left; exact Int.not_le.1 hc) | (right; right; left; right; exact Int.not_le.1 hc) | (right; right; right; exact Classical.not_not.1 hc))] at h <;> cases h
  · intro h; exact may_yes h.c0 h.c1 h.x0 h.x1 h.u h.d h.z

/-- a table that may be -/
structure San (t : Tb) : Prop where
  n : t.C.length ≤ 64
  may : ∀ p ∈ t.P, PdMay t.C.length p
  up : Rise t.P
  fit : ∀ k, k < t.C.length → t.fits k 0 = true
theorem Tb.san {t : Tb} (h : t.sane = true) : San t := by
  unfold Tb.sane at h
  rw [Bool.and_eq_true, Bool.and_eq_true, decide_eq_true_iff] at h
  obtain ⟨h1, h2, h3⟩ := h
  obtain ⟨k1, k2⟩ := chain_rise h2
  rw [List.all_eq_true] at h3
  exact ⟨h1, fun p hp => (may_iff _ _).1 (k1 p hp), k2, fun k hk => h3 k (List.mem_range.2 hk)⟩
theorem San.sane {t : Tb} (h : San t) : t.sane = true := by
  refine Tb.sane_yes rfl rfl h.n ?_ ?_
  · rw [List.all_eq_true]
    intro i hi
    have hi := List.mem_range.1 hi
    have hg : ∀ i (hi : i < t.P.length), t.P.getD i pdD = t.P[i] := fun i hi => by rw [List.getD_eq_getElem?_getD, List.getElem?_eq_getElem hi]; rfl
    unfold stepP
    rw [hg i hi, (may_iff _ _).2 (h.may _ (List.getElem_mem hi)), Bool.true_and, Bool.or_eq_true, decide_eq_true_iff]
    by_cases h0 : i = 0
    · exact .inl h0
    · refine .inr ((Pd.lt_iff _ _).2 ?_)
      rw [hg (i - 1) (by omega)]
      exact List.pairwise_iff_getElem.1 h.up (i - 1) i (by omega) hi (by omega)
  · rw [List.all_eq_true]
    intro k hk
    exact h.fit k (List.mem_range.1 hk)

/-- a counter's pends -/
def onL (P : List Pd) (k : Int) : List Pd := P.filter fun p => decide (p.c = k)
/-- all Ups and Downs -/
def amt (l : List Pd) : List Int := l.flatMap fun p => [p.u, p.d]
theorem amt_on (P : List Pd) (k : Int) : amt (onL P k) = sumsOf P k := by
  unfold amt onL sumsOf
  induction P with
  | nil => rfl
  | cons p P ih =>
    rw [List.flatMap_cons, ← ih]
    by_cases h : p.c = k
    · rw [List.filter_cons, if_pos (by simpa using h), List.flatMap_cons, if_pos h]
    · rw [List.filter_cons, if_neg (by simpa using h), if_neg h]; rfl
theorem amt_take {l : List Pd} {i : Nat} {p : Pd} (h : l[i]? = some p) : amt (l.take (i + 1)) = amt (l.take i) ++ [p.u, p.d] := by
  unfold amt
  rw [List.take_add_one, h, Option.toList_some, List.flatMap_append]; simp
theorem amt_len (l : List Pd) : (amt l).length = 2 * l.length := by
  unfold amt
  induction l with
  | nil => rfl
  | cons p l ih => rw [List.flatMap_cons, List.length_append, ih, List.length_cons]; simp; omega
theorem on_parts {P L1 L2 M1 M2 : List Pd} {k : Int} (hx : ∀ p ∈ P, 0 ≤ p.x) (h : P = L1 ++ L2) (h1 : ∀ y ∈ L1, y.L (keyP k 0)) (h2 : ∀ y ∈ L2, ¬ y.L (keyP k 0)) (hm : L2 = M1 ++ M2)
    (m1 : ∀ y ∈ M1, y.L (keyP (k + 1) 0)) (m2 : ∀ y ∈ M2, ¬ y.L (keyP (k + 1) 0)) : M1 = onL P k := by
  subst hm; subst h
  unfold onL
  rw [List.filter_append, List.filter_append]
  have e1 : L1.filter (fun p => decide (p.c = k)) = [] := by
    rw [List.filter_eq_nil_iff]
    intro y hy
    have a := h1 y hy
    have b := hx y (by simp [hy])
    unfold Pd.L keyP at a
    simp only at a
    simp only [decide_eq_true_eq]
    omega
  have e2 : M1.filter (fun p => decide (p.c = k)) = M1 := by
    rw [List.filter_eq_self]
    intro y hy
    have a := h2 y (by simp [hy])
    have b := m1 y hy
    have c := hx y (by simp [hy])
    unfold Pd.L keyP at a b
    simp only at a b
    simp only [decide_eq_true_eq]
    omega
  have e3 : M2.filter (fun p => decide (p.c = k)) = [] := by
    rw [List.filter_eq_nil_iff]
    intro y hy
    have a := m2 y hy
    have b := hx y (by simp [hy])
    unfold Pd.L keyP at a
    simp only at a
    simp only [decide_eq_true_eq]
    omega
  rw [e1, e2, e3]; simp

/-- one more, at its place -/
def putP (p : Pd) : List Pd → List Pd
  | [] => [p]
  | y :: r => if y.c = p.c ∧ y.x = p.x then ⟨p.c, p.x, w64 (p.u + y.u), w64 (p.d + y.d)⟩ :: r else p :: y :: r
theorem putP_same {p y : Pd} {r : List Pd} (h : y.c = p.c ∧ y.x = p.x) : putP p (y :: r) = ⟨p.c, p.x, w64 (p.u + y.u), w64 (p.d + y.d)⟩ :: r := if_pos h
theorem putP_new {p y : Pd} {r : List Pd} (h : ¬ (y.c = p.c ∧ y.x = p.x)) : putP p (y :: r) = p :: y :: r := if_neg h
theorem Ws.past (p : Pd) : ∀ (l : List Pd) (o : List Pd), (∀ y ∈ l, y.L p) → l.foldl Ws.step ⟨o, false, p⟩ = ⟨o ++ l, false, p⟩
  | [], o, _ => by simp
  | y :: l, o, h => by
    have hy := h y (by simp)
    obtain ⟨c, x, u, d⟩ := p
    obtain ⟨yc, yx, yu, yd⟩ := y
    unfold Pd.L at hy
    simp only at hy
    rw [List.foldl_cons, step_keep (by omega) (.inr (by omega)), Ws.past _ l _ (fun z hz => h z (by simp [hz])), List.append_assoc]; rfl
theorem Ws.rest (p : Pd) : ∀ (l : List Pd) (o : List Pd), (∀ y ∈ l, p.L y) → l.foldl Ws.step ⟨o, true, p⟩ = ⟨o ++ l, true, p⟩
  | [], o, _ => by simp
  | y :: l, o, h => by
    have hy := h y (by simp)
    obtain ⟨c, x, u, d⟩ := p
    obtain ⟨yc, yx, yu, yd⟩ := y
    unfold Pd.L at hy
    simp only at hy
    rw [List.foldl_cons, step_keep (by omega) (.inl rfl), Ws.rest _ l _ (fun z hz => h z (by simp [hz])), List.append_assoc]; rfl
theorem with_rise {L1 L2 : List Pd} {p : Pd} (hz : ¬ (p.u = 0 ∧ p.d = 0)) (h1 : ∀ y ∈ L1, y.L p) (h2 : ∀ y ∈ L2, ¬ y.L p) (hr : Rise L2) : withL (L1 ++ L2) p = L1 ++ putP p L2 := by
  unfold withL Ws.all
  rw [if_neg hz, List.foldl_append, Ws.past p L1 [] h1, List.nil_append]
  cases L2 with
  | nil => simp [putP]
  | cons y r =>
    obtain ⟨k1, k2⟩ := List.pairwise_cons.1 hr
    have hy := h2 y (by simp)
    obtain ⟨c, x, u, d⟩ := p
    obtain ⟨yc, yx, yu, yd⟩ := y
    unfold Pd.L at hy
    simp only at hy
    rw [List.foldl_cons]
    by_cases hs : yc = c ∧ yx = x
    · obtain ⟨e1, e2⟩ := hs
      subst e1; subst e2
      rw [step_same rfl rfl, putP_same (by exact ⟨rfl, rfl⟩)]
      cases r with
      | nil => simp
      | cons z r =>
        have hz := k1 z (by simp)
        obtain ⟨zc, zx, zu, zd⟩ := z
        unfold Pd.L at hz
        simp only at hz
        have hr2 : ∀ q ∈ r, (Pd.mk yc yx (w64 (u + yu)) (w64 (d + yd))).L q := fun q hq => by
          have := k1 q (by simp [hq])
          unfold Pd.L at this ⊢
          exact this
        rw [List.foldl_cons, step_put (by omega) (by omega), Ws.rest _ r _ hr2]
        simp
    · rw [step_put hs (by omega)]
      have hr2 : ∀ q ∈ r, (Pd.mk c x u d).L q := fun q hq => by
        have := k1 q (by simp [hq])
        unfold Pd.L at this ⊢
        simp only at this ⊢
        omega
      rw [Ws.rest _ r _ hr2, putP_new (by exact hs)]
      simp
/-- behind what stands ahead of it -/
theorem with_behind {X R : List Pd} {p : Pd} (hz : ¬ (p.u = 0 ∧ p.d = 0)) (hx : ∀ y ∈ X, y.L p) (hr : Rise R) : withL (X ++ R) p = X ++ withL R p := by
  obtain ⟨L1, L2, rfl, h1, h2⟩ := rise_split hr p
  have hr2 : Rise L2 := hr.sub (List.sublist_append_right _ _)
  rw [with_rise hz h1 h2 hr2, ← List.append_assoc, with_rise hz (fun y hy => by rcases List.mem_append.1 hy with h | h; exact hx y h; exact h1 y h) h2 hr2, List.append_assoc]
end Go.Proofs.Ytogngghfdcpeaaa
