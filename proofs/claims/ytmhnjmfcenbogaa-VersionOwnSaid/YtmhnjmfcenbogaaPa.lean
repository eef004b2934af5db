/-
  Versions that rise: where one stands among them, those of one block, one put in its place, and several. No program in it.
-/
import Derived.Test.YtmhnjmfcenbogaaVc
namespace Go.Proofs.Ytmhnjmfcenbogaa
set_option maxRecDepth 100000
set_option linter.unusedVariables false
set_option linter.unusedSimpArgs false

def keyVn (b x : Int) : Vn := ⟨b, x, []⟩
theorem riseV_split {P : List Vn} (h : RiseV P) (z : Vn) : ∃ L1 L2, P = L1 ++ L2 ∧ (∀ y ∈ L1, y.L z) ∧ ∀ y ∈ L2, ¬ y.L z := by
  induction P with
  | nil => exact ⟨[], [], rfl, by simp, by simp⟩
  | cons a P ih =>
    obtain ⟨h1, h2⟩ := List.pairwise_cons.1 h
    by_cases e : a.L z
    · obtain ⟨L1, L2, rfl, i1, i2⟩ := ih h2
      refine ⟨a :: L1, L2, rfl, fun y hy => ?_, i2⟩
      rcases List.mem_cons.1 hy with rfl | hy
      · exact e
      · exact i1 y hy
    · refine ⟨[], a :: P, rfl, by simp, fun y hy hl => ?_⟩
      rcases List.mem_cons.1 hy with rfl | hy
      · exact e hl
      · exact e ((h1 y hy).trans hl)
/-- is the first one just there? -/
def thereV (b x : Int) : List Vn → Bool
  | [] => false
  | y :: _ => decide (y.b = b ∧ y.x = x)
/-- a block's versions -/
def onV (P : List Vn) (k : Int) : List Vn := P.filter fun p => decide (p.b = k)
theorem onV_parts {P L1 L2 M1 M2 : List Vn} {k : Int} (hx : ∀ p ∈ P, 0 ≤ p.x) (h : P = L1 ++ L2) (h1 : ∀ y ∈ L1, y.L (keyVn k 0)) (h2 : ∀ y ∈ L2, ¬ y.L (keyVn k 0)) (hm : P = M1 ++ M2)
    (m1 : ∀ y ∈ M1, y.L (keyVn (k + 1) 0)) (m2 : ∀ y ∈ M2, ¬ y.L (keyVn (k + 1) 0)) : L1.length ≤ M1.length ∧ (P.drop L1.length).take (M1.length - L1.length) = onV P k := by
  have hx1 : ∀ y ∈ L1, y.b < k := fun y hy => by
    have a := h1 y hy
    have b := hx y (by rw [h]; simp [hy])
    unfold Vn.L keyVn at a
    simp only at a
    omega
  have hx2 : ∀ y ∈ L2, k ≤ y.b := fun y hy => by
    have a := h2 y hy
    have b := hx y (by rw [h]; simp [hy])
    unfold Vn.L keyVn at a
    simp only at a
    omega
  have hy1 : ∀ y ∈ M1, y.b < k + 1 := fun y hy => by
    have a := m1 y hy
    have b := hx y (by rw [hm]; simp [hy])
    unfold Vn.L keyVn at a
    simp only at a
    omega
  have hy2 : ∀ y ∈ M2, k + 1 ≤ y.b := fun y hy => by
    have a := m2 y hy
    have b := hx y (by rw [hm]; simp [hy])
    unfold Vn.L keyVn at a
    simp only at a
    omega
  have hle : L1.length ≤ M1.length := by
    apply Classical.byContradiction
    intro hc
    have hc : M1.length < L1.length := by omega
    have e1 : P[M1.length]? = some (L1[M1.length]'hc) := by rw [h, List.getElem?_append_left hc]; exact List.getElem?_eq_getElem hc
    have hb := hx1 _ (List.getElem_mem hc)
    rw [hm, List.getElem?_append_right (Nat.le_refl _), Nat.sub_self] at e1
    have hmem := List.mem_of_getElem? e1
    have := hy2 _ hmem
    omega
  refine ⟨hle, ?_⟩
  have hM : M1 = L1 ++ (P.drop L1.length).take (M1.length - L1.length) := by
    have a : P.take M1.length = M1 := by rw [hm, List.take_left]
    have b : P.take L1.length = L1 := by rw [h, List.take_left]
    have c : M1.length = L1.length + (M1.length - L1.length) := by omega
    conv => lhs; rw [← a, c, List.take_add, b]
  have hD : P.drop L1.length = L2 := by rw [h, List.drop_left]
  generalize (P.drop L1.length).take (M1.length - L1.length) = Q at hM ⊢
  have hP : P = L1 ++ (Q ++ M2) := by rw [hm, hM, List.append_assoc]
  have hQ : L2 = Q ++ M2 := by rw [h] at hP; exact List.append_cancel_left hP
  unfold onV
  rw [hP, List.filter_append, List.filter_append]
  have e1 : L1.filter (fun p => decide (p.b = k)) = [] := by
    rw [List.filter_eq_nil_iff]
    intro y hy
    have := hx1 y hy
    simp only [decide_eq_true_eq]; omega
  have e2 : Q.filter (fun p => decide (p.b = k)) = Q := by
    rw [List.filter_eq_self]
    intro y hy
    have a := hy1 y (by rw [hM]; simp [hy])
    have b := hx2 y (by rw [hQ]; simp [hy])
    simp only [decide_eq_true_eq]; omega
  have e3 : M2.filter (fun p => decide (p.b = k)) = [] := by
    rw [List.filter_eq_nil_iff]
    intro y hy
    have := hy2 y hy
    simp only [decide_eq_true_eq]; omega
  rw [e1, e2, e3]; simp
/-- what stands at its place put -/
theorem putV_split {L1 L2 : List Vn} {v : Vn} (h1 : ∀ y ∈ L1, y.L v) (h2 : ∀ y ∈ L2, ¬ y.L v) : putV v (L1 ++ L2) = L1 ++ v :: L2.drop (if thereV v.b v.x L2 then 1 else 0) := by
  induction L1 with
  | nil =>
    rw [List.nil_append, List.nil_append]
    cases L2 with
    | nil => rfl
    | cons y r =>
      unfold putV thereV
      rw [if_neg (h2 y (by simp))]
      by_cases e : y.b = v.b ∧ y.x = v.x
      · rw [if_pos e, if_pos (decide_eq_true e)]; rfl
      · rw [if_neg e, if_neg (fun (q : decide (y.b = v.b ∧ y.x = v.x) = true) => e (of_decide_eq_true q))]; rfl
  | cons a r ih =>
    rw [List.cons_append]
    show (if a.L v then a :: putV v (r ++ L2) else _) = _
    rw [if_pos (h1 a (by simp)), ih (fun y hy => h1 y (by simp [hy]))]
    rfl
/-- behind what stands ahead of it -/
theorem putV_behind {X R : List Vn} {v : Vn} (hx : ∀ y ∈ X, y.L v) : putV v (X ++ R) = X ++ putV v R := by
  induction X with
  | nil => rfl
  | cons a r ih =>
    rw [List.cons_append]
    show (if a.L v then a :: putV v (r ++ R) else _) = _
    rw [if_pos (hx a (by simp)), ih (fun y hy => hx y (by simp [hy]))]
    rfl
/-- several, which rise, one behind the other -/
def withV (L M : List Vn) : List Vn := M.foldl (fun l v => putV v l) L
theorem withV_cons (L : List Vn) (v : Vn) (M : List Vn) : withV L (v :: M) = withV (putV v L) M := rfl
theorem withV_behind {X : List Vn} : ∀ (M R : List Vn), (∀ v ∈ M, ∀ y ∈ X, y.L v) → withV (X ++ R) M = X ++ withV R M
  | [], R, _ => rfl
  | v :: M, R, h => by
    rw [withV_cons, withV_cons, putV_behind (h v (by simp)), withV_behind M (putV v R) (fun u hu => h u (by simp [hu]))]
/-- one step of it: what is gone through, what is not -/
theorem withV_step {L1 L2 : List Vn} {v : Vn} {M : List Vn} (h1 : ∀ y ∈ L1, y.L v) (h2 : ∀ y ∈ L2, ¬ y.L v) (hr : RiseV (v :: M)) :
    withV (L1 ++ L2) (v :: M) = (L1 ++ [v]) ++ withV (L2.drop (if thereV v.b v.x L2 then 1 else 0)) M := by
  rw [withV_cons, putV_split h1 h2, show L1 ++ v :: L2.drop (if thereV v.b v.x L2 then 1 else 0) = (L1 ++ [v]) ++ L2.drop (if thereV v.b v.x L2 then 1 else 0) by simp]
  obtain ⟨k1, k2⟩ := List.pairwise_cons.1 hr
  refine withV_behind M _ fun u hu y hy => ?_
  rcases List.mem_append.1 hy with h | h
  · exact (h1 y h).trans (k1 u hu)
  · rw [List.mem_singleton.1 h]; exact k1 u hu
theorem withV_one (L : List Vn) (v : Vn) : withV L [v] = putV v L := rfl
/-- what is passed to one that may have versions -/
theorem pass_withV (t : Vt) (x par : Int) (h : ¬ par < 0) : t.pass x par = ⟨t.B, withV (freeV t.L [x]) ((ofV t.L x).map fun v => ⟨v.b, par, v.d⟩)⟩ := by
  have go : ∀ (Q : List Vn) (s : Vt), Q.foldl (passV par) s = ⟨s.B, withV s.L (Q.map fun v => ⟨v.b, par, v.d⟩)⟩ := by
    intro Q
    induction Q with
    | nil => intro s; rfl
    | cons v Q ih =>
      intro s
      rw [List.foldl_cons, ih]
      unfold passV
      rw [if_neg h]
      rfl
  exact go _ _
theorem pass_setV (t : Vt) (x par : Int) (h : par < 0) : t.pass x par = ⟨(ofV t.L x).foldl (fun B v => B.set v.b.toNat v.d) t.B, freeV t.L [x]⟩ := by
  have go : ∀ (Q : List Vn) (s : Vt), Q.foldl (passV par) s = ⟨Q.foldl (fun B v => B.set v.b.toNat v.d) s.B, s.L⟩ := by
    intro Q
    induction Q with
    | nil => intro s; rfl
    | cons v Q ih =>
      intro s
      rw [List.foldl_cons, ih]
      unfold passV
      rw [if_pos h]
      rfl
  exact go _ _
/-- one's versions, all of one owner, rise by their blocks -/
theorem ofV_map_rise {L : List Vn} (h : RiseV L) (x par : Int) : RiseV ((ofV L x).map fun v => ⟨v.b, par, v.d⟩) := by
  have h1 := ofV_rise h x
  have h2 : ∀ v ∈ ofV L x, v.x = x := fun v hv => (ofV_mem.1 hv).2
  generalize ofV L x = Q at h1 h2
  unfold RiseV
  rw [List.pairwise_map]
  refine List.Pairwise.imp_of_mem ?_ h1
  intro a b ha hb hl
  have e1 := h2 a ha
  have e2 := h2 b hb
  unfold Vn.L at hl ⊢
  simp only
  omega
/-- whose versions of a block: the nearest of those that one stands in, as the loops find it -/
theorem hasV_on (L : List Vn) (x k : Int) : hasV (onV L k) x k = hasV L x k := by
  induction L with
  | nil => rfl
  | cons v r ih =>
    unfold onV at ih ⊢
    by_cases e : v.b = k
    · rw [List.filter_cons, if_pos (by simpa using e), hasV_cons, hasV_cons, ih]
    · rw [List.filter_cons, if_neg (by simpa using e), hasV_cons, if_neg (fun h => e h.2), ih]
theorem hasV_first {L : List Vn} {x k : Int} {i : Nat} {v : Vn} (hb : ∀ u ∈ L, u.b = k) (h1 : ∀ u ∈ L.take i, u.x ≠ x) (hv : L[i]? = some v) (hx : v.x = x) : hasV L x k = some v.d := by
  have e := (List.take_append_drop i L).symm
  rw [e, hasV_app, hasV_none.2 (fun u hu h => h1 u hu h.1)]
  have hd : L.drop i = v :: L.drop (i + 1) := by
    have hi := (List.getElem?_eq_some_iff.1 hv).1
    rw [List.drop_eq_getElem_cons hi, (List.getElem?_eq_some_iff.1 hv).2]
  rw [hd, hasV_cons, if_pos ⟨hx, hb v (List.mem_of_getElem? hv)⟩]; rfl
theorem hasV_not {L : List Vn} {x k : Int} (h1 : ∀ u ∈ L, u.x ≠ x) : hasV L x k = none := hasV_none.2 fun u hu h => h1 u hu h.1
end Go.Proofs.Ytmhnjmfcenbogaa
