/-
  Versions of blocks that rise: one written, freed, passed; what is found of one. No program in it.
-/
import Derived.Test.YtmhnjmfcenbogaaTreeA
namespace Go.Proofs.Ytmhnjmfcenbogaa
set_option maxRecDepth 100000
set_option linter.unusedVariables false
set_option linter.unusedSimpArgs false

structure Vn where
  b : Int
  x : Int
  d : List UInt8
structure Vt where
  B : List (List UInt8)
  L : List Vn
/-- which of two stands first -/
def Vn.L (p q : Vn) : Prop := p.b < q.b ∨ (p.b = q.b ∧ p.x < q.x)
instance (p q : Vn) : Decidable (p.L q) := by unfold Vn.L; infer_instance
theorem Vn.L.trans {p q r : Vn} (h : p.L q) (k : q.L r) : p.L r := by unfold Vn.L at *; omega
def RiseV (P : List Vn) : Prop := P.Pairwise Vn.L
theorem RiseV.sub {P Q : List Vn} (h : RiseV P) (k : Q.Sublist P) : RiseV Q := List.Pairwise.sublist k h

/-- is it that one's, of that block? -/
def Vn.is (v : Vn) (x b : Int) : Bool := decide (v.x = x) && decide (v.b = b)
theorem Vn.is_iff {v : Vn} {x b : Int} : v.is x b = true ↔ v.x = x ∧ v.b = b := by unfold Vn.is; simp
/-- what one has of a block -/
def hasV : List Vn → Int → Int → Option (List UInt8)
  | [], _, _ => none
  | v :: r, x, b => if v.x = x ∧ v.b = b then some v.d else hasV r x b
theorem hasV_cons (v : Vn) (r : List Vn) (x b : Int) : hasV (v :: r) x b = if v.x = x ∧ v.b = b then some v.d else hasV r x b := rfl
theorem any_in (l : List Int) (a : Int) : (l.any fun y => decide (y = a)) = decide (a ∈ l) := by
  induction l with
  | nil => simp
  | cons y l ih =>
    rw [List.any_cons, ih]
    by_cases h : y = a
    · simp [h]
    · have h2 : ¬ a = y := fun e => h e.symm
      simp [h, h2]
theorem hasV_none {L : List Vn} {x b : Int} : hasV L x b = none ↔ ∀ v ∈ L, ¬ (v.x = x ∧ v.b = b) := by
  induction L with
  | nil => simp [hasV]
  | cons v r ih =>
    unfold hasV
    by_cases h : v.x = x ∧ v.b = b
    · rw [if_pos h]
      simp only [List.mem_cons, forall_eq_or_imp]
      exact ⟨fun e => (by cases e), fun e => absurd h e.1⟩
    · rw [if_neg h, ih]
      simp only [List.mem_cons, forall_eq_or_imp]
      exact ⟨fun e => ⟨h, e⟩, fun e => e.2⟩
theorem hasV_some {L : List Vn} {x b : Int} {d : List UInt8} (h : hasV L x b = some d) : ∃ v ∈ L, v.x = x ∧ v.b = b ∧ v.d = d := by
  induction L with
  | nil => cases h
  | cons v r ih =>
    unfold hasV at h
    by_cases e : v.x = x ∧ v.b = b
    · rw [if_pos e] at h
      injection h with h
      exact ⟨v, by simp, e.1, e.2, h⟩
    · rw [if_neg e] at h
      obtain ⟨w, hw, hh⟩ := ih h
      exact ⟨w, by simp [hw], hh⟩
theorem hasV_mem {L : List Vn} (hr : RiseV L) {v : Vn} (h : v ∈ L) : hasV L v.x v.b = some v.d := by
  induction L with
  | nil => cases h
  | cons w r ih =>
    obtain ⟨h1, h2⟩ := List.pairwise_cons.1 hr
    unfold hasV
    rcases List.mem_cons.1 h with rfl | h
    · rw [if_pos ⟨rfl, rfl⟩]
    · have h3 := h1 v h
      unfold Vn.L at h3
      rw [if_neg (by omega), ih h2 h]
theorem hasV_app (L M : List Vn) (x b : Int) : hasV (L ++ M) x b = (hasV L x b).or (hasV M x b) := by
  induction L with
  | nil => rfl
  | cons v r ih =>
    rw [List.cons_append, hasV_cons, hasV_cons]
    by_cases h : v.x = x ∧ v.b = b
    · rw [if_pos h, if_pos h]; rfl
    · rw [if_neg h, if_neg h, ih]

/-- one written, at its place -/
def putV (v : Vn) : List Vn → List Vn
  | [] => [v]
  | y :: r => if y.L v then y :: putV v r else if y.b = v.b ∧ y.x = v.x then v :: r else v :: y :: r
theorem putV_mem {v w : Vn} {L : List Vn} (h : w ∈ putV v L) : w = v ∨ w ∈ L := by
  induction L with
  | nil => simp [putV] at h; exact .inl h
  | cons y r ih =>
    unfold putV at h
    by_cases h1 : y.L v
    · rw [if_pos h1] at h
      rcases List.mem_cons.1 h with h | h
      · exact .inr (by simp [h])
      · rcases ih h with h | h
        · exact .inl h
        · exact .inr (by simp [h])
    · rw [if_neg h1] at h
      by_cases h2 : y.b = v.b ∧ y.x = v.x
      · rw [if_pos h2] at h
        rcases List.mem_cons.1 h with h | h
        · exact .inl h
        · exact .inr (by simp [h])
      · rw [if_neg h2] at h
        rcases List.mem_cons.1 h with h | h
        · exact .inl h
        · exact .inr h
theorem putV_rise {v : Vn} {L : List Vn} (hr : RiseV L) : RiseV (putV v L) := by
  induction L with
  | nil => exact List.pairwise_singleton ..
  | cons y r ih =>
    obtain ⟨h1, h2⟩ := List.pairwise_cons.1 hr
    unfold putV
    by_cases hl : y.L v
    · rw [if_pos hl]
      refine List.pairwise_cons.2 ⟨fun w hw => ?_, ih h2⟩
      rcases putV_mem hw with rfl | hw
      · exact hl
      · exact h1 w hw
    · rw [if_neg hl]
      by_cases he : y.b = v.b ∧ y.x = v.x
      · rw [if_pos he]
        refine List.pairwise_cons.2 ⟨fun w hw => ?_, h2⟩
        have h3 := h1 w hw
        unfold Vn.L at *; omega
      · rw [if_neg he]
        have hv : v.L y := by unfold Vn.L at *; omega
        refine List.pairwise_cons.2 ⟨fun w hw => ?_, hr⟩
        rcases List.mem_cons.1 hw with rfl | hw
        · exact hv
        · exact hv.trans (h1 w hw)
theorem putV_has {v : Vn} {L : List Vn} (hr : RiseV L) (x b : Int) : hasV (putV v L) x b = if v.x = x ∧ v.b = b then some v.d else hasV L x b := by
  induction L with
  | nil => rfl
  | cons y r ih =>
    obtain ⟨h1, h2⟩ := List.pairwise_cons.1 hr
    unfold putV
    by_cases hl : y.L v
    · rw [if_pos hl, hasV_cons, hasV_cons, ih h2]
      by_cases hv : v.x = x ∧ v.b = b
      · unfold Vn.L at hl
        rw [if_pos hv, if_pos hv, if_neg (by omega)]
      · rw [if_neg hv, if_neg hv]
    · rw [if_neg hl]
      by_cases he : y.b = v.b ∧ y.x = v.x
      · rw [if_pos he]
        rw [hasV_cons, hasV_cons]
        by_cases hv : v.x = x ∧ v.b = b
        · rw [if_pos hv, if_pos hv]
        · rw [if_neg hv, if_neg hv, if_neg (by omega)]
      · rw [if_neg he]
        rw [hasV_cons]
theorem putV_new {v : Vn} {L : List Vn} (h : ∀ w ∈ L, ¬ (w.b = v.b ∧ w.x = v.x)) : (putV v L).length = L.length + 1 := by
  induction L with
  | nil => rfl
  | cons y r ih =>
    unfold putV
    split
    · rw [List.length_cons, ih fun w hw => h w (by simp [hw])]; rfl
    · rw [if_neg (h y (by simp))]; rfl
theorem putV_old {v : Vn} {L : List Vn} (hr : RiseV L) (h : ∃ w ∈ L, w.b = v.b ∧ w.x = v.x) : (putV v L).length = L.length := by
  induction L with
  | nil => obtain ⟨w, hw, _⟩ := h; cases hw
  | cons y r ih =>
    obtain ⟨h1, h2⟩ := List.pairwise_cons.1 hr
    obtain ⟨w, hw, e1, e2⟩ := h
    unfold putV
    by_cases hl : y.L v
    · rw [if_pos hl, List.length_cons, List.length_cons]
      rcases List.mem_cons.1 hw with rfl | hw
      · unfold Vn.L at hl; omega
      · rw [ih h2 ⟨w, hw, e1, e2⟩]
    · rw [if_neg hl]
      rcases List.mem_cons.1 hw with rfl | hw
      · rw [if_pos ⟨e1, e2⟩]; rfl
      · have := h1 w hw
        unfold Vn.L at *; omega
theorem putV_len {v : Vn} {L : List Vn} : (putV v L).length ≤ L.length + 1 := by
  induction L with
  | nil => exact Nat.le_refl _
  | cons y r ih =>
    unfold putV
    split
    · rw [List.length_cons, List.length_cons]; omega
    · split <;> simp

/-- those of some have none -/
def freeV (L : List Vn) (l : List Int) : List Vn := L.filter fun v => !(l.any fun y => decide (y = v.x))
def ofV (L : List Vn) (x : Int) : List Vn := L.filter fun v => decide (v.x = x)
theorem freeV_mem {L : List Vn} {l : List Int} {v : Vn} : v ∈ freeV L l ↔ v ∈ L ∧ v.x ∉ l := by
  unfold freeV
  rw [List.mem_filter]
  refine and_congr_right fun _ => ?_
  rw [any_in]
  simp
theorem ofV_mem {L : List Vn} {x : Int} {v : Vn} : v ∈ ofV L x ↔ v ∈ L ∧ v.x = x := by unfold ofV; rw [List.mem_filter]; simp
theorem freeV_rise {L : List Vn} (h : RiseV L) (l : List Int) : RiseV (freeV L l) := h.sub List.filter_sublist
theorem ofV_rise {L : List Vn} (h : RiseV L) (x : Int) : RiseV (ofV L x) := h.sub List.filter_sublist
theorem free_of_len (L : List Vn) (x : Int) : (freeV L [x]).length + (ofV L x).length = L.length := by
  induction L with
  | nil => rfl
  | cons v r ih =>
    unfold freeV ofV at ih ⊢
    by_cases h : v.x = x
    · rw [List.filter_cons, List.filter_cons, if_neg (by simp [h]), if_pos (by simp [h])]
      simp only [List.length_cons]; omega
    · have h2 : ¬ x = v.x := fun e => h e.symm
      rw [List.filter_cons, List.filter_cons, if_pos (by simp [h2]), if_neg (by simp [h])]
      simp only [List.length_cons]; omega
theorem freeV_has (L : List Vn) (l : List Int) (x b : Int) : hasV (freeV L l) x b = if x ∈ l then none else hasV L x b := by
  by_cases h : x ∈ l
  · rw [if_pos h, hasV_none]
    intro v hv hh
    exact (freeV_mem.1 hv).2 (by rw [hh.1]; exact h)
  · rw [if_neg h]
    induction L with
    | nil => rfl
    | cons v r ih =>
      unfold freeV at ih ⊢
      by_cases hv : v.x ∈ l
      · rw [List.filter_cons, if_neg (by rw [any_in]; simp [hv]), ih]
        rw [hasV_cons, if_neg (fun (e : v.x = x ∧ v.b = b) => h (e.1 ▸ hv))]
      · rw [List.filter_cons, if_pos (by rw [any_in]; simp [hv])]
        rw [hasV_cons, hasV_cons, ih]
theorem ofV_has (L : List Vn) (y x b : Int) : hasV (ofV L y) x b = if x = y then hasV L x b else none := by
  by_cases h : x = y
  · subst h
    rw [if_pos rfl]
    induction L with
    | nil => rfl
    | cons v r ih =>
      unfold ofV at ih ⊢
      by_cases hv : v.x = x
      · rw [List.filter_cons, if_pos (by simp [hv])]
        rw [hasV_cons, hasV_cons, ih]
      · rw [List.filter_cons, if_neg (by simp [hv]), ih]
        rw [hasV_cons, if_neg (fun e => hv e.1)]
  · rw [if_neg h, hasV_none]
    intro v hv hh
    exact h (hh.1.symm.trans (ofV_mem.1 hv).2)
/-- what was written by one that had nothing is gone with it -/
theorem free_put {v : Vn} {L : List Vn} (h : ∀ w ∈ L, w.x ≠ v.x) : freeV (putV v L) [v.x] = L := by
  have hL : freeV L [v.x] = L := by
    unfold freeV
    rw [List.filter_eq_self]
    intro w hw
    have := h w hw
    simp
    exact fun e => this e.symm
  have hc : ∀ (w : Vn) (r : List Vn), freeV (w :: r) [v.x] = if w.x = v.x then freeV r [v.x] else w :: freeV r [v.x] := fun w r => by
    unfold freeV
    rw [List.filter_cons]
    by_cases e : w.x = v.x
    · simp [e]
    · have e2 : ¬ v.x = w.x := fun q => e q.symm
      simp [e, e2]
  induction L with
  | nil => show freeV [v] [v.x] = []; rw [hc, if_pos rfl]; rfl
  | cons y r ih =>
    have hy := h y (by simp)
    have hr := fun w hw => h w (List.mem_cons_of_mem y hw)
    rw [hc, if_neg hy] at hL
    injection hL with _ hL
    unfold putV
    split
    · rw [hc, if_neg hy, ih hr hL]
    · rw [if_neg (fun e => hy e.2), hc, if_pos rfl, hc, if_neg hy, hL]

/-- a table that may be -/
structure SanV (t : Vt) : Prop where
  n : t.B.length ≤ 256
  e : ∀ d ∈ t.B, d.length = 32
  may : ∀ v ∈ t.L, (0 ≤ v.b ∧ v.b < (t.B.length : Int)) ∧ (0 ≤ v.x ∧ v.x ≤ 63) ∧ v.d.length = 32
  up : RiseV t.L
theorem SanV.put {t : Vt} (h : SanV t) {v : Vn} (hb : 0 ≤ v.b ∧ v.b < (t.B.length : Int)) (hx : 0 ≤ v.x ∧ v.x ≤ 63) (hd : v.d.length = 32) : SanV ⟨t.B, putV v t.L⟩ :=
  ⟨h.n, h.e, fun w hw => by
    rcases putV_mem hw with rfl | hw
    · exact ⟨hb, hx, hd⟩
    · exact h.may w hw, putV_rise h.up⟩
theorem SanV.free {t : Vt} (h : SanV t) (l : List Int) : SanV ⟨t.B, freeV t.L l⟩ := ⟨h.n, h.e, fun w hw => h.may w (freeV_mem.1 hw).1, freeV_rise h.up l⟩

/-- one more that is passed -/
def passV (par : Int) (t : Vt) (v : Vn) : Vt := if par < 0 then ⟨t.B.set v.b.toNat v.d, t.L⟩ else ⟨t.B, putV ⟨v.b, par, v.d⟩ t.L⟩
def Vt.pass (t : Vt) (x par : Int) : Vt := (ofV t.L x).foldl (passV par) ⟨t.B, freeV t.L [x]⟩
theorem SanV.step {t : Vt} (h : SanV t) {v : Vn} (hb : 0 ≤ v.b ∧ v.b < (t.B.length : Int)) (hd : v.d.length = 32) {par : Int} (hp : par ≤ 63) : SanV (passV par t v) ∧ (passV par t v).B.length = t.B.length := by
  unfold passV
  by_cases h0 : par < 0
  · rw [if_pos h0]
    refine ⟨⟨by simp only [List.length_set]; exact h.n, fun d hdd => ?_, fun w hw => by simp only [List.length_set]; exact h.may w hw, h.up⟩, by simp⟩
    rcases List.mem_or_eq_of_mem_set hdd with e | e
    · exact h.e d e
    · rw [e]; exact hd
  · rw [if_neg h0]
    exact ⟨h.put (v := ⟨v.b, par, v.d⟩) hb (by simp only; omega) hd, rfl⟩
theorem pass_go (par : Int) (hp : par ≤ 63) : ∀ (Q : List Vn) (t : Vt), SanV t → (∀ v ∈ Q, (0 ≤ v.b ∧ v.b < (t.B.length : Int)) ∧ v.d.length = 32) → SanV (Q.foldl (passV par) t) ∧ (Q.foldl (passV par) t).B.length = t.B.length
  | [], t, h, _ => ⟨h, rfl⟩
  | v :: Q, t, h, hq => by
    obtain ⟨h1, h2⟩ := hq v (by simp)
    obtain ⟨s1, s2⟩ := h.step h1 h2 hp
    obtain ⟨r1, r2⟩ := pass_go par hp Q (passV par t v) s1 (fun w hw => by rw [s2]; exact hq w (by simp [hw]))
    rw [List.foldl_cons]
    exact ⟨r1, r2.trans s2⟩
theorem SanV.pass {t : Vt} (h : SanV t) (x : Int) {par : Int} (hp : par ≤ 63) : SanV (t.pass x par) ∧ (t.pass x par).B.length = t.B.length :=
  pass_go par hp (ofV t.L x) ⟨t.B, freeV t.L [x]⟩ (h.free [x]) (fun v hv => by have := h.may v (ofV_mem.1 hv).1; exact ⟨this.1, this.2.2⟩)

theorem pass_len_go (par : Int) : ∀ (Q : List Vn) (t : Vt), (Q.foldl (passV par) t).L.length ≤ t.L.length + Q.length
  | [], t => Nat.le_refl _
  | v :: Q, t => by
    have h := pass_len_go par Q (passV par t v)
    have h2 : (passV par t v).L.length ≤ t.L.length + 1 := by
      unfold passV
      split
      · exact Nat.le_succ _
      · exact putV_len
    rw [List.foldl_cons, List.length_cons]
    omega
theorem pass_len (t : Vt) (x par : Int) : (t.pass x par).L.length ≤ t.L.length := by
  have h1 := pass_len_go par (ofV t.L x) ⟨t.B, freeV t.L [x]⟩
  have h2 := free_of_len t.L x
  unfold Vt.pass
  simp only at h1
  omega

/-- passed to none: the blocks -/
theorem pass_none_go {par : Int} (hp : par < 0) (k : Nat) : ∀ (Q : List Vn) (t : Vt), RiseV Q → (∀ v ∈ Q, 0 ≤ v.b ∧ v.b < (t.B.length : Int)) → (∀ v ∈ Q, ∀ w ∈ Q, v.b = w.b → v = w) →
    (Q.foldl (passV par) t).L = t.L ∧ (Q.foldl (passV par) t).B.getD k [] = (match Q.find? (fun v => decide (v.b = (k : Int))) with | some v => v.d | none => t.B.getD k [])
  | [], t, _, _, _ => ⟨rfl, rfl⟩
  | v :: Q, t, hr, hb, hu => by
    obtain ⟨h1, h2⟩ := List.pairwise_cons.1 hr
    have e : passV par t v = ⟨t.B.set v.b.toNat v.d, t.L⟩ := by unfold passV; rw [if_pos hp]
    obtain ⟨r1, r2⟩ := pass_none_go hp k Q (passV par t v) h2 (fun w hw => by rw [e]; simp only [List.length_set]; exact hb w (by simp [hw])) (fun a ha b hb' => hu a (by simp [ha]) b (by simp [hb']))
    rw [List.foldl_cons]
    refine ⟨by rw [r1, e], ?_⟩
    rw [r2, List.find?_cons, e]
    obtain ⟨hb0, hb1⟩ := hb v (by simp)
    by_cases hk : v.b = (k : Int)
    · have hn : Q.find? (fun v => decide (v.b = (k : Int))) = none := by
        rw [List.find?_eq_none]
        intro w hw hh
        have hwk : w.b = (k : Int) := by simpa using hh
        have := hu v (by simp) w (by simp [hw]) (by omega)
        have h3 := h1 w hw
        rw [← this] at h3
        unfold Vn.L at h3
        omega
      rw [hn, show decide (v.b = (k : Int)) = true from decide_eq_true hk]
      simp only
      rw [List.getD_eq_getElem?_getD, List.getElem?_set]
      have : v.b.toNat = k := by omega
      rw [if_pos this, if_pos (by omega)]; rfl
    · rw [show decide (v.b = (k : Int)) = false from decide_eq_false hk]
      have : v.b.toNat ≠ k := by omega
      cases Q.find? (fun v => decide (v.b = (k : Int))) with
      | some w => rfl
      | none =>
        simp only
        rw [List.getD_eq_getElem?_getD, List.getElem?_set_ne this, ← List.getD_eq_getElem?_getD]
theorem ofV_uniq {L : List Vn} (hr : RiseV L) {x : Int} : ∀ v ∈ ofV L x, ∀ w ∈ ofV L x, v.b = w.b → v = w := by
  intro v hv w hw e
  obtain ⟨hv1, hv2⟩ := ofV_mem.1 hv
  obtain ⟨hw1, hw2⟩ := ofV_mem.1 hw
  obtain ⟨i, hi, rfl⟩ := List.getElem_of_mem hv1
  obtain ⟨j, hj, rfl⟩ := List.getElem_of_mem hw1
  rcases Nat.lt_trichotomy i j with h | h | h
  · have := List.pairwise_iff_getElem.1 hr i j hi hj h
    unfold Vn.L at this; omega
  · subst h; rfl
  · have := List.pairwise_iff_getElem.1 hr j i hj hi h
    unfold Vn.L at this; omega
theorem find_has {L : List Vn} {x k : Int} : (match (ofV L x).find? (fun v => decide (v.b = k)) with | some v => some v.d | none => none) = hasV L x k := by
  induction L with
  | nil => rfl
  | cons v r ih =>
    unfold ofV at ih ⊢
    by_cases hv : v.x = x
    · rw [List.filter_cons, if_pos (by simp [hv]), List.find?_cons]
      unfold hasV
      by_cases hk : v.b = k
      · rw [show decide (v.b = k) = true from decide_eq_true hk, if_pos ⟨hv, hk⟩]
      · rw [show decide (v.b = k) = false from decide_eq_false hk, if_neg (fun e => hk e.2)]
        exact ih
    · rw [List.filter_cons, if_neg (by simp [hv])]
      unfold hasV
      rw [if_neg (fun e => hv e.1)]
      exact ih
theorem SanV.pass_none {t : Vt} (h : SanV t) (x : Int) {par : Int} (hp : par < 0) (k : Nat) : (t.pass x par).L = freeV t.L [x] ∧ (t.pass x par).B.getD k [] = (hasV t.L x (k : Int)).getD (t.B.getD k []) := by
  obtain ⟨h1, h2⟩ := pass_none_go hp k (ofV t.L x) ⟨t.B, freeV t.L [x]⟩ (ofV_rise h.up x) (fun v hv => (h.may v (ofV_mem.1 hv).1).1) (ofV_uniq h.up)
  refine ⟨h1, ?_⟩
  show ((ofV t.L x).foldl (passV par) ⟨t.B, freeV t.L [x]⟩).B.getD k [] = _
  rw [h2, ← find_has]
  cases (ofV t.L x).find? (fun v => decide (v.b = (k : Int))) <;> rfl
/-- passed to a parent: it has them, in place of its own -/
theorem pass_par_go {par : Int} (hp : ¬ par < 0) (y b : Int) : ∀ (Q : List Vn) (t : Vt), RiseV t.L → (∀ v ∈ Q, ∀ w ∈ Q, v.b = w.b → v = w) →
    RiseV (Q.foldl (passV par) t).L ∧ (Q.foldl (passV par) t).B = t.B ∧ hasV (Q.foldl (passV par) t).L y b = (if y = par then (match Q.find? (fun v => decide (v.b = b)) with | some v => some v.d | none => hasV t.L y b) else hasV t.L y b)
  | [], t, hr, _ => ⟨hr, rfl, by simp⟩
  | v :: Q, t, hr, hu => by
    have e : passV par t v = ⟨t.B, putV ⟨v.b, par, v.d⟩ t.L⟩ := by unfold passV; rw [if_neg hp]
    obtain ⟨r1, r2, r3⟩ := pass_par_go hp y b Q (passV par t v) (by rw [e]; exact putV_rise hr) (fun a ha b hb' => hu a (by simp [ha]) b (by simp [hb']))
    rw [List.foldl_cons]
    refine ⟨r1, by rw [r2, e], ?_⟩
    rw [r3, e, putV_has hr, List.find?_cons]
    simp only
    by_cases hy : y = par
    · subst hy
      rw [if_pos rfl, if_pos rfl]
      by_cases hb : v.b = b
      · rw [show decide (v.b = b) = true from decide_eq_true hb, if_pos ⟨rfl, hb⟩]
        cases hf : Q.find? (fun v => decide (v.b = b)) with
        | none => rfl
        | some w =>
          have hw := List.mem_of_find?_eq_some hf
          have hwb : w.b = b := by simpa using List.find?_some hf
          have := hu v (by simp) w (by simp [hw]) (by omega)
          simp only
          rw [this]
      · rw [show decide (v.b = b) = false from decide_eq_false hb, if_neg (fun e => hb e.2)]
    · rw [if_neg hy, if_neg hy, if_neg (fun e => hy e.1.symm)]
theorem SanV.pass_par {t : Vt} (h : SanV t) (x : Int) {par : Int} (hp : ¬ par < 0) (y b : Int) : (t.pass x par).B = t.B ∧
    hasV (t.pass x par).L y b = (if y = par then (hasV t.L x b).or (if y = x then none else hasV t.L y b) else if y = x then none else hasV t.L y b) := by
  obtain ⟨_, h2, h3⟩ := pass_par_go hp y b (ofV t.L x) ⟨t.B, freeV t.L [x]⟩ (freeV_rise h.up [x]) (ofV_uniq h.up)
  refine ⟨h2, ?_⟩
  show hasV ((ofV t.L x).foldl (passV par) ⟨t.B, freeV t.L [x]⟩).L y b = _
  rw [h3, freeV_has, ← find_has (L := t.L) (x := x) (k := b)]
  simp only [List.mem_singleton]
  cases (ofV t.L x).find? (fun v => decide (v.b = b)) <;> rfl
end Go.Proofs.Ytmhnjmfcenbogaa
