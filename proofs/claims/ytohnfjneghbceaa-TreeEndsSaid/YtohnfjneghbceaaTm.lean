/-
  Transactions in one another: the plain model. A tree is a list of transactions (parent, state, began, ended) and a clock; the way up from one; what Begin, Commit and Abort make of a sound tree is sound. No program in it.
-/
namespace Go.Proofs.Ytohnfjneghbceaa
set_option maxRecDepth 100000

structure Tx where
  p : Int
  s : Int
  b : Int
  e : Int

structure Tr where
  l : List Tx
  c : Int

/-- the transaction with an ID (of what is none: one of no matter) -/
def Tr.tx (T : Tr) (i : Nat) : Tx := T.l.getD i ⟨-1, 0, 0, 0⟩

/-- the way up, where each parent lies below -/
def wayN (f : Nat → Int) (i : Nat) : List Nat :=
  i :: (if 0 ≤ f i ∧ f i < (i : Int) then wayN f (f i).toNat else [])
termination_by i
decreasing_by omega

theorem wayN_eq (f : Nat → Int) (i : Nat) : wayN f i = i :: (if 0 ≤ f i ∧ f i < (i : Int) then wayN f (f i).toNat else []) := by rw [wayN]
theorem wayN_top {f : Nat → Int} {i : Nat} (h : f i < 0) : wayN f i = [i] := by
  rw [wayN, if_neg (by omega)]
theorem wayN_up {f : Nat → Int} {i j : Nat} (h : f i = j) (hj : j < i) : wayN f i = i :: wayN f j := by
  rw [wayN, if_pos (by omega), h]; rfl
theorem wayN_head (f : Nat → Int) (i : Nat) : ∃ r, wayN f i = i :: r := by rw [wayN]; exact ⟨_, rfl⟩
theorem wayN_self (f : Nat → Int) (i : Nat) : i ∈ wayN f i := by rw [wayN]; exact List.mem_cons_self
theorem wayN_ne (f : Nat → Int) (i : Nat) : wayN f i ≠ [] := by rw [wayN]; simp

theorem wayN_congr {f g : Nat → Int} (i : Nat) (h : ∀ j, j ≤ i → f j = g j) : wayN f i = wayN g i := by
  induction i using Nat.strongRecOn with
  | ind i ih =>
    rw [wayN_eq f i, wayN_eq g i, h i (Nat.le_refl _)]
    by_cases hc : 0 ≤ g i ∧ g i < (i : Int)
    · rw [if_pos hc, if_pos hc, ih _ (by omega) (fun j hj => h j (by omega))]
    · rw [if_neg hc, if_neg hc]

theorem wayN_le {f : Nat → Int} {i j : Nat} (h : j ∈ wayN f i) : j ≤ i := by
  induction i using Nat.strongRecOn with
  | ind i ih =>
    rw [wayN] at h
    rcases List.mem_cons.1 h with h | h
    · omega
    · split at h
      · have := ih _ (by omega) h; omega
      · simp at h

theorem wayN_nodup (f : Nat → Int) (i : Nat) : (wayN f i).Nodup := by
  induction i using Nat.strongRecOn with
  | ind i ih =>
    rw [wayN]
    refine List.nodup_cons.2 ⟨fun h => ?_, ?_⟩
    · split at h
      · have := wayN_le h; omega
      · simp at h
    · split
      · exact ih _ (by omega)
      · exact List.nodup_nil

theorem wayN_trans {f : Nat → Int} {i j k : Nat} (h : j ∈ wayN f i) (hk : k ∈ wayN f j) : k ∈ wayN f i := by
  induction i using Nat.strongRecOn with
  | ind i ih =>
    by_cases e : j = i
    · rw [← e]; exact hk
    · rw [wayN] at h ⊢
      rcases List.mem_cons.1 h with h | h
      · exact absurd h e
      · refine List.mem_cons_of_mem _ ?_
        split at h
        · next hc => rw [if_pos hc]; exact ih _ (by omega) h
        · simp at h

/-- the way of one on the way is the rest of it -/
theorem wayN_split {f : Nat → Int} (i : Nat) (pre : List Nat) (x : Nat) (h : (pre ++ [x]) <+: wayN f i) : wayN f i = pre ++ wayN f x := by
  induction pre generalizing i with
  | nil =>
    obtain ⟨r, hr⟩ := h
    rw [wayN] at hr
    simp at hr
    obtain ⟨rfl, _⟩ := hr
    rfl
  | cons y pre ih =>
    obtain ⟨r, hr⟩ := h
    rw [wayN] at hr ⊢
    simp at hr
    obtain ⟨rfl, hr⟩ := hr
    split at hr
    · next hc =>
      rw [if_pos hc, List.cons_append]
      congr 1
      exact ih _ ⟨r, by rw [← hr]; simp⟩
    · simp at hr

/-- two on one way: one is on the other's -/
theorem wayN_line {f : Nat → Int} {i a b : Nat} (ha : a ∈ wayN f i) (hb : b ∈ wayN f i) : a ∈ wayN f b ∨ b ∈ wayN f a := by
  induction i using Nat.strongRecOn with
  | ind i ih =>
    by_cases e : a = i
    · subst e; exact .inr hb
    · by_cases e2 : b = i
      · subst e2; exact .inl ha
      · rw [wayN] at ha hb
        rcases List.mem_cons.1 ha with ha | ha
        · exact absurd ha e
        · rcases List.mem_cons.1 hb with hb | hb
          · exact absurd hb e2
          · split at ha
            · next hc => rw [if_pos hc] at hb; exact ih _ (by omega) ha hb
            · simp at ha

/-- on the way up to the first of which it is told, all stand in 'of' or none -/
theorem wayN_told {f : Nat → Int} (i of : Nat) (pre : List Nat) (x : Nat) (h : (pre ++ [x]) <+: wayN f i) (hof : of ∉ pre) : ∀ y ∈ pre ++ [x], (of ∈ wayN f y ↔ of ∈ wayN f x) := by
  intro y hy
  rcases List.mem_append.1 hy with hy | hy
  · obtain ⟨a, b, e⟩ := List.append_of_mem hy
    have hs := wayN_split i a y (by rw [e] at h; exact List.IsPrefix.trans ⟨b ++ [x], by simp⟩ h)
    have h2 : (y :: b) ++ [x] <+: wayN f y := by
      rw [hs, e] at h
      obtain ⟨r, hr⟩ := h
      refine ⟨r, ?_⟩
      have hr' : a ++ ((y :: b) ++ [x] ++ r) = a ++ wayN f y := by rw [← hr]; simp
      exact List.append_cancel_left hr'
    have hw := wayN_split y (y :: b) x h2
    rw [hw]
    constructor
    · intro hm
      rcases List.mem_append.1 hm with hm | hm
      · exact absurd (by rw [e]; exact List.mem_append_right _ hm) hof
      · exact hm
    · exact fun hm => List.mem_append_right _ hm
  · simp at hy; rw [hy]

def Tr.par (T : Tr) (i : Nat) : Int := (T.tx i).p
/-- all that one stands in, itself first; of what is no ID none -/
def Tr.way (T : Tr) (i : Int) : List Nat := if 0 ≤ i ∧ i < (T.l.length : Int) then wayN T.par i.toNat else []

theorem Tr.way_nat {T : Tr} {i : Nat} (h : i < T.l.length) : T.way (i : Int) = wayN T.par i := by
  unfold Tr.way
  rw [if_pos (by omega)]; simp
theorem Tr.way_none {T : Tr} {i : Int} (h : i < 0 ∨ (T.l.length : Int) ≤ i) : T.way i = [] := by
  unfold Tr.way
  rw [if_neg (by omega)]

def Tr.prev (T : Tr) : Nat → Int
  | 0 => 0
  | i + 1 => (T.tx i).b

/-- SANE (P9.1) -/
structure Good (T : Tr) : Prop where
  c0 : 0 ≤ T.c
  n : T.l.length ≤ 64
  par : ∀ i, i < T.l.length → -1 ≤ (T.tx i).p ∧ (T.tx i).p < i
  deep : ∀ i, i < T.l.length → (wayN T.par i).length ≤ 8
  bg : ∀ i, i < T.l.length → T.prev i < (T.tx i).b ∧ (T.tx i).b ≤ T.c
  state : ∀ i, i < T.l.length → ((T.tx i).s = 1 ∧ (T.tx i).e = 0) ∨ (((T.tx i).s = 2 ∨ (T.tx i).s = 3) ∧ (T.tx i).b < (T.tx i).e ∧ (T.tx i).e ≤ T.c)
  nest : ∀ i, i < T.l.length → ∀ j, j ∈ wayN T.par i → ((T.tx i).s = 1 → (T.tx j).s = 1) ∧ ((T.tx i).s = 2 → (T.tx j).s ≠ 3)
  apart : ∀ i j, i < j → j < T.l.length → (T.tx i).s ≠ 1 → (T.tx j).s ≠ 1 → (T.tx i).e = (T.tx j).e → (T.tx i).s = 3 ∧ (T.tx j).s = 3

theorem good_nil : Good ⟨[], 0⟩ where
  c0 := Int.le_refl _
  n := by simp
  par i h := by simp at h
  deep i h := by simp at h
  bg i h := by simp at h
  state i h := by simp at h
  nest i h := by simp at h
  apart i j _ h := by simp at h

theorem way_lt {T : Tr} {i j : Nat} (hi : i < T.l.length) (hj : j ∈ wayN T.par i) : j < T.l.length := by have := wayN_le hj; omega
theorem Good.b0 {T : Tr} (h : Good T) : ∀ i, i < T.l.length → 0 < (T.tx i).b
  | 0, hi => (h.bg 0 hi).1
  | i + 1, hi => by have h1 := h.b0 i (by omega); have h2 : (T.tx i).b < (T.tx (i + 1)).b := (h.bg (i + 1) hi).1; omega
theorem Good.s3 {T : Tr} (h : Good T) {i : Nat} (hi : i < T.l.length) : (T.tx i).s = 1 ∨ (T.tx i).s = 2 ∨ (T.tx i).s = 3 := by
  rcases h.state i hi with h | h
  · exact .inl h.1
  · exact .inr h.1

/-! ### Begin -/
def Tr.begun (T : Tr) (p : Int) : Tr := ⟨T.l ++ [⟨p, 1, T.c + 1, 0⟩], T.c + 1⟩
theorem tx_begun {T : Tr} {p : Int} {i : Nat} (h : i < T.l.length) : (T.begun p).tx i = T.tx i := by
  unfold Tr.begun Tr.tx
  rw [List.getD_eq_getElem?_getD, List.getD_eq_getElem?_getD, List.getElem?_append_left h]
theorem tx_begun_new {T : Tr} {p : Int} : (T.begun p).tx T.l.length = ⟨p, 1, T.c + 1, 0⟩ := by
  unfold Tr.begun Tr.tx
  rw [List.getD_eq_getElem?_getD, List.getElem?_append_right (Nat.le_refl _)]; simp
theorem way_begun {T : Tr} {p : Int} {i : Nat} (h : i < T.l.length) : wayN (T.begun p).par i = wayN T.par i :=
  wayN_congr i fun j hj => by unfold Tr.par; rw [tx_begun (by omega)]
theorem len_begun (T : Tr) (p : Int) : (T.begun p).l.length = T.l.length + 1 := by simp [Tr.begun]

/-- one may be begun in p -/
structure MayBegin (T : Tr) (p : Int) : Prop where
  live : p = -1 ∨ ∃ q : Nat, p = q ∧ q < T.l.length ∧ (T.tx q).s = 1
  n : T.l.length < 64
  deep : (T.way p).length < 8

theorem Good.begun {T : Tr} (h : Good T) {p : Int} (m : MayBegin T p) : Good (T.begun p) := by
  have hp : (T.begun p).par T.l.length = p := by unfold Tr.par; rw [tx_begun_new]
  have hw : ∀ j, j ∈ wayN (T.begun p).par T.l.length → j = T.l.length ∨ (j < T.l.length ∧ (T.tx j).s = 1) := by
    intro j hj
    rcases m.live with hl | ⟨q, hq, hql, hqs⟩
    · rw [wayN_top (by rw [hp]; omega)] at hj
      simp at hj; exact .inl hj
    · rw [wayN_up (j := q) (by rw [hp]; exact hq) hql, way_begun hql] at hj
      rcases List.mem_cons.1 hj with hj | hj
      · exact .inl hj
      · exact .inr ⟨way_lt hql hj, (h.nest q hql j hj).1 hqs⟩
  refine ⟨by have := h.c0; show 0 ≤ T.c + 1; omega, by rw [len_begun]; have := m.n; omega, fun i hi => ?_, fun i hi => ?_, fun i hi => ?_, fun i hi => ?_, fun i hi j hj => ?_, fun i j hij hj h1 h2 h3 => ?_⟩
  · rw [len_begun] at hi
    by_cases e : i < T.l.length
    · rw [tx_begun e]; exact h.par i e
    · obtain rfl : i = T.l.length := by omega
      rw [tx_begun_new]
      rcases m.live with hl | ⟨q, hq, hql, hqs⟩
      · show -1 ≤ p ∧ p < _; omega
      · show -1 ≤ p ∧ p < _; omega
  · rw [len_begun] at hi
    by_cases e : i < T.l.length
    · rw [way_begun e]; exact h.deep i e
    · obtain rfl : i = T.l.length := by omega
      have hd := m.deep
      rcases m.live with hl | ⟨q, hq, hql, hqs⟩
      · rw [wayN_top (by rw [hp]; omega)]; simp
      · rw [wayN_up (j := q) (by rw [hp]; exact hq) hql, way_begun hql]
        rw [hq, Tr.way_nat hql] at hd
        simp; omega
  · rw [len_begun] at hi
    have hc : (T.begun p).c = T.c + 1 := rfl
    rw [hc]
    by_cases e : i < T.l.length
    · have hb := h.bg i e
      have hpv : (T.begun p).prev i = T.prev i := by
        cases i with
        | zero => rfl
        | succ i => show ((T.begun p).tx i).b = (T.tx i).b; rw [tx_begun (by omega)]
      rw [tx_begun e, hpv]; omega
    · obtain rfl : i = T.l.length := by omega
      rw [tx_begun_new]
      refine ⟨?_, Int.le_refl _⟩
      show (T.begun p).prev T.l.length < T.c + 1
      cases hn : T.l.length with
      | zero => show (0 : Int) < T.c + 1; have := h.c0; omega
      | succ k => show ((T.begun p).tx k).b < T.c + 1; rw [tx_begun (by omega)]; have := (h.bg k (by omega)).2; omega
  · rw [len_begun] at hi
    have hc : (T.begun p).c = T.c + 1 := rfl
    rw [hc]
    by_cases e : i < T.l.length
    · rw [tx_begun e]
      rcases h.state i e with h1 | h1
      · exact .inl h1
      · exact .inr ⟨h1.1, h1.2.1, by omega⟩
    · obtain rfl : i = T.l.length := by omega
      rw [tx_begun_new]; exact .inl ⟨rfl, rfl⟩
  · rw [len_begun] at hi
    by_cases e : i < T.l.length
    · rw [way_begun e] at hj
      rw [tx_begun e, tx_begun (way_lt e hj)]
      exact h.nest i e j hj
    · obtain rfl : i = T.l.length := by omega
      rw [tx_begun_new]
      refine ⟨fun _ => ?_, fun h2 => by simp at h2⟩
      rcases hw j hj with rfl | ⟨hjl, hjs⟩
      · rw [tx_begun_new]
      · rw [tx_begun hjl]; exact hjs
  · rw [len_begun] at hj
    by_cases e : j < T.l.length
    · rw [tx_begun (by omega)] at h1 h3 ⊢
      rw [tx_begun e] at h2 h3 ⊢
      exact h.apart i j hij e h1 h2 h3
    · obtain rfl : j = T.l.length := by omega
      rw [tx_begun_new] at h2
      exact absurd rfl h2

/-! ### Commit, Abort: some states turn -/
/-- the tree with those of which X holds in state s, ended now -/
def Tr.turned (T : Tr) (X : Nat → Prop) [DecidablePred X] (s : Int) : Tr := ⟨T.l.mapIdx fun i x => if X i then { x with s := s, e := T.c + 1 } else x, T.c + 1⟩
section
variable {T : Tr} {X : Nat → Prop} [DecidablePred X] {s : Int}
theorem len_turned : (T.turned X s).l.length = T.l.length := by simp [Tr.turned]
theorem tx_turned {i : Nat} (hi : i < T.l.length) : (T.turned X s).tx i = if X i then { T.tx i with s := s, e := T.c + 1 } else T.tx i := by
  unfold Tr.turned Tr.tx
  rw [List.getD_eq_getElem?_getD, List.getElem?_mapIdx, List.getD_eq_getElem?_getD, List.getElem?_eq_getElem hi]
  rfl
theorem par_turned : (T.turned X s).par = T.par := by
  funext i
  unfold Tr.par
  by_cases hi : i < T.l.length
  · rw [tx_turned hi]; split <;> rfl
  · unfold Tr.tx
    rw [List.getD_eq_getElem?_getD, List.getD_eq_getElem?_getD, List.getElem?_eq_none (by rw [len_turned]; omega), List.getElem?_eq_none (by omega)]
theorem b_turned {i : Nat} (hi : i < T.l.length) : ((T.turned X s).tx i).b = (T.tx i).b := by rw [tx_turned hi]; split <;> rfl
theorem tx_in {i : Nat} (hi : i < T.l.length) (hx : X i) : ((T.turned X s).tx i).s = s ∧ ((T.turned X s).tx i).e = T.c + 1 := by rw [tx_turned hi, if_pos hx]; exact ⟨rfl, rfl⟩
theorem tx_out {i : Nat} (hi : i < T.l.length) (hx : ¬ X i) : (T.turned X s).tx i = T.tx i := by rw [tx_turned hi, if_neg hx]

theorem Good.turned (h : Good T) (hs : s = 2 ∨ s = 3)
    (hone : s = 2 → ∀ i j, X i → X j → i = j)
    (hin : ∀ i j, i < T.l.length → j ∈ wayN T.par i → X j → (T.tx i).s = 1 → X i)
    (hin3 : s = 3 → ∀ i j, i < T.l.length → j ∈ wayN T.par i → X j → (T.tx i).s = 2 → X i)
    (hx2 : s = 2 → ∀ i j, i < T.l.length → X i → j ∈ wayN T.par i → (T.tx j).s ≠ 3) : Good (T.turned X s) := by
  have hc : (T.turned X s).c = T.c + 1 := rfl
  have hc0 := h.c0
  refine ⟨by rw [hc]; omega, by rw [len_turned]; exact h.n, fun i hi => ?_, fun i hi => ?_, fun i hi => ?_, fun i hi => ?_, fun i hi j hj => ?_, fun i j hij hj h1 h2 h3 => ?_⟩
  · rw [len_turned] at hi
    have := h.par i hi
    rw [show ((T.turned X s).tx i).p = (T.tx i).p from congrFun par_turned i]; exact this
  · rw [len_turned] at hi
    rw [par_turned]; exact h.deep i hi
  · rw [len_turned] at hi
    rw [b_turned hi, hc]
    have hb := h.bg i hi
    refine ⟨?_, by omega⟩
    cases i with
    | zero => exact hb.1
    | succ i => show ((T.turned X s).tx i).b < _; rw [b_turned (by omega)]; exact hb.1
  · rw [len_turned] at hi
    rw [b_turned hi, hc]
    have hb := h.bg i hi
    by_cases hx : X i
    · rw [(tx_in hi hx).1, (tx_in hi hx).2]
      exact .inr ⟨hs, by omega, Int.le_refl _⟩
    · rw [tx_out hi hx]
      rcases h.state i hi with h1 | h1
      · exact .inl h1
      · exact .inr ⟨h1.1, h1.2.1, by omega⟩
  · rw [len_turned] at hi
    rw [par_turned] at hj
    have hjl := way_lt hi hj
    by_cases hx : X i
    · rw [(tx_in hi hx).1]
      refine ⟨fun e => by omega, fun e => ?_⟩
      by_cases hy : X j
      · rw [(tx_in hjl hy).1]; omega
      · rw [tx_out hjl hy]; exact hx2 e i j hi hx hj
    · rw [tx_out hi hx]
      by_cases hy : X j
      · rw [(tx_in hjl hy).1]
        refine ⟨fun e => absurd (hin i j hi hj hy e) hx, fun e e3 => absurd (hin3 e3 i j hi hj hy e) hx⟩
      · rw [tx_out hjl hy]; exact h.nest i hi j hj
  · rw [len_turned] at hj
    have hil : i < T.l.length := by omega
    have hle : ∀ k, k < T.l.length → (T.tx k).e ≤ T.c := fun k hk => by
      rcases h.state k hk with h1 | h1
      · omega
      · exact h1.2.2
    by_cases hx : X i
    · by_cases hy : X j
      · rw [(tx_in hil hx).1, (tx_in hj hy).1]
        rcases hs with e | e
        · have := hone e i j hx hy; omega
        · exact ⟨e, e⟩
      · rw [(tx_in hil hx).2, tx_out hj hy] at h3
        have := hle j hj; omega
    · by_cases hy : X j
      · rw [(tx_in hj hy).2, tx_out hil hx] at h3
        have := hle i hil; omega
      · rw [tx_out hil hx] at h1 h3 ⊢
        rw [tx_out hj hy] at h2 h3 ⊢
        exact h.apart i j hij hj h1 h2 h3
end

/-- all that stand in one -/
def Tr.inn (T : Tr) (of i : Nat) : Prop := of ∈ wayN T.par i
instance (T : Tr) (of : Nat) : DecidablePred (T.inn of) := fun _ => inferInstanceAs (Decidable (_ ∈ _))

def Tr.done (T : Tr) (id : Nat) : Tr := T.turned (fun i => i = id) 2
def Tr.undone (T : Tr) (id : Nat) : Tr := T.turned (fun i => T.inn id i ∧ (T.tx i).s ≠ 3) 3

/-- one may be done -/
structure MayDo (T : Tr) (id : Nat) : Prop where
  lt : id < T.l.length
  live : (T.tx id).s = 1
  alone : ∀ i, i < T.l.length → T.inn id i → i ≠ id → (T.tx i).s ≠ 1

theorem Good.done {T : Tr} (h : Good T) {id : Nat} (m : MayDo T id) : Good (T.done id) :=
  h.turned (.inl rfl) (fun _ i j hi hj => hi.trans hj.symm)
    (fun i j hi hj hx hs => Classical.byContradiction fun hn => m.alone i hi (by subst hx; exact hj) hn hs)
    (fun e => absurd e (by decide))
    (fun _ i j hi hx hj => by subst hx; rw [(h.nest i hi j hj).1 m.live]; decide)
theorem Good.undone {T : Tr} (h : Good T) {id : Nat} : Good (T.undone id) :=
  h.turned (.inr rfl) (fun e => absurd e (by decide))
    (fun i j hi hj hx hs => ⟨wayN_trans hj hx.1, by omega⟩)
    (fun _ i j hi hj hx hs => ⟨wayN_trans hj hx.1, by omega⟩)
    (fun e => absurd e (by decide))

end Go.Proofs.Ytohnfjneghbceaa
