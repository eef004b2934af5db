/-
  Transactions in one another: the plain model. A tree is a list of transactions (parent, state, began, ended) and a clock; the way up from one; what Begin, Commit and Abort make of a sound tree is sound. No program in it.
-/
import Derived.RangeFuncNested
import Derived.RangeFuncBound
import Derived.RangeFuncCalls
import Derived.RangeFuncLeaves
import Derived.Shelf.Abstract
import Derived.Shelf.RegionOpen
import Derived.WalkKit
import Derived.OwnWalkIn
import Derived.TacticsInMore
import Derived.LoopNIn
import Derived.LoopIn
import Derived.Maps.OwnIn
import Derived.BigRegion
import Derived.Lib.Hide
import Derived.BigQuiet
import Derived.LoopTactic
import Derived.Deep.QuietTactic
import Derived.Deep.RegionHeld
import Derived.Test.YtpphhhalmccnbaaBa
import Derived.RangeFuncWrites
import Derived.Maps.OwnSet
namespace Go.Proofs.Ytpphhhalmccnbaa
set_option maxRecDepth 100000

structure Tx where
  p : Int
  s : Int
  b : Int
  e : Int

structure Tr where
  l : List Tx
  c : Int

/-- the transaction with an ID (of what is none: one of no matter) -/
def Tr.tx (T : Tr) (i : Nat) : Tx := T.l.getD i ⟨-1, 0, 0, 0⟩

/-- the way up, where each parent lies below -/
def wayN (f : Nat → Int) (i : Nat) : List Nat :=
  i :: (if 0 ≤ f i ∧ f i < (i : Int) then wayN f (f i).toNat else [])
termination_by i
decreasing_by omega

theorem wayN_eq (f : Nat → Int) (i : Nat) : wayN f i = i :: (if 0 ≤ f i ∧ f i < (i : Int) then wayN f (f i).toNat else []) := by rw [wayN]
theorem wayN_top {f : Nat → Int} {i : Nat} (h : f i < 0) : wayN f i = [i] := by
  rw [wayN, if_neg (by omega)]
theorem wayN_up {f : Nat → Int} {i j : Nat} (h : f i = j) (hj : j < i) : wayN f i = i :: wayN f j := by
  rw [wayN, if_pos (by omega), h]; rfl
theorem wayN_head (f : Nat → Int) (i : Nat) : ∃ r, wayN f i = i :: r := by rw [wayN]; exact ⟨_, rfl⟩
theorem wayN_self (f : Nat → Int) (i : Nat) : i ∈ wayN f i := by rw [wayN]; exact List.mem_cons_self
theorem wayN_ne (f : Nat → Int) (i : Nat) : wayN f i ≠ [] := by rw [wayN]; simp

theorem wayN_congr {f g : Nat → Int} (i : Nat) (h : ∀ j, j ≤ i → f j = g j) : wayN f i = wayN g i := by
  induction i using Nat.strongRecOn with
  | ind i ih =>
    rw [wayN_eq f i, wayN_eq g i, h i (Nat.le_refl _)]
    by_cases hc : 0 ≤ g i ∧ g i < (i : Int)
    · rw [if_pos hc, if_pos hc, ih _ (by omega) (fun j hj => h j (by omega))]
    · rw [if_neg hc, if_neg hc]

theorem wayN_le {f : Nat → Int} {i j : Nat} (h : j ∈ wayN f i) : j ≤ i := by
  induction i using Nat.strongRecOn with
  | ind i ih =>
    rw [wayN] at h
    rcases List.mem_cons.1 h with h | h
    · omega
    · split at h
      · have := ih _ (by omega) h; omega
      · simp at h

theorem wayN_nodup (f : Nat → Int) (i : Nat) : (wayN f i).Nodup := by
  induction i using Nat.strongRecOn with
  | ind i ih =>
    rw [wayN]
    refine List.nodup_cons.2 ⟨fun h => ?_, ?_⟩
    · split at h
      · have := wayN_le h; omega
      · simp at h
    · split
      · exact ih _ (by omega)
      · exact List.nodup_nil

theorem wayN_trans {f : Nat → Int} {i j k : Nat} (h : j ∈ wayN f i) (hk : k ∈ wayN f j) : k ∈ wayN f i := by
  induction i using Nat.strongRecOn with
  | ind i ih =>
    by_cases e : j = i
    · rw [← e]; exact hk
    · rw [wayN] at h ⊢
      rcases List.mem_cons.1 h with h | h
      · exact absurd h e
      · refine List.mem_cons_of_mem _ ?_
        split at h
        · next hc => rw [if_pos hc]; exact ih _ (by omega) h
        · simp at h

/-- the way of one on the way is the rest of it -/
theorem wayN_split {f : Nat → Int} (i : Nat) (pre : List Nat) (x : Nat) (h : (pre ++ [x]) <+: wayN f i) : wayN f i = pre ++ wayN f x := by
  induction pre generalizing i with
  | nil =>
    obtain ⟨r, hr⟩ := h
    rw [wayN] at hr
    simp at hr
    obtain ⟨rfl, _⟩ := hr
    rfl
  | cons y pre ih =>
    obtain ⟨r, hr⟩ := h
    rw [wayN] at hr ⊢
    simp at hr
    obtain ⟨rfl, hr⟩ := hr
    split at hr
    · next hc =>
      rw [if_pos hc, List.cons_append]
      congr 1
      exact ih _ ⟨r, by rw [← hr]; simp⟩
    · simp at hr

/-- two on one way: one is on the other's -/
theorem wayN_line {f : Nat → Int} {i a b : Nat} (ha : a ∈ wayN f i) (hb : b ∈ wayN f i) : a ∈ wayN f b ∨ b ∈ wayN f a := by
  induction i using Nat.strongRecOn with
  | ind i ih =>
    by_cases e : a = i
    · subst e; exact .inr hb
    · by_cases e2 : b = i
      · subst e2; exact .inl ha
      · rw [wayN] at ha hb
        rcases List.mem_cons.1 ha with ha | ha
        · exact absurd ha e
        · rcases List.mem_cons.1 hb with hb | hb
          · exact absurd hb e2
          · split at ha
            · next hc => rw [if_pos hc] at hb; exact ih _ (by omega) ha hb
            · simp at ha

/-- on the way up to the first of which it is told, all stand in 'of' or none -/
theorem wayN_told {f : Nat → Int} (i of : Nat) (pre : List Nat) (x : Nat) (h : (pre ++ [x]) <+: wayN f i) (hof : of ∉ pre) : ∀ y ∈ pre ++ [x], (of ∈ wayN f y ↔ of ∈ wayN f x) := by
  intro y hy
  rcases List.mem_append.1 hy with hy | hy
  · obtain ⟨a, b, e⟩ := List.append_of_mem hy
    have hs := wayN_split i a y (by rw [e] at h; exact List.IsPrefix.trans ⟨b ++ [x], by simp⟩ h)
    have h2 : (y :: b) ++ [x] <+: wayN f y := by
      rw [hs, e] at h
      obtain ⟨r, hr⟩ := h
      refine ⟨r, ?_⟩
      have hr' : a ++ ((y :: b) ++ [x] ++ r) = a ++ wayN f y := by rw [← hr]; simp
      exact List.append_cancel_left hr'
    have hw := wayN_split y (y :: b) x h2
    rw [hw]
    constructor
    · intro hm
      rcases List.mem_append.1 hm with hm | hm
      · exact absurd (by rw [e]; exact List.mem_append_right _ hm) hof
      · exact hm
    · exact fun hm => List.mem_append_right _ hm
  · simp at hy; rw [hy]

def Tr.par (T : Tr) (i : Nat) : Int := (T.tx i).p
/-- all that one stands in, itself first; of what is no ID none -/
def Tr.way (T : Tr) (i : Int) : List Nat := if 0 ≤ i ∧ i < (T.l.length : Int) then wayN T.par i.toNat else []

theorem Tr.way_nat {T : Tr} {i : Nat} (h : i < T.l.length) : T.way (i : Int) = wayN T.par i := by
  unfold Tr.way
  rw [if_pos (by omega)]; simp
theorem Tr.way_none {T : Tr} {i : Int} (h : i < 0 ∨ (T.l.length : Int) ≤ i) : T.way i = [] := by
  unfold Tr.way
  rw [if_neg (by omega)]

def Tr.prev (T : Tr) : Nat → Int
  | 0 => 0
  | i + 1 => (T.tx i).b

/-- SANE (P9.1) -/
structure Good (T : Tr) : Prop where
  c0 : 0 ≤ T.c
  n : T.l.length ≤ 64
  par : ∀ i, i < T.l.length → -1 ≤ (T.tx i).p ∧ (T.tx i).p < i
  deep : ∀ i, i < T.l.length → (wayN T.par i).length ≤ 8
  bg : ∀ i, i < T.l.length → T.prev i < (T.tx i).b ∧ (T.tx i).b ≤ T.c
  state : ∀ i, i < T.l.length → ((T.tx i).s = 1 ∧ (T.tx i).e = 0) ∨ (((T.tx i).s = 2 ∨ (T.tx i).s = 3) ∧ (T.tx i).b < (T.tx i).e ∧ (T.tx i).e ≤ T.c)
  nest : ∀ i, i < T.l.length → ∀ j, j ∈ wayN T.par i → ((T.tx i).s = 1 → (T.tx j).s = 1) ∧ ((T.tx i).s = 2 → (T.tx j).s ≠ 3)
  apart : ∀ i j, i < j → j < T.l.length → (T.tx i).s ≠ 1 → (T.tx j).s ≠ 1 → (T.tx i).e = (T.tx j).e → (T.tx i).s = 3 ∧ (T.tx j).s = 3

theorem good_nil : Good ⟨[], 0⟩ where
  c0 := Int.le_refl _
  n := by simp
  par i h := by simp at h
  deep i h := by simp at h
  bg i h := by simp at h
  state i h := by simp at h
  nest i h := by simp at h
  apart i j _ h := by simp at h

theorem way_lt {T : Tr} {i j : Nat} (hi : i < T.l.length) (hj : j ∈ wayN T.par i) : j < T.l.length := by have := wayN_le hj; omega
theorem Good.b0 {T : Tr} (h : Good T) : ∀ i, i < T.l.length → 0 < (T.tx i).b
  | 0, hi => (h.bg 0 hi).1
  | i + 1, hi => by have h1 := h.b0 i (by omega); have h2 : (T.tx i).b < (T.tx (i + 1)).b := (h.bg (i + 1) hi).1; omega
theorem Good.s3 {T : Tr} (h : Good T) {i : Nat} (hi : i < T.l.length) : (T.tx i).s = 1 ∨ (T.tx i).s = 2 ∨ (T.tx i).s = 3 := by
  rcases h.state i hi with h | h
  · exact .inl h.1
  · exact .inr h.1

/-! ### Begin -/
def Tr.begun (T : Tr) (p : Int) : Tr := ⟨T.l ++ [⟨p, 1, T.c + 1, 0⟩], T.c + 1⟩
theorem tx_begun {T : Tr} {p : Int} {i : Nat} (h : i < T.l.length) : (T.begun p).tx i = T.tx i := by
  unfold Tr.begun Tr.tx
  rw [List.getD_eq_getElem?_getD, List.getD_eq_getElem?_getD, List.getElem?_append_left h]
theorem tx_begun_new {T : Tr} {p : Int} : (T.begun p).tx T.l.length = ⟨p, 1, T.c + 1, 0⟩ := by
  unfold Tr.begun Tr.tx
  rw [List.getD_eq_getElem?_getD, List.getElem?_append_right (Nat.le_refl _)]; simp
theorem way_begun {T : Tr} {p : Int} {i : Nat} (h : i < T.l.length) : wayN (T.begun p).par i = wayN T.par i :=
  wayN_congr i fun j hj => by unfold Tr.par; rw [tx_begun (by omega)]
theorem len_begun (T : Tr) (p : Int) : (T.begun p).l.length = T.l.length + 1 := by simp [Tr.begun]

/-- one may be begun in p -/
structure MayBegin (T : Tr) (p : Int) : Prop where
  live : p = -1 ∨ ∃ q : Nat, p = q ∧ q < T.l.length ∧ (T.tx q).s = 1
  n : T.l.length < 64
  deep : (T.way p).length < 8

theorem Good.begun {T : Tr} (h : Good T) {p : Int} (m : MayBegin T p) : Good (T.begun p) := by
  have hp : (T.begun p).par T.l.length = p := by unfold Tr.par; rw [tx_begun_new]
  have hw : ∀ j, j ∈ wayN (T.begun p).par T.l.length → j = T.l.length ∨ (j < T.l.length ∧ (T.tx j).s = 1) := by
    intro j hj
    rcases m.live with hl | ⟨q, hq, hql, hqs⟩
    · rw [wayN_top (by rw [hp]; omega)] at hj
      simp at hj; exact .inl hj
    · rw [wayN_up (j := q) (by rw [hp]; exact hq) hql, way_begun hql] at hj
      rcases List.mem_cons.1 hj with hj | hj
      · exact .inl hj
      · exact .inr ⟨way_lt hql hj, (h.nest q hql j hj).1 hqs⟩
  refine ⟨by have := h.c0; show 0 ≤ T.c + 1; omega, by rw [len_begun]; have := m.n; omega, fun i hi => ?_, fun i hi => ?_, fun i hi => ?_, fun i hi => ?_, fun i hi j hj => ?_, fun i j hij hj h1 h2 h3 => ?_⟩
  · rw [len_begun] at hi
    by_cases e : i < T.l.length
    · rw [tx_begun e]; exact h.par i e
    · obtain rfl : i = T.l.length := by omega
      rw [tx_begun_new]
      rcases m.live with hl | ⟨q, hq, hql, hqs⟩
      · show -1 ≤ p ∧ p < _; omega
      · show -1 ≤ p ∧ p < _; omega
  · rw [len_begun] at hi
    by_cases e : i < T.l.length
    · rw [way_begun e]; exact h.deep i e
    · obtain rfl : i = T.l.length := by omega
      have hd := m.deep
      rcases m.live with hl | ⟨q, hq, hql, hqs⟩
      · rw [wayN_top (by rw [hp]; omega)]; simp
      · rw [wayN_up (j := q) (by rw [hp]; exact hq) hql, way_begun hql]
        rw [hq, Tr.way_nat hql] at hd
        simp; omega
  · rw [len_begun] at hi
    have hc : (T.begun p).c = T.c + 1 := rfl
    rw [hc]
    by_cases e : i < T.l.length
    · have hb := h.bg i e
      have hpv : (T.begun p).prev i = T.prev i := by
        cases i with
        | zero => rfl
        | succ i => show ((T.begun p).tx i).b = (T.tx i).b; rw [tx_begun (by omega)]
      rw [tx_begun e, hpv]; omega
    · obtain rfl : i = T.l.length := by omega
      rw [tx_begun_new]
      refine ⟨?_, Int.le_refl _⟩
      show (T.begun p).prev T.l.length < T.c + 1
      cases hn : T.l.length with
      | zero => show (0 : Int) < T.c + 1; have := h.c0; omega
      | succ k => show ((T.begun p).tx k).b < T.c + 1; rw [tx_begun (by omega)]; have := (h.bg k (by omega)).2; omega
  · rw [len_begun] at hi
    have hc : (T.begun p).c = T.c + 1 := rfl
    rw [hc]
    by_cases e : i < T.l.length
    · rw [tx_begun e]
      rcases h.state i e with h1 | h1
      · exact .inl h1
      · exact .inr ⟨h1.1, h1.2.1, by omega⟩
    · obtain rfl : i = T.l.length := by omega
      rw [tx_begun_new]; exact .inl ⟨rfl, rfl⟩
  · rw [len_begun] at hi
    by_cases e : i < T.l.length
    · rw [way_begun e] at hj
      rw [tx_begun e, tx_begun (way_lt e hj)]
      exact h.nest i e j hj
    · obtain rfl : i = T.l.length := by omega
      rw [tx_begun_new]
      refine ⟨fun _ => ?_, fun h2 => by simp at h2⟩
      rcases hw j hj with rfl | ⟨hjl, hjs⟩
      · rw [tx_begun_new]
      · rw [tx_begun hjl]; exact hjs
  · rw [len_begun] at hj
    by_cases e : j < T.l.length
    · rw [tx_begun (by omega)] at h1 h3 ⊢
      rw [tx_begun e] at h2 h3 ⊢
      exact h.apart i j hij e h1 h2 h3
    · obtain rfl : j = T.l.length := by omega
      rw [tx_begun_new] at h2
      exact absurd rfl h2

/-! ### Commit, Abort: some states turn -/
/-- the tree with those of which X holds in state s, ended now -/
def Tr.turned (T : Tr) (X : Nat → Prop) [DecidablePred X] (s : Int) : Tr := ⟨T.l.mapIdx fun i x => if X i then { x with s := s, e := T.c + 1 } else x, T.c + 1⟩
section
variable {T : Tr} {X : Nat → Prop} [DecidablePred X] {s : Int}
theorem len_turned : (T.turned X s).l.length = T.l.length := by simp [Tr.turned]
theorem tx_turned {i : Nat} (hi : i < T.l.length) : (T.turned X s).tx i = if X i then { T.tx i with s := s, e := T.c + 1 } else T.tx i := by
  unfold Tr.turned Tr.tx
  rw [List.getD_eq_getElem?_getD, List.getElem?_mapIdx, List.getD_eq_getElem?_getD, List.getElem?_eq_getElem hi]
  rfl
theorem par_turned : (T.turned X s).par = T.par := by
  funext i
  unfold Tr.par
  by_cases hi : i < T.l.length
  · rw [tx_turned hi]; split <;> rfl
  · unfold Tr.tx
    rw [List.getD_eq_getElem?_getD, List.getD_eq_getElem?_getD, List.getElem?_eq_none (by rw [len_turned]; omega), List.getElem?_eq_none (by omega)]
theorem b_turned {i : Nat} (hi : i < T.l.length) : ((T.turned X s).tx i).b = (T.tx i).b := by rw [tx_turned hi]; split <;> rfl
theorem tx_in {i : Nat} (hi : i < T.l.length) (hx : X i) : ((T.turned X s).tx i).s = s ∧ ((T.turned X s).tx i).e = T.c + 1 := by rw [tx_turned hi, if_pos hx]; exact ⟨rfl, rfl⟩
theorem tx_out {i : Nat} (hi : i < T.l.length) (hx : ¬ X i) : (T.turned X s).tx i = T.tx i := by rw [tx_turned hi, if_neg hx]

theorem Good.turned (h : Good T) (hs : s = 2 ∨ s = 3)
    (hone : s = 2 → ∀ i j, X i → X j → i = j)
    (hin : ∀ i j, i < T.l.length → j ∈ wayN T.par i → X j → (T.tx i).s = 1 → X i)
    (hin3 : s = 3 → ∀ i j, i < T.l.length → j ∈ wayN T.par i → X j → (T.tx i).s = 2 → X i)
    (hx2 : s = 2 → ∀ i j, i < T.l.length → X i → j ∈ wayN T.par i → (T.tx j).s ≠ 3) : Good (T.turned X s) := by
  have hc : (T.turned X s).c = T.c + 1 := rfl
  have hc0 := h.c0
  refine ⟨by rw [hc]; omega, by rw [len_turned]; exact h.n, fun i hi => ?_, fun i hi => ?_, fun i hi => ?_, fun i hi => ?_, fun i hi j hj => ?_, fun i j hij hj h1 h2 h3 => ?_⟩
  · rw [len_turned] at hi
    have := h.par i hi
    rw [show ((T.turned X s).tx i).p = (T.tx i).p from congrFun par_turned i]; exact this
  · rw [len_turned] at hi
    rw [par_turned]; exact h.deep i hi
  · rw [len_turned] at hi
    rw [b_turned hi, hc]
    have hb := h.bg i hi
    refine ⟨?_, by omega⟩
    cases i with
    | zero => exact hb.1
    | succ i => show ((T.turned X s).tx i).b < _; rw [b_turned (by omega)]; exact hb.1
  · rw [len_turned] at hi
    rw [b_turned hi, hc]
    have hb := h.bg i hi
    by_cases hx : X i
    · rw [(tx_in hi hx).1, (tx_in hi hx).2]
      exact .inr ⟨hs, by omega, Int.le_refl _⟩
    · rw [tx_out hi hx]
      rcases h.state i hi with h1 | h1
      · exact .inl h1
      · exact .inr ⟨h1.1, h1.2.1, by omega⟩
  · rw [len_turned] at hi
    rw [par_turned] at hj
    have hjl := way_lt hi hj
    by_cases hx : X i
    · rw [(tx_in hi hx).1]
      refine ⟨fun e => by omega, fun e => ?_⟩
      by_cases hy : X j
      · rw [(tx_in hjl hy).1]; omega
      · rw [tx_out hjl hy]; exact hx2 e i j hi hx hj
    · rw [tx_out hi hx]
      by_cases hy : X j
      · rw [(tx_in hjl hy).1]
        refine ⟨fun e => absurd (hin i j hi hj hy e) hx, fun e e3 => absurd (hin3 e3 i j hi hj hy e) hx⟩
      · rw [tx_out hjl hy]; exact h.nest i hi j hj
  · rw [len_turned] at hj
    have hil : i < T.l.length := by omega
    have hle : ∀ k, k < T.l.length → (T.tx k).e ≤ T.c := fun k hk => by
      rcases h.state k hk with h1 | h1
      · omega
      · exact h1.2.2
    by_cases hx : X i
    · by_cases hy : X j
      · rw [(tx_in hil hx).1, (tx_in hj hy).1]
        rcases hs with e | e
        · have := hone e i j hx hy; omega
        · exact ⟨e, e⟩
      · rw [(tx_in hil hx).2, tx_out hj hy] at h3
        have := hle j hj; omega
    · by_cases hy : X j
      · rw [(tx_in hj hy).2, tx_out hil hx] at h3
        have := hle i hil; omega
      · rw [tx_out hil hx] at h1 h3 ⊢
        rw [tx_out hj hy] at h2 h3 ⊢
        exact h.apart i j hij hj h1 h2 h3
end

/-- all that stand in one -/
def Tr.inn (T : Tr) (of i : Nat) : Prop := of ∈ wayN T.par i
instance (T : Tr) (of : Nat) : DecidablePred (T.inn of) := fun _ => inferInstanceAs (Decidable (_ ∈ _))

def Tr.done (T : Tr) (id : Nat) : Tr := T.turned (fun i => i = id) 2
def Tr.undone (T : Tr) (id : Nat) : Tr := T.turned (fun i => T.inn id i ∧ (T.tx i).s ≠ 3) 3

/-- one may be done -/
structure MayDo (T : Tr) (id : Nat) : Prop where
  lt : id < T.l.length
  live : (T.tx id).s = 1
  alone : ∀ i, i < T.l.length → T.inn id i → i ≠ id → (T.tx i).s ≠ 1

theorem Good.done {T : Tr} (h : Good T) {id : Nat} (m : MayDo T id) : Good (T.done id) :=
  h.turned (.inl rfl) (fun _ i j hi hj => hi.trans hj.symm)
    (fun i j hi hj hx hs => Classical.byContradiction fun hn => m.alone i hi (by subst hx; exact hj) hn hs)
    (fun e => absurd e (by decide))
    (fun _ i j hi hx hj => by subst hx; rw [(h.nest i hi j hj).1 m.live]; decide)
theorem Good.undone {T : Tr} (h : Good T) {id : Nat} : Good (T.undone id) :=
  h.turned (.inr rfl) (fun e => absurd e (by decide))
    (fun i j hi hj hx hs => ⟨wayN_trans hj hx.1, by omega⟩)
    (fun _ i j hi hj hx hs => ⟨wayN_trans hj hx.1, by omega⟩)
    (fun e => absurd e (by decide))

end Go.Proofs.Ytpphhhalmccnbaa

namespace Go.Proofs.Ytpphhhalmccnbaa
set_option maxRecDepth 100000
set_option linter.unusedVariables false
open Go.RowKit Go.Shelf


section
variable {S S' : Nat → Prop} {w w' w'' : World}
end

/-- transactions lie in a row -/
def TxAt (W : World) (A : Option Addr) (l : List Tx) : Prop :=
  (A = none ∧ l = []) ∨ ∃ b, A = some ⟨b, 0, none⟩ ∧ b < W.heap.size ∧ ∀ i x, l[i]? = some x → W.cell? ⟨b, i * 4, none⟩ = some (.int .i64 x.p) ∧ W.cell? ⟨b, i * 4 + 1, none⟩ = some (.int .i64 x.s) ∧ W.cell? ⟨b, i * 4 + 2, none⟩ = some (.int .i64 x.b) ∧ W.cell? ⟨b, i * 4 + 3, none⟩ = some (.int .i64 x.e)

theorem TxAt.turn {S : Nat → Prop} {W V : World} {A : Option Addr} {l : List Tx} (h : TxAt W A l) (ht : Turn S W V) (hS : ∀ b o, A = some ⟨b, o, none⟩ → l = [] ∨ ¬ S b) : TxAt V A l := by
  rcases h with h | ⟨b, e, hb, hc⟩
  · exact .inl h
  · rcases hS b 0 e with h | hS
    · exact .inr ⟨b, e, Nat.lt_of_lt_of_le hb ht.size, fun i x hx => by rw [h] at hx; simp at hx⟩
    refine .inr ⟨b, e, Nat.lt_of_lt_of_le hb ht.size, fun i x hx => ?_⟩
    obtain ⟨h0, h1, h2, h3⟩ := hc i x hx
    exact ⟨ht.cell h0 hS, ht.cell h1 hS, ht.cell h2 hS, ht.cell h3 hS⟩
theorem TxAt.below {W V : World} {A : Option Addr} {l : List Tx} (h : TxAt W A l) (hb : Below W.heap.size W V) : TxAt V A l :=
  h.turn (S := fun _ => False) (Turn.ofBelow hb) (fun _ _ _ => .inr fun h => h)
theorem TxAt.lt {W : World} {A : Option Addr} {l : List Tx} (h : TxAt W A l) : ∀ b o, A = some ⟨b, o, none⟩ → l = [] ∨ b < W.heap.size := by
  intro b o e
  rcases h with h | ⟨b', e', hb, _⟩
  · exact .inl h.2
  · rw [e] at e'; injection e' with e'; injection e' with e1; exact .inr (by omega)
theorem TxAt.get {W : World} {A : Option Addr} {T : Tr} (h : TxAt W A T.l) {i : Nat} (hi : i < T.l.length) : ∃ b, A = some ⟨b, 0, none⟩ ∧ b < W.heap.size ∧ W.cell? ⟨b, i * 4, none⟩ = some (.int .i64 (T.tx i).p) ∧ W.cell? ⟨b, i * 4 + 1, none⟩ = some (.int .i64 (T.tx i).s) ∧
    W.cell? ⟨b, i * 4 + 2, none⟩ = some (.int .i64 (T.tx i).b) ∧ W.cell? ⟨b, i * 4 + 3, none⟩ = some (.int .i64 (T.tx i).e) := by
  rcases h with h | ⟨b, e, hb, hc⟩
  · rw [h.2] at hi; simp at hi
  · refine ⟨b, e, hb, hc i (T.tx i) ?_⟩
    unfold Tr.tx
    rw [List.getD_eq_getElem?_getD, List.getElem?_eq_getElem hi]; rfl

set_option maxHeartbeats 1000000 in
/-- is it an ID? -/
theorem known_any (A : Option Addr) (n cap : Nat) (c i : Int) (w : World) :
    Calls Try.prog 61 #[.agg #[.slice A n cap, .int .i64 c], .int .i64 i] w fun e w' => e = .returned (.bool (decide (0 ≤ i ∧ i < (n : Int)))) ∧ w' = w.alloc (.cells #[.slice A n cap, .int .i64 c] 55) := by
  by_cases h0 : 0 ≤ i
  · by_cases h1 : i < (n : Int)
    · rw [decide_eq_true ⟨h0, h1⟩]
      go_enter Try.func61, Try.ntmps61
      go_wp2
      go_ret
      exact ⟨rfl, rfl⟩
    · rw [decide_eq_false (by omega)]
      go_enter Try.func61, Try.ntmps61
      go_wp2
      go_ret
      exact ⟨rfl, rfl⟩
  · rw [decide_eq_false (by omega)]
    go_enter Try.func61, Try.ntmps61
    go_wp2
    go_ret
    exact ⟨rfl, rfl⟩

set_option maxHeartbeats 1000000 in
/-- the function value that goes up: the tree and the ID in boxes -/
theorem up_any (A : Option Addr) (n cap : Nat) (c i : Int) (w : World) :
    Calls Try.prog 53 #[.agg #[.slice A n cap, .int .i64 c], .int .i64 i] w fun e w' => e = .returned (.func (.func 63) #[] #[.pointer (some ⟨w.heap.size + 1, 0, none⟩), .pointer (some ⟨w.heap.size, 0, none⟩)]) ∧
      w' = (w.alloc (.cells #[.slice A n cap, .int .i64 c] 55)).alloc (.cells #[.int .i64 i] 3) := by
  have hmf : ∀ (fn : Fn) (first cap : Array Value) (w : World), (Instr.makeFunc fn first cap).run Try.prog w = .ok (.func fn first cap) w := fun _ _ _ _ => rfl
  go_enter Try.func53, Try.ntmps53
  go_wp2
  go_ret
  exact ⟨rfl, rfl⟩

end Go.Proofs.Ytpphhhalmccnbaa

namespace Go.Proofs.Ytpphhhalmccnbaa
set_option maxRecDepth 100000
set_option linter.unusedVariables false
open Go.RowKit Go.Shelf
attribute [local go_sem] Oper.semAt_some

/-- what a round keeps: walks lie as they lay, and all that was there but blocks of S -/
structure Kp (S : Nat → Prop) (W W' : World) : Prop where
  walks : KeepsWalks W W'
  turn : Turn S W W'

theorem Kp.t {S : Nat → Prop} {a b c : World} (h : Kp S a b) (k : Kp S b c) : Kp S a c := ⟨h.walks.trans k.walks, h.turn.trans k.turn⟩
theorem Kp.b {S : Nat → Prop} {w : World} (hS : ∀ k, w.heap.size ≤ k → S k) (W : World) (l : Nat) (o o' : Obj) (hl : w.heap.size ≤ l) (h : W.heap[l]? = some o) (_ : o.isCells = false) (hw : o.isWalk = false) : Kp S W (W.putObj l o') :=
  ⟨KeepsWalks.putObj _ h hw, (Turn.refl S W).grown (grownBy_putObj' W l o') (fun j e => by cases e; exact .inl (hS l hl))⟩

theorem cell_al {W : World} {a : Addr} {v : Value} (o : Obj) (h : W.cell? a = some v) : (W.alloc o).cell? a = some v := cell_kept h (World.grownBy_alloc W o none) (fun r e => by cases e)
theorem frozen_new (w : World) (cs : Array Value) (ty : TypeId) (j : Nat) : (w.alloc (.cells cs ty)).frozen? ⟨w.heap.size, j, none⟩ = false := by
  have h := heap_alloc_new w (.cells cs ty)
  unfold World.frozen?
  simp only [h]
  simp
/-- an ID's number, of n -/
abbrev Id (n : Nat) := Fin n

theorem wfN {z : Int} (h0 : -1 ≤ z) (h1 : z ≤ 1000) : (Lit.int .i64 z).wf = true := by
  simp only [Lit.wf, Bool.and_eq_true, decide_eq_true_eq]
  exact ⟨show (-9223372036854775808 : Int) ≤ z by omega, show z ≤ (9223372036854775807 : Int) by omega⟩

theorem way_step {T : Tr} (hG : Good T) {i : Nat} (hi : i < T.l.length) : T.way (i : Int) = i :: T.way (T.tx i).p := by
  rw [Tr.way_nat hi]
  have hp := hG.par i hi
  by_cases h0 : 0 ≤ (T.tx i).p
  · obtain ⟨j, hj⟩ : ∃ j : Nat, (T.tx i).p = j := ⟨(T.tx i).p.toNat, by omega⟩
    rw [wayN_up (f := T.par) (j := j) hj (by omega), hj, Tr.way_nat (by omega)]
  · rw [wayN_top (f := T.par) (show (T.tx i).p < 0 by omega), Tr.way_none (by omega)]

theorem way_len {T : Tr} (hG : Good T) (i : Int) : (T.way i).length ≤ 8 := by
  unfold Tr.way
  split
  · next h => exact hG.deep _ (by omega)
  · simp

theorem way_prefix {pre : List Nat} {i : Nat} {l : List Nat} : (pre ++ [i]) <+: pre ++ i :: l := ⟨l, by simp⟩

set_option maxHeartbeats 4000000 in
theorem up1_in (K : World → World → Prop) (n : Nat) (hn : 2 ≤ n) (l Bi Bt : Nat) (S : Nat → Prop) (A : Option Addr) (T : Tr) (N cap : Nat) (c i : Int) (hN : T.l.length = N) (hG : Good T) (J Jx : List (Id N) → World → Prop)
    (hA : ∀ b o, A = some ⟨b, o, none⟩ → T.l = [] ∨ ¬ S b) (hSt : ¬ S Bt) (hK : ∀ a b, K a b → Turn S a b)
    (W : World) (hJ : AbidesFrom W.heap.size J)
    (hY : ∀ pre x W1, J pre W1 → pre.length < 9 → YieldAt Fence.wide (n - 1) Try.prog l #[.int .i64 ((x : Id N).val : Int)] W1 fun e W' =>
      (e = .returned (.bool true) ∧ J (pre ++ [x]) W' ∧ K W1 W') ∨ (e = .returned (.bool false) ∧ Jx (pre ++ [x]) W'))
    (ci : W.cell? ⟨Bi, 0, none⟩ = some (.int .i64 i)) (ct0 : W.cell? ⟨Bt, 0, none⟩ = some (.slice A N cap)) (ct1 : W.cell? ⟨Bt, 1, none⟩ = some (.int .i64 c)) (hT : TxAt W A T.l) (h0 : J [] W) :
    CallsIn Fence.wide n Try.prog 63 #[.func (.yield l) #[] #[], .pointer (some ⟨Bi, 0, none⟩), .pointer (some ⟨Bt, 0, none⟩)] W fun e W' => (∃ v, e = .returned v) ∧
      ((∃ xs : List (Id N), xs.map (·.val) = T.way i ∧ J xs W') ∨ (∃ pre : List (Id N), pre.map (·.val) <+: T.way i ∧ Jx pre W')) := by
  have HG := Lib.hid hG
  have HY := Lib.hid hY
  have HT := Lib.hid hT
  have HJ := Lib.hid hJ
  have HN := Lib.hid hN
  have H0 := Lib.hid h0
  have HK0 := Lib.hid hK
  have hn64 : N ≤ 64 := by have := hG.n; omega
  clear hG hY hT hJ hN h0 hK
  refine callsIn_of_wp Try.func63 rfl trivial ?_ rfl
  simp only [Try.ntmps63, List.size_toArray, List.length_cons, List.length_nil, Nat.reduceAdd, Nat.reduceSub, Array.replicate_succ, Array.replicate_zero, List.push_toArray, List.append_toArray, List.nil_append, List.cons_append]
  gi_wp2
  gi_loopw [4, 5, 6, 7] (fun pm pf pl pa wr => ∃ (pre : List (Id N)) (z m : Int) (f q : Nat), pm = .int .i64 m ∧ pf = .int .i64 (f : Int) ∧ pl = .int .i64 (q : Int) ∧ pa = .int .i64 z ∧ Hid (pre.map (·.val) ++ T.way z = T.way i) ∧ Hid (J pre wr) ∧
      Hid (m = -1 ∨ z < m) ∧ Hid (1 ≤ q ∧ q ≤ f ∧ f ≤ 2 ^ pre.length) ∧ wr.cell? ⟨Bt, 0, none⟩ = some (.slice A N cap) ∧ wr.cell? ⟨Bt, 1, none⟩ = some (.int .i64 c) ∧ Hid (TxAt wr A T.l))
    (fun _ _ _ p _ => (intOf p + 1).toNat)
  case atStart => exact ⟨[], i, -1, 1, 1, rfl, rfl, rfl, rfl, rfl, H0, .inl rfl, ⟨Nat.le_refl _, Nat.le_refl _, Nat.le_refl _⟩, ct0, ct1, HT⟩
  case round =>
    obtain ⟨pre, z, m, f, q, rfl, rfl, rfl, rfl, hpre, hJp, hm, hf, kt0, kt1, hT2⟩ := hrel
    clear ci ct0 ct1 HT H0
    have hk := known_any A N cap c z wr
    by_cases hin : 0 ≤ z ∧ z < (N : Int)
    · rw [decide_eq_true hin] at hk
      obtain ⟨x, rfl⟩ : ∃ x : Nat, z = x := ⟨z.toNat, by omega⟩
      have hx : x < N := by omega
      have hxl : x < T.l.length := by rw [HN.out]; exact hx
      obtain ⟨w1, hw1⟩ : ∃ w1, w1 = wr.alloc (.cells #[.slice A N cap, .int .i64 c] 55) := ⟨_, rfl⟩
      have g1 : wr.grownBy w1 none := by rw [hw1]; exact World.grownBy_alloc _ _ _
      have J1 := HJ.out pre _ _ none hJp.out g1 (fun r e => by cases e)
      have hway := way_step HG.out hxl
      have hlen : pre.length < 9 := by
        have h1 : (T.way i).length ≤ 8 := way_len HG.out i
        rw [← hpre.out] at h1
        simp at h1
        omega
      have hfb : f ≤ 512 := Nat.le_trans hf.out.2.2 (Nat.le_trans (Nat.pow_le_pow_right (by decide) (Nat.le_of_lt hlen)) (by decide))
      have hq := hf.out.1
      have hqf := hf.out.2.1
      have hmn : ((x : Int) != m) = true := by
        have : ¬ (x : Int) = m := by
          rcases hm.out with h | h
          · omega
          · omega
        simpa using this
      obtain ⟨fn, tmps, assign, body, hy, hR⟩ := HY.out pre ⟨x, hx⟩ w1 J1 hlen
      dsimp only at hy
      have HK := Lib.hid hk
      have HW1 := Lib.hid hw1
      have HF := Lib.hid hf.out.2.2
      have HM : Hid (∀ z' : Int, z' < (x : Int) → (m = -1 ∨ z' < m)) := fun z' h => by rcases hm.out with h2 | h2; exact .inl h2; exact .inr (by omega)
      clear hk hJp J1 g1 hw1 hm hf
      gi_wp2_with fail
      refine ⟨trivial, fun _ => by omega, (callsIn_wide.2 HK.out).mono ?_⟩
      rintro e w1' ⟨rfl, hw⟩
      obtain rfl : w1' = w1 := by rw [HW1.out, hw]
      clear HK hw
      gi_wp2_with fail
      refine ⟨fun _ => by omega, hR.mono ?_⟩
      rintro e W3 (⟨rfl, hJ3, hk3⟩ | ⟨rfl, hJx3⟩)
      · have ht3 : Turn S wr W3 := ((Turn.ofBelow (by rw [HW1.out]; exact below_new wr _))).trans (HK0.out _ _ hk3)
        have c0 := ht3.cell kt0 hSt
        have c1 := ht3.cell kt1 hSt
        have hT3 := hT2.out.turn ht3 hA
        obtain ⟨b, hAe, hb, p0, _, _, _⟩ := hT3.get hxl
        subst hAe
        have hp := HG.out.par x hxl
        have HJ3 := Lib.hid hJ3
        have HT3 := Lib.hid hT3
        clear hJ3 hT3 hk3 ht3 kt0 kt1 hT2 hR hy
        obtain ⟨z, hz2⟩ : ∃ z, z = (T.tx x).p := ⟨_, rfl⟩
        rw [← hz2] at p0 hp hway
        have HP : Hid ((pre ++ [(⟨x, hx⟩ : Id N)]).map (·.val) ++ T.way z = T.way i) := by
          have h1 : pre.map (·.val) ++ T.way x = T.way i := hpre.out
          rw [hway] at h1
          show List.map _ (pre ++ [_]) ++ _ = _
          rw [← h1]; simp
        have HL : Hid ((pre ++ [(⟨x, hx⟩ : Id N)]).length = pre.length + 1) := by show _ = _; simp
        clear hz2 hway hpre hmn
        rcases (show q = 1 ∨ 2 ≤ q from by omega) with h1 | h2
        · subst h1
          have hw2 : IntKind.i64.wrap ((f : Int) * 2) = ((f * 2 : Nat) : Int) := by simp [IntKind.wrap, IntKind.bits, IntKind.signed]; omega
          gi_wp2
          go_roundw
          case rel => exact ⟨pre ++ [⟨x, hx⟩], z, x, f * 2, f * 2, rfl, rfl, rfl, rfl, HP, HJ3, .inr hp.2, ⟨by omega, Nat.le_refl _, by have h3 := HF.out; rw [HL.out, Nat.pow_succ]; exact Nat.mul_le_mul_right 2 h3⟩, c0, c1, HT3⟩
          case measure => simp [intOf]; omega
        · obtain ⟨q', rfl⟩ : ∃ q', q = q' + 1 := ⟨q - 1, by omega⟩
          have hw2 : IntKind.i64.wrap (((q' + 1 : Nat) : Int) - 1) = (q' : Int) := by simp [IntKind.wrap, IntKind.bits, IntKind.signed]; omega
          have hq0 : ((q' : Int) == 0) = false := by simp; omega
          gi_wp2
          go_roundw
          case rel => exact ⟨pre ++ [⟨x, hx⟩], z, m, f, q', rfl, rfl, rfl, rfl, HP, HJ3, HM.out z hp.2, ⟨by omega, by omega, by have h3 := HF.out; rw [HL.out, Nat.pow_succ]; omega⟩, c0, c1, HT3⟩
          case measure => simp [intOf]; omega
      · gi_wp2
        refine bodyPost_end (results_none rfl _ _ _) rfl ?_
        refine ⟨⟨_, rfl⟩, .inr ⟨pre ++ [⟨x, hx⟩], ?_, hJx3⟩⟩
        have h1 : pre.map (·.val) ++ T.way x = T.way i := hpre.out
        rw [← h1, hway]
        simp
    · rw [decide_eq_false hin] at hk
      have HK := Lib.hid hk
      clear hk
      gi_wp2_with fail
      refine ⟨trivial, fun _ => by omega, (callsIn_wide.2 HK.out).mono ?_⟩
      rintro e w1 ⟨rfl, hw⟩
      have HW1 := Lib.hid hw
      clear hw
      gi_wp2
      refine ⟨fun f e => (by cases e), ?_⟩
      gi_wp2
      go_end0
      refine ⟨⟨_, rfl⟩, .inl ⟨pre, ?_, HJ.out _ _ _ none hJp.out (by rw [HW1.out]; exact World.grownBy_alloc _ _ _) (fun r e => by cases e)⟩⟩
      have h1 : pre.map (·.val) ++ T.way z = T.way i := hpre.out
      rw [Tr.way_none (by rw [HN.out]; omega), List.append_nil] at h1
      exact h1

/-- **the function value that 'up' answers, as an iterator** -/
theorem up_stopsK (K : World → World → Prop) (n : Nat) (hn : 2 ≤ n) (S : Nat → Prop) (A : Option Addr) (T : Tr) (N cap : Nat) (c i : Int) (hN : T.l.length = N) (hG : Good T) (w : World) (hT : TxAt w A T.l)
    (hA : ∀ b o, A = some ⟨b, o, none⟩ → T.l = [] ∨ ¬ S b) (hSt : ¬ S w.heap.size) (hK : ∀ a b, K a b → Turn S a b) :
    SeqStopsK Fence.wide n Try.prog 63 #[.pointer (some ⟨w.heap.size + 1, 0, none⟩), .pointer (some ⟨w.heap.size, 0, none⟩)] (fun x : Id N => #[Value.int .i64 (x.val : Int)]) K (fun xs => xs.map (·.val) = T.way i) (fun pre => pre.map (·.val) <+: T.way i) 9
      ((w.alloc (.cells #[.slice A N cap, .int .i64 c] 55)).alloc (.cells #[.int .i64 i] 3)) := fun l J Jx W hW hJ _ hY h0 => by
  have k0 := cell_al (.cells #[.int .i64 i] 3) ((cell_new w #[.slice A N cap, .int .i64 c] 55 0).trans rfl)
  have k1 := cell_al (.cells #[.int .i64 i] 3) ((cell_new w #[.slice A N cap, .int .i64 c] 55 1).trans rfl)
  have k2 := (cell_new (w.alloc (.cells #[.slice A N cap, .int .i64 c] 55)) #[.int .i64 i] 3 0).trans rfl
  have hT2 : TxAt ((w.alloc (.cells #[.slice A N cap, .int .i64 c] 55)).alloc (.cells #[.int .i64 i] 3)) A T.l := (hT.below (below_new w _)).below (below_new _ _)
  refine up1_in K n hn l (w.heap.size + 1) w.heap.size S A T N cap c i hN hG J Jx hA hSt hK W hJ hY ((hW.cell (p := ⟨w.heap.size + 1, 0, none⟩) (by simp)).trans ?_) ((hW.cell (p := ⟨w.heap.size, 0, none⟩) (by simp; omega)).trans k0) ((hW.cell (p := ⟨w.heap.size, 1, none⟩) (by simp; omega)).trans k1) (hT2.below hW) h0
  simp

theorem up_stops (n : Nat) (hn : 2 ≤ n) (S : Nat → Prop) (A : Option Addr) (T : Tr) (N cap : Nat) (c i : Int) (hN : T.l.length = N) (hG : Good T) (w : World) (hT : TxAt w A T.l)
    (hA : ∀ b o, A = some ⟨b, o, none⟩ → T.l = [] ∨ ¬ S b) (hSt : ¬ S w.heap.size) :
    SeqStopsK Fence.wide n Try.prog 63 #[.pointer (some ⟨w.heap.size + 1, 0, none⟩), .pointer (some ⟨w.heap.size, 0, none⟩)] (fun x : Id N => #[Value.int .i64 (x.val : Int)]) (Kp S) (fun xs => xs.map (·.val) = T.way i) (fun pre => pre.map (·.val) <+: T.way i) 9
      ((w.alloc (.cells #[.slice A N cap, .int .i64 c] 55)).alloc (.cells #[.int .i64 i] 3)) := up_stopsK (Kp S) n hn S A T N cap c i hN hG w hT hA hSt (fun _ _ h => h.turn)
end Go.Proofs.Ytpphhhalmccnbaa

namespace Go.Proofs.Ytpphhhalmccnbaa
set_option maxRecDepth 100000
set_option linter.unusedVariables false
open Go.RowKit Go.Shelf
attribute [local go_sem] Oper.semAt_some

theorem len_ids {n : Nat} {xs : List (Id n)} {l : List Nat} (h : xs.map (·.val) = l) : xs.length = l.length := by rw [← h]; simp

theorem nodup_of_map {n : Nat} {xs : List (Id n)} (h : (xs.map (·.val)).Nodup) : xs.Nodup := by
  rw [List.nodup_iff_pairwise_ne, List.pairwise_map] at h
  exact h.imp fun hn e => hn (by rw [e])
theorem way_nodup {T : Tr} (i : Int) : (T.way i).Nodup := by
  unfold Tr.way
  split
  · exact wayN_nodup _ _
  · exact List.nodup_nil

open Go.Maps in
set_option maxHeartbeats 4000000 in
theorem deep_any (A : Option Addr) (T : Tr) (N cap : Nat) (c i : Int) (hN : T.l.length = N) (hG : Good T) (w : World) (hT : TxAt w A T.l) :
    Calls Try.prog 51 #[.agg #[.slice A N cap, .int .i64 c], .int .i64 i] w fun e w' => e = .returned (.int .i64 ((T.way i).length : Int)) ∧ Below w.heap.size w w' := by
  have hmm := @run_makeMap Try.prog
  refine (callsIn_wide (n := 9)).1 ?_
  refine callsIn_of_wp_marks Try.func51 rfl trivial ?_ rfl
  simp only [Try.ntmps51, List.size_toArray, List.length_cons, List.length_nil, Nat.reduceAdd, Nat.reduceSub, Array.replicate_succ, Array.replicate_zero, List.push_toArray, List.append_toArray, List.nil_append, List.cons_append]
  have HG := Lib.hid hG
  have HT := Lib.hid hT
  have HN := Lib.hid hN
  clear hG hT hN
  gi_wp2_with fail
  have hm0 := World.ownsMap_made (w.alloc (.cells #[.slice A N cap, .int .i64 c] 55)) Try.prog 3 (unitElem (H := Unit))
  have hc := (cell_new ((w.alloc (.cells #[.slice A N cap, .int .i64 c] 55)).alloc (.map #[] 0)) #[.map (some (w.heap.size + 1))] 82 0).trans rfl
  have HB := Lib.hid (below_two (below_two (below_new w (.cells #[.slice A N cap, .int .i64 c] 55)) (below_new _ (.map #[] 0))) (below_new _ (.cells #[.map (some (w.heap.size + 1))] 82)))
  have hs : (((w.alloc (.cells #[.slice A N cap, .int .i64 c] 55)).alloc (.map #[] 0)).alloc (.cells #[.map (some (w.heap.size + 1))] 82)).heap.size = w.heap.size + 3 := by simp
  rw [World.size_alloc, World.size_alloc] at hc
  rw [World.size_alloc] at hm0
  have HM := Lib.hid (hm0.alloc (.cells #[.map (some (w.heap.size + 1))] 82))
  have HT2 := Lib.hid (HT.out.below HB.out)
  have HA := Lib.hid HT.out.lt
  have HC := Lib.hid hc
  have HS := Lib.hid hs
  clear hc hs HT hm0
  generalize ((w.alloc (.cells #[.slice A N cap, .int .i64 c] 55)).alloc (.map #[] 0)).alloc (.cells #[.map (some (w.heap.size + 1))] 82) = w2 at *
  refine ⟨trivial, (callsIn_wide.2 (up_any A N cap c i w2)).mono ?_⟩
  rintro e w3 ⟨rfl, rfl⟩
  gi_wp2_with fail
  refine wpIn_rangeFunc_ownG rfl (by omega) (gf := 63) (lb := #[.pointer (some ⟨w2.heap.size + 1, 0, none⟩), .pointer (some ⟨w2.heap.size, 0, none⟩)]) rfl trivial (enters_of Try.func63 (by kernel_rfl) rfl)
    (up_stopsK (Turn fun k => k = w.heap.size + 1 ∨ w2.heap.size + 2 ≤ k) 8 (by omega) (fun k => k = w.heap.size + 1 ∨ w2.heap.size + 2 ≤ k) A T N cap c i HN.out HG.out w2 HT2.out (fun b o e => (HA.out b o e).imp id (fun h h2 => by have := HS.out; omega)) (fun h => by have := HS.out; omega) (fun _ _ h => h)) (fun h k => h.trans k) (fun W l o o' hl _ _ _ => (Turn.refl _ W).grown (grownBy_putObj' W l o') (fun j e => by cases e; simp at hl; exact .inl (.inr (by omega)))) (Below.refl _ _) (fun _ => rfl)
    (fun pre W => (W.cell? ⟨w.heap.size + 2, 0, none⟩ = some (.map (some (w.heap.size + 1))) ∧ ∃ D, W.ownsMap Try.prog 3 (unitElem (H := Unit)) (w.heap.size + 1) pre.length D ∧ (∀ y : Int, Maps.has D (.int .i64 y) = true → ∃ x ∈ pre, y = (x.val : Int)) ∧ (pre.Nodup → Maps.size D = pre.length)) ∧ Below w.heap.size w W)
    (fun _ _ _ => False)
    (OwnFrom.and (fun s X Y row hs hg hr => ⟨cell_kept hs.1 hg (fun r e => (hr r e).2), let ⟨D, h1, h2⟩ := hs.2; ⟨D, h1.kept hg (fun e => by have := (hr _ e.symm).1; have := HS.out; simp at *; omega), h2⟩⟩) (ownFrom_below (Nat.le_refl _) (by have := HS.out; simp; omega)))
    (fun _ _ _ _ _ hs _ _ => hs)
    ⟨⟨cell_al _ (cell_al _ HC.out), .map [], (HM.out.alloc _).alloc _, fun y h => by simp [Maps.has_eq] at h, fun _ => rfl⟩, HB.out.trans (((below_new w2 _).trans ((below_new _ _).mono (by simp))).mono HB.out.size)⟩
    ?acts ?assign ?body ?done ?stop
  case assign =>
    intro l x W K hK
    gi_wp2
    exact hK
  case body =>
    rintro l pre x W ⟨⟨hc, D, hown, hD, hz⟩, hB⟩ hlen
    have HD := Lib.hid hD
    have HZ := Lib.hid hz
    have hn8 : pre.length < 9 := hlen
    have hn64 : N ≤ 64 := by have := HG.out.n; have := HN.out; omega
    have hx := x.isLt
    have hkey : keyOf Try.prog 3 (.int .i64 (x.val : Int)) = some (.int .i64 (x.val : Int)) := Maps.keyOf_int_mk Try.underlying3 (wfN (by omega) (by omega))
    have HB3 := Lib.hid hB
    clear hB hlen hD hz
    gi_wp2_with (first | (gi_at_mapUpdate; refine wpListIn_mapUpdate_own _ rfl _ _ _ 82 rfl 3 83 (Maps.int_keyed Try.underlying3) Try.underlying82 unitElem (w.heap.size + 1) pre.length D rfl hown (by unfold maxLen; omega) _ _ _ rfl rfl hkey _ [] unitElem_mk ?_; intro w1 hown1 hg1) | fail)
    have hle := HB3.out.size
    have ht : Tidy D := hown.tidy (Maps.int_keyed Try.underlying3)
    have hkl : WideAt.IsKeyLit (Lit.int .i64 (x.val : Int)) := trivial
    obtain ⟨es, ck, hh, _⟩ := hown
    refine ⟨KeepsFrom.of_grownBy hg1 (fun j e => by cases e; have := HS.out; simp; omega), (Turn.refl _ W).grown hg1 (fun j e => by cases e; exact .inl (.inl rfl)), ⟨cell_kept hc hg1 (fun r e => by cases e; exact ⟨_, hh, rfl⟩), _, by rw [List.length_append]; exact hown1, fun y hy => ?_, fun hnd => ?_⟩, HB3.out.grown hg1 hle (fun k e => by cases e; omega)⟩
    · by_cases he : y = (x.val : Int)
      · exact ⟨x, by simp, he⟩
      · rw [has_put_other (by intro e; injection e with _ e; exact he e)] at hy
        obtain ⟨z, hz, e⟩ := HD.out y hy
        exact ⟨z, by simp [hz], e⟩
    · rw [size_put ht]
      have hno : Maps.has D (.int .i64 (x.val : Int)) = false := by
        cases hh2 : Maps.has D (.int .i64 (x.val : Int)) with
        | false => rfl
        | true =>
          obtain ⟨z, hz, e⟩ := HD.out _ hh2
          have : z = x := Fin.ext (by omega)
          subst this
          rw [List.nodup_append] at hnd
          exact (hnd.2.2 z hz z (by simp) rfl).elim
      rw [hno, HZ.out (List.nodup_append.1 hnd).1]
      simp
  case done =>
    rintro D ys W hD hys ⟨⟨hc, M, hown, hM, hz⟩, hB⟩ hK
    have HB3 := Lib.hid hB
    have HD := Lib.hid hD
    clear hB hD
    have hl := fun ty => hown.len Try.underlying82 ty
    gi_wp2
    refine ⟨by simp, .inl ⟨_, _, rfl, run_takeDeferred hK, ?_⟩⟩
    refine ⟨_, results_tmp rfl _ _ _, ?_, HB3.out.trans ((Turn.refl (fun k => k = D) W).grown (grownBy_putObj' W D _) (fun j e => by cases e; exact .inl rfl) |>.below (fun k e => by have h1 := HD.out; have h2 := HS.out; simp at h1; omega) HB3.out.size)⟩
    have hnd : ys.Nodup := nodup_of_map (by rw [hys]; exact way_nodup i)
    show Ending.returned (Value.int .i64 (Maps.size M : Int)) = _
    rw [hz hnd, len_ids hys]
  case stop =>
    rintro D c pre W _ _ h _
    exact h.elim
end Go.Proofs.Ytpphhhalmccnbaa

namespace Go.Proofs.Ytpphhhalmccnbaa
set_option maxRecDepth 100000
set_option linter.unusedVariables false
open Go.RowKit Go.Shelf
attribute [local go_sem] Oper.semAt_some

theorem below_put {w W : World} (hB : Below w.heap.size w W) {D : Nat} (hD : w.heap.size ≤ D) (o : Obj) : Below w.heap.size w (W.putObj D o) :=
  hB.trans ((Turn.refl (fun k => k = D) W).grown (grownBy_putObj' W D o) (fun j e => by cases e; exact .inl rfl) |>.below (fun k e => by omega) hB.size)
theorem frozen_al {W : World} {a : Addr} {v : Value} (o : Obj) (h : W.cell? a = some v) {b : Bool} (hf : W.frozen? a = b) : (W.alloc o).frozen? a = b := (frozen_kept h (World.grownBy_alloc W o none) (fun r e => by cases e)).trans hf
theorem cell_put {W : World} {a : Addr} {v : Value} {D : Nat} {o : Obj} (h : W.cell? a = some v) (hK : W.heap[D]? = some (.deferred (some []))) : (W.putObj D o).cell? a = some v := cell_kept h (grownBy_putObj' _ D o) (fun r e => by cases e; exact ⟨_, hK, rfl⟩)

/-- in which order what has come stands on a way -/
theorem pre_mem {n : Nat} {pre : List (Id n)} {l : List Nat} (h : pre.map (·.val) <+: l) {y : Id n} (hy : y ∈ pre) : y.val ∈ l := h.subset (List.mem_map_of_mem hy)
theorem all_mem {n : Nat} {xs : List (Id n)} {l : List Nat} (h : xs.map (·.val) = l) {y : Nat} (hy : y ∈ l) : ∃ x ∈ xs, x.val = y := by rw [← h] at hy; simpa using hy

/-- does one stand in another one? -/
def Tr.stands (T : Tr) (i of : Int) : Bool := (T.way i).any fun x => decide ((x : Int) = of)
def Tr.top (T : Tr) (i : Int) : Int := match (T.way i).find? (fun x => decide ((T.tx x).p = -1)) with | some x => (x : Int) | none => -1
def Tr.lost (T : Tr) (i : Int) : Bool := (T.way i).any (fun x => decide ((T.tx x).s = 3)) || !decide (0 ≤ i ∧ i < (T.l.length : Int))
def Tr.fixed (T : Tr) (i : Int) : Bool := (T.way i).all (fun x => decide ((T.tx x).s = 2)) && decide (0 ≤ i ∧ i < (T.l.length : Int))

theorem stands_none {T : Tr} {n : Nat} {i of : Int} {xs : List (Id n)} (h : xs.map (·.val) = T.way i) (hp : ∀ y ∈ xs, (y.val : Int) ≠ of) : T.stands i of = false := by
  unfold Tr.stands
  rw [List.any_eq_false]
  intro y hy
  obtain ⟨x, hx, rfl⟩ := all_mem h hy
  simpa using hp x hx
theorem stands_some {T : Tr} {n : Nat} {i of : Int} {pre : List (Id n)} (h : pre.map (·.val) <+: T.way i) (hp : ∃ y ∈ pre, (y.val : Int) = of) : T.stands i of = true := by
  obtain ⟨y, hy, e⟩ := hp
  unfold Tr.stands
  rw [List.any_eq_true]
  exact ⟨y.val, pre_mem h hy, by simpa using e⟩
theorem lost_none {T : Tr} {N : Nat} {i : Int} {xs : List (Id N)} (hN : T.l.length = N) (h : xs.map (·.val) = T.way i) (hp : ∀ y ∈ xs, (T.tx (y : Id N).val).s ≠ 3) : T.lost i = !decide (0 ≤ i ∧ i < (N : Int)) := by
  unfold Tr.lost
  rw [hN]
  rw [show (T.way i).any (fun x => decide ((T.tx x).s = 3)) = false from by
    rw [List.any_eq_false]
    intro y hy
    obtain ⟨x, hx, rfl⟩ := all_mem h hy
    simpa using hp x hx]
  rw [Bool.false_or]
theorem lost_some {T : Tr} {N : Nat} {i : Int} {pre : List (Id N)} (h : pre.map (·.val) <+: T.way i) (hp : ∃ y ∈ pre, (T.tx (y : Id N).val).s = 3) : T.lost i = true := by
  obtain ⟨y, hy, e⟩ := hp
  unfold Tr.lost
  rw [show (T.way i).any (fun x => decide ((T.tx x).s = 3)) = true from by
    rw [List.any_eq_true]
    exact ⟨y.val, pre_mem h hy, by simpa using e⟩]
  rw [Bool.true_or]
theorem fixed_none {T : Tr} {N : Nat} {i : Int} {xs : List (Id N)} (hN : T.l.length = N) (h : xs.map (·.val) = T.way i) (hp : ∀ y ∈ xs, (T.tx (y : Id N).val).s = 2) : T.fixed i = decide (0 ≤ i ∧ i < (N : Int)) := by
  unfold Tr.fixed
  rw [hN]
  rw [show (T.way i).all (fun x => decide ((T.tx x).s = 2)) = true from by
    rw [List.all_eq_true]
    intro y hy
    obtain ⟨x, hx, rfl⟩ := all_mem h hy
    simpa using hp x hx]
  rw [Bool.true_and]
theorem fixed_some {T : Tr} {N : Nat} {i : Int} {pre : List (Id N)} (h : pre.map (·.val) <+: T.way i) (hp : ∃ y ∈ pre, (T.tx (y : Id N).val).s ≠ 2) : T.fixed i = false := by
  obtain ⟨y, hy, e⟩ := hp
  unfold Tr.fixed
  rw [show (T.way i).all (fun x => decide ((T.tx x).s = 2)) = false from by
    rw [List.all_eq_false]
    exact ⟨y.val, pre_mem h hy, by simpa using e⟩]
  rw [Bool.false_and]
/-- the first on the way that has no parent -/
def topOf {N : Nat} (T : Tr) (pre : List (Id N)) (z : Int) : Prop := ∃ q x, pre = q ++ [x] ∧ (∀ y ∈ q, (T.tx (y : Id N).val).p ≠ -1) ∧ (T.tx x.val).p = -1 ∧ z = (x.val : Int)
theorem find_top {T : Tr} : ∀ (l : List Nat) (x : Nat) (r : List Nat), (∀ y ∈ l, (T.tx y).p ≠ -1) → (T.tx x).p = -1 → (l ++ x :: r).find? (fun x => decide ((T.tx x).p = -1)) = some x
  | [], x, r, _, hx => by simp [hx]
  | y :: l, x, r, hl, hx => by
    have h1 := hl y (by simp)
    simp only [List.cons_append, List.find?_cons, decide_eq_false h1]
    exact find_top l x r (fun z hz => hl z (List.mem_cons_of_mem _ hz)) hx
theorem top_some {T : Tr} {N : Nat} {i z : Int} {pre : List (Id N)} (h : pre.map (·.val) <+: T.way i) (hp : topOf T pre z) : T.top i = z := by
  obtain ⟨q, x, rfl, hq, hx, rfl⟩ := hp
  obtain ⟨r, hr⟩ := h
  unfold Tr.top
  rw [← hr]
  have := find_top (T := T) (q.map (·.val)) x.val r (fun y hy => by obtain ⟨z, hz, rfl⟩ := List.mem_map.1 hy; exact hq z hz) hx
  simp only [List.map_append, List.map_cons, List.map_nil, List.append_assoc, List.cons_append, List.nil_append]
  rw [this]
theorem top_none {T : Tr} {N : Nat} {i : Int} {xs : List (Id N)} (h : xs.map (·.val) = T.way i) (hp : ∀ y ∈ xs, (T.tx (y : Id N).val).p ≠ -1) : T.top i = -1 := by
  unfold Tr.top
  rw [List.find?_eq_none.2 (fun y hy => by obtain ⟨x, hx, rfl⟩ := all_mem h hy; simpa using hp x hx)]

/-- a state that may not be in one of state si -/
def badN (T : Tr) (si : Int) (y : Nat) : Prop := (si = 1 ∧ (T.tx y).s ≠ 1) ∨ (si = 2 ∧ (T.tx y).s = 3)
theorem badN_yes {T : Tr} {si q : Int} {y : Nat} (hq : q = (T.tx y).s) (h : (si = 1 ∧ q ≠ 1) ∨ (si = 2 ∧ q = 3)) : badN T si y := by unfold badN; rw [← hq]; exact h
theorem badN_no {T : Tr} {si q : Int} {y : Nat} (hq : q = (T.tx y).s) (h : ¬ ((si = 1 ∧ q ≠ 1) ∨ (si = 2 ∧ q = 3))) : ¬ badN T si y := by unfold badN; rw [← hq]; exact h
theorem badN_none {T : Tr} {N : Nat} {i : Nat} {si : Int} {pre : List (Id N)} (hG : Good T) (hi : i < T.l.length) (hsi : si = (T.tx i).s) (h : pre.map (·.val) <+: T.way (i : Int)) (hp : ∃ y ∈ pre, badN T si (y : Id N).val) : False := by
  obtain ⟨y, hy, hb⟩ := hp
  have hm := pre_mem h hy
  rw [Tr.way_nat hi] at hm
  have hn := hG.nest i hi _ hm
  rw [← hsi] at hn
  rcases hb with ⟨h1, h2⟩ | ⟨h1, h2⟩
  · exact h2 (hn.1 h1)
  · exact hn.2 h1 h2

set_option maxHeartbeats 4000000 in
theorem within_any (A : Option Addr) (T : Tr) (N cap : Nat) (c i of : Int) (hN : T.l.length = N) (hG : Good T) (w : World) (hT : TxAt w A T.l) :
    Calls Try.prog 29 #[.agg #[.slice A N cap, .int .i64 c], .int .i64 i, .int .i64 of] w fun e w' => e = .returned (.bool (T.stands i of)) ∧ Below w.heap.size w w' := by
  refine (callsIn_wide (n := 9)).1 ?_
  refine callsIn_of_wp_marks Try.func29 rfl trivial ?_ rfl
  simp only [Try.ntmps29, List.size_toArray, List.length_cons, List.length_nil, Nat.reduceAdd, Nat.reduceSub, Array.replicate_succ, Array.replicate_zero, List.push_toArray, List.append_toArray, List.nil_append, List.cons_append]
  have HG := Lib.hid hG
  have HT := Lib.hid hT
  have HN := Lib.hid hN
  clear hG hT hN
  gi_wp2_with fail
  obtain ⟨wx0, hw0⟩ : ∃ wx, wx = w.alloc (.cells #[.slice A N cap, .int .i64 c] 55) := ⟨_, rfl⟩
  obtain ⟨wx1, hw1⟩ : ∃ wx, wx = wx0.alloc (.cells #[.int .i64 of] 3) := ⟨_, rfl⟩
  obtain ⟨wx2, hw2⟩ : ∃ wx, wx = wx1.alloc (.cells #[.bool false] 4) := ⟨_, rfl⟩
  have s0 : wx0.heap.size = w.heap.size + 1 := by rw [hw0]; simp
  have s1 : wx1.heap.size = w.heap.size + 2 := by rw [hw1]; simp [s0]
  have s2 : wx2.heap.size = w.heap.size + 3 := by rw [hw2]; simp [s1]
  have k0 : wx2.cell? ⟨w.heap.size, 0, none⟩ = some (.slice A N cap) := by rw [hw2, hw1, hw0]; exact cell_al _ (cell_al _ ((cell_new w _ _ 0).trans rfl))
  have HB := Lib.hid (show Below w.heap.size w wx2 from by rw [hw2, hw1, hw0]; exact below_two (below_two (below_new w _) (below_new _ _)) (below_new _ _))
  have k1 : wx2.cell? ⟨w.heap.size + 1, 0, none⟩ = some (.int .i64 of) := by rw [hw2, hw1, ← s0]; exact cell_al _ ((cell_new wx0 _ _ 0).trans rfl)
  have k2 : wx2.cell? ⟨w.heap.size + 2, 0, none⟩ = some (.bool false) := by rw [hw2, ← s1]; exact (cell_new wx1 _ _ 0).trans rfl
  have f0 : wx2.frozen? ⟨w.heap.size + 2, 0, none⟩ = false := by rw [hw2, ← s1]; exact frozen_new wx1 _ _ 0
  rw [← hw0, ← hw1, ← hw2]
  have HT2 := Lib.hid (HT.out.below HB.out)
  have HA := Lib.hid HT.out.lt
  have H0 := Lib.hid k0
  have H1 := Lib.hid k1
  have H2 := Lib.hid k2
  have HF := Lib.hid f0
  have HS := Lib.hid s2
  clear hw0 s0 k0 hw1 s1 k1 hw2 s2 k2 f0
  clear wx0 wx1
  obtain ⟨w2, hw2⟩ : ∃ w2, w2 = wx2 := ⟨_, rfl⟩
  subst hw2
  refine ⟨trivial, (callsIn_wide.2 (up_any A N cap c i w2)).mono ?_⟩
  rintro e w3 ⟨rfl, rfl⟩
  gi_wp2_with fail
  refine wpIn_rangeFunc_ownF rfl (by omega) (gf := 63) (lb := #[.pointer (some ⟨w2.heap.size + 1, 0, none⟩), .pointer (some ⟨w2.heap.size, 0, none⟩)]) rfl trivial (enters_of Try.func63 (by kernel_rfl) rfl)
    (up_stops 8 (by omega) (fun k => w2.heap.size + 2 ≤ k) A T N cap c i HN.out HG.out w2 HT2.out (fun b o e => (HA.out b o e).imp id (fun h h2 => by have := HS.out; omega)) (fun h => by omega)) Kp.t (Kp.b (by simp)) (Below.refl _ _) (fun _ => rfl)
    (fun pre W => ((∀ y ∈ pre, (y.val : Int) ≠ of) ∧ W.cell? ⟨w.heap.size + 1, 0, none⟩ = some (.int .i64 of) ∧ W.cell? ⟨w.heap.size + 2, 0, none⟩ = some (.bool false) ∧ W.frozen? ⟨w.heap.size + 2, 0, none⟩ = false) ∧ Below w.heap.size w W)
    (fun c pre W => (c = .ret ∧ (∃ y ∈ pre, (y.val : Int) = of) ∧ W.cell? ⟨w.heap.size + 2, 0, none⟩ = some (.bool true)) ∧ Below w.heap.size w W)
    (OwnFrom.and (Own.from (fun s A B row hs hg hr => ⟨hs.1, cell_kept hs.2.1 hg hr, cell_kept hs.2.2.1 hg hr, (frozen_kept hs.2.2.1 hg hr).trans hs.2.2.2⟩) _) (ownFrom_below (Nat.le_refl _) (by have := HS.out; simp; omega)))
    (fun _ => OwnFrom.and (Own.from (fun s A B row hs hg hr => ⟨hs.1, hs.2.1, cell_kept hs.2.2 hg hr⟩) _) (ownFrom_below (Nat.le_refl _) (by have := HS.out; simp; omega)))
    ⟨⟨by simp, cell_al _ (cell_al _ H1.out), cell_al _ (cell_al _ H2.out), frozen_al _ (cell_al _ H2.out) (frozen_al _ H2.out HF.out)⟩, below_two (below_two HB.out (below_new w2 _)) (below_new _ _)⟩
    ?acts ?assign ?body ?done ?stop
  case assign =>
    intro l x W K hK
    gi_wp2
    exact hK
  case body =>
    rintro l pre x W ⟨⟨hp, k1, kr, fr⟩, hB⟩ hlen
    have HP := Lib.hid hp
    have HB3 := Lib.hid hB
    clear hB hlen hp
    by_cases hx : (x.val : Int) = of
    · have hxb : ((x.val : Int) == of) = true := by simpa using hx
      have HX := Lib.hid hx
      clear hx
      gi_wp2
      exact ⟨KeepsOthers.setCell _ _ _, ⟨rfl, ⟨x, by simp, HX.out⟩, World.cell?_setCell_same' _ _ _ (by rw [kr]; rfl)⟩, HB3.out.setCell (by show w.heap.size ≤ w.heap.size + 2; omega) _⟩
    · have hxb : ((x.val : Int) == of) = false := by simpa using hx
      have HX := Lib.hid hx
      clear hx
      gi_wp2
      exact ⟨KeepsOthers.refl _, ⟨KeepsWalks.refl _, Turn.refl _ _⟩, ⟨fun y hy => (List.mem_append.1 hy).elim (HP.out y) (fun h => by simp at h; subst h; exact HX.out), k1, kr, fr⟩, HB3.out⟩
  case done =>
    rintro D ys WD hD hys ⟨⟨hp, k1, kr, fr⟩, hB⟩ hK
    have HW := Lib.hid (stands_none (T := T) hys hp)
    clear hp hys
    have HB3 := Lib.hid hB
    have HD := Lib.hid (show w.heap.size ≤ D from by have := HS.out; simp at hD; omega)
    clear hB hD
    gi_wp2
    have hK' := (KeepsOthers.setCell WD ⟨w.heap.size + 2, 0, none⟩ (.bool false)).same D _ hK rfl
    refine ⟨by simp, .inl ⟨_, _, rfl, run_takeDeferred hK', ?_⟩⟩
    have hc5 := cell_put (o := .deferred none) (World.cell?_setCell_same' WD ⟨w.heap.size + 2, 0, none⟩ (.bool false) (by rw [kr]; rfl)) hK'
    refine ⟨.bool false, ?_, by rw [HW.out], below_put (HB3.out.setCell (by show w.heap.size ≤ w.heap.size + 2; omega) _) HD.out _⟩
    simp [results, Try.f29, go_sem, hc5]
  case stop =>
    rintro D c pre W hD hpre ⟨⟨rfl, hz, kr⟩, hB⟩ hK
    have HW := Lib.hid (stands_some (T := T) hpre hz)
    clear hpre hz
    have HB3 := Lib.hid hB
    have HD := Lib.hid (show w.heap.size ≤ D from by have := HS.out; simp at hD; omega)
    clear hB hD
    gi_wp2
    refine ⟨by simp, .inl ⟨_, _, rfl, run_takeDeferred hK, ?_⟩⟩
    have hc5 := cell_put (o := .deferred none) kr hK
    refine ⟨.bool true, ?_, by rw [HW.out], below_put HB3.out HD.out _⟩
    simp [results, Try.f29, go_sem, hc5]

end Go.Proofs.Ytpphhhalmccnbaa

namespace Go.Proofs.Ytpphhhalmccnbaa
set_option maxRecDepth 100000
set_option linter.unusedVariables false
open Go.RowKit Go.Shelf
attribute [local go_sem] Oper.semAt_some

/-- what is told of all is right -/
structure Pk (T : Tr) (of : Nat) (f : Nat → Int) : Prop where
  s : ∀ j, j < T.l.length → f j = 0 ∨ f j = 1 ∨ f j = 2
  yes : ∀ j, j < T.l.length → f j = 1 → T.inn of j
  no : ∀ j, j < T.l.length → f j = 2 → ¬ T.inn of j
  one : f of = 1

def upd (f : Nat → Int) (q : List Nat) (d : Int) (j : Nat) : Int := if j ∈ q then d else f j
/-- what is found on the way up -/
def Fd (T : Tr) (i : Nat) (f : Nat → Int) (d : Int) : Prop :=
  (∃ q x, (q ++ [x]) <+: wayN T.par i ∧ (∀ y ∈ q, f y = 0) ∧ f x ≠ 0 ∧ d = f x) ∨ ((∀ y ∈ wayN T.par i, f y = 0) ∧ d = 2)

theorem Fd.two {T : Tr} {of i : Nat} {f : Nat → Int} {d : Int} (hP : Pk T of f) (hi : i < T.l.length) (h : Fd T i f d) : d = 1 ∨ d = 2 := by
  rcases h with ⟨q, x, hq, _, hx, rfl⟩ | ⟨_, rfl⟩
  · have hm : x ∈ wayN T.par i := hq.subset (by simp)
    rcases hP.s x (way_lt hi hm) with h | h
    · exact absurd h hx
    · exact h
  · exact .inr rfl

theorem prefix_total {l a b : List Nat} (ha : a <+: l) (hb : b <+: l) : a <+: b ∨ b <+: a := by
  rcases Nat.le_total a.length b.length with h | h
  · exact .inl (List.prefix_of_prefix_length_le ha hb h)
  · exact .inr (List.prefix_of_prefix_length_le hb ha h)

theorem Pk.set {T : Tr} {of i : Nat} {f : Nat → Int} {d : Int} (hP : Pk T of f) (hi : i < T.l.length) (h : Fd T i f d) {q : List Nat} (hq : q <+: wayN T.par i) (h0 : ∀ y ∈ q, f y = 0) : Pk T of (upd f q d) := by
  have two := h.two hP hi
  have hof : of ∉ q := fun hm => by have := h0 of hm; rw [hP.one] at this; omega
  have key : ∀ y ∈ q, (d = 1 → T.inn of y) ∧ (d = 2 → ¬ T.inn of y) := by
    intro y hy
    rcases h with ⟨p, x, hp, hp0, hx, rfl⟩ | ⟨hall, rfl⟩
    · have hxl : x < T.l.length := way_lt hi (hp.subset (by simp))
      have hpof : of ∉ p := fun hm => by have := hp0 of hm; rw [hP.one] at this; omega
      have hsub : y ∈ p := by
        rcases prefix_total hq hp with hh | hh
        · have hm := hh.subset hy
          rcases List.mem_append.1 hm with hm | hm
          · exact hm
          · simp at hm; subst hm; exact absurd (h0 y hy) hx
        · have hm : x ∈ q := hh.subset (by simp)
          exact absurd (h0 x hm) hx
      have ht := wayN_told i of p x hp hpof y (List.mem_append_left _ hsub)
      exact ⟨fun e => ht.2 (hP.yes x hxl e), fun e h => hP.no x hxl e (ht.1 h)⟩
    · refine ⟨fun e => by omega, fun _ hm => ?_⟩
      have h1 : of ∈ wayN T.par i := wayN_trans (hq.subset hy) hm
      have := hall of h1
      rw [hP.one] at this
      omega
  refine ⟨fun j hj => ?_, fun j hj e => ?_, fun j hj e => ?_, ?_⟩
  · unfold upd; split
    · exact .inr two
    · exact hP.s j hj
  · unfold upd at e; split at e
    · next hm => exact (key j hm).1 e
    · exact hP.yes j hj e
  · unfold upd at e; split at e
    · next hm => exact (key j hm).2 e
    · exact hP.no j hj e
  · unfold upd; rw [if_neg hof]; exact hP.one

theorem upd_snoc (f : Nat → Int) (q : List Nat) (x : Nat) (d : Int) (j : Nat) : upd f (q ++ [x]) d j = if j = x then d else upd f q d j := by
  unfold upd
  by_cases h1 : j ∈ q <;> by_cases h2 : j = x <;> simp [h1, h2]

/-- the second way: it ends at one of which it is told, or all have come -/
theorem settled {T : Tr} {of i : Nat} {f : Nat → Int} {d : Int} (hP : Pk T of f) (hi : i < T.l.length) (h : Fd T i f d) {q : List Nat} (h0 : ∀ y ∈ q, f y = 0)
    (hq : q = wayN T.par i ∨ ∃ x, (q ++ [x]) <+: wayN T.par i ∧ upd f q d x ≠ 0) : Pk T of (upd f q d) ∧ (upd f q d i = 1 ∨ upd f q d i = 2) := by
  have hpre : q <+: wayN T.par i := by
    rcases hq with rfl | ⟨x, hx, _⟩
    · exact List.prefix_rfl
    · exact (List.prefix_append q [x]).trans hx
  have hPk := hP.set hi h hpre h0
  refine ⟨hPk, ?_⟩
  have hs := hPk.s i hi
  suffices upd f q d i ≠ 0 by rcases hs with h | h; exact absurd h this; exact h
  obtain ⟨r, hr⟩ := wayN_head T.par i
  have two := h.two hP hi
  by_cases hm : i ∈ q
  · unfold upd; rw [if_pos hm]; omega
  · rcases hq with rfl | ⟨x, hx, hne⟩
    · exact absurd (wayN_self T.par i) hm
    · have hx2 : x = i := by
        cases q with
        | nil => rw [hr] at hx; obtain ⟨r', hr'⟩ := hx; simp at hr'; exact hr'.1
        | cons a q => rw [hr] at hx; obtain ⟨r', hr'⟩ := hx; simp at hr'; exact absurd (by rw [hr'.1]; simp) hm
      subst hx2; exact hne

/-- what is told lies in block P -/
def Pl (W : World) (P N : Nat) (f : Nat → Int) : Prop := P < W.heap.size ∧ ∀ j, j < N → W.cell? ⟨P, j, none⟩ = some (.int .i64 (f j)) ∧ W.frozen? ⟨P, j, none⟩ = false
theorem Pl.turn {S : Nat → Prop} {W V : World} {P N : Nat} {f : Nat → Int} (h : Pl W P N f) (ht : Turn S W V) (hS : ¬ S P) : Pl V P N f :=
  ⟨Nat.lt_of_lt_of_le h.1 ht.size, fun j hj => ⟨ht.cell (h.2 j hj).1 hS, (World.frozen?_of_block (a := ⟨P, j, none⟩) (ht.block P h.1 hS)).trans (h.2 j hj).2⟩⟩
theorem Pl.below {W V : World} {P N : Nat} {f : Nat → Int} (h : Pl W P N f) (hb : Below W.heap.size W V) : Pl V P N f := h.turn (S := fun _ => False) (Turn.ofBelow hb) id
theorem Pl.set {W : World} {P N : Nat} {f g : Nat → Int} (h : Pl W P N f) {x : Nat} (hx : x < N) {d : Int} (hg : ∀ j, g j = if j = x then d else f j) : Pl (W.setCell ⟨P, x, none⟩ (.int .i64 d)) P N g := by
  refine ⟨by simpa [World.setCell] using h.1, fun j hj => ⟨?_, by rw [World.frozen?_setCell]; exact (h.2 j hj).2⟩⟩
  rw [hg j]
  by_cases e : j = x
  · subst e
    rw [if_pos rfl]
    exact World.cell?_setCell_same' _ _ _ (by rw [(h.2 j hj).1]; rfl)
  · rw [if_neg e, World.cell?_setCell_other _ _ _ _ (by intro h; injection h with _ h; exact e h.symm)]
    exact (h.2 j hj).1
theorem ownPl {B P N : Nat} {β : Type} (g : β → Nat → Int) : OwnFrom B (fun s W => Pl W P N (g s)) := fun s W W' row h hg hr => by
  have hne : 0 < N → some P ≠ row := fun h0 e => by
    obtain ⟨_, o, ho, hc⟩ := hr P e.symm
    obtain ⟨o', ho', hc'⟩ := cells_of_cell (h.2 0 h0).1
    have : o = o' := by have h1 : W.heap[P]? = some o' := ho'; rw [ho] at h1; injection h1
    subst this; rw [hc] at hc'; cases hc'
  exact ⟨Nat.lt_of_lt_of_le h.1 hg.size, fun j hj => ⟨cell_kept (h.2 j hj).1 hg (fun r e => (hr r e).2), (frozen_kept (h.2 j hj).1 hg (fun r e => (hr r e).2)).trans (h.2 j hj).2⟩⟩
theorem ownTurn {B : Nat} {S : Nat → Prop} {w : World} {β : Type} (hB : w.heap.size ≤ B) : OwnFrom (β := β) B (fun _ W => Turn S w W) := fun s W W' row h hg hr => h.grown hg (fun j e => .inr (by have := (hr j e).1; omega))
theorem ownHeap {B D : Nat} {o : Obj} {β : Type} (hD : D < B) : OwnFrom (β := β) B (fun _ W => W.heap[D]? = some o) := fun s W W' row h hg hr =>
  (hg.block D (lt_of_block h) (fun e => by have := (hr D e.symm).1; omega)).trans h

end Go.Proofs.Ytpphhhalmccnbaa
