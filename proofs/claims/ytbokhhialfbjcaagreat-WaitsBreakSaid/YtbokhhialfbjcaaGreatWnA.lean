/-
  Who waits on whom: plain facts. Where each one that is told of waits on another one that is, some of them wait on themselves; by rungs that rise nobody does. No program in it.
-/
import Derived.Test.YtbokhhialfbjcaaGreatApt
namespace Go.Proofs.YtbokhhialfbjcaaGreat
set_option maxRecDepth 100000
set_option linter.unusedVariables false

/-- from one to another, by steps -/
inductive Rch (R : Nat → Nat → Prop) : Nat → Nat → Prop
  | refl (a : Nat) : Rch R a a
  | step {a b c : Nat} : R a b → Rch R b c → Rch R a c

theorem Rch.trans {R : Nat → Nat → Prop} {a b c : Nat} (h : Rch R a b) (k : Rch R b c) : Rch R a c := by
  induction h with
  | refl => exact k
  | step r _ ih => exact .step r (ih k)
theorem Rch.snoc {R : Nat → Nat → Prop} {a b c : Nat} (h : Rch R a b) (r : R b c) : Rch R a c := h.trans (.step r (.refl c))
theorem Rch.mono {R S : Nat → Nat → Prop} (hRS : ∀ a b, R a b → S a b) {a b : Nat} (h : Rch R a b) : Rch S a b := by
  induction h with
  | refl => exact .refl _
  | step r _ ih => exact .step (hRS _ _ r) ih
/-- the last step, if there is one -/
theorem Rch.last {R : Nat → Nat → Prop} {a b : Nat} (h : Rch R a b) : a = b ∨ ∃ c, Rch R a c ∧ R c b := by
  induction h with
  | refl => exact .inl rfl
  | @step a b c r h ih =>
    rcases ih with rfl | ⟨d, h1, h2⟩
    · exact .inr ⟨a, .refl a, r⟩
    · exact .inr ⟨d, .step r h1, h2⟩
theorem Rch.keeps {R : Nat → Nat → Prop} {P : Nat → Prop} (hP : ∀ a b, P a → R a b → P b) {a b : Nat} (h : Rch R a b) (ha : P a) : P b := by
  induction h with
  | refl => exact ha
  | step r _ ih => exact ih (hP _ _ ha r)
/-- by steps that rise one comes nowhere below -/
theorem Rch.up {R : Nat → Nat → Prop} {f : Nat → Nat} (hf : ∀ a b, R a b → f a < f b) {a b : Nat} (h : Rch R a b) : f a ≤ f b := by
  induction h with
  | refl => exact Nat.le_refl _
  | step r _ ih => have := hf _ _ r; omega

/-! ### how many of a list -/
theorem count_le {p q : Nat → Bool} (h : ∀ x, p x = true → q x = true) : ∀ l : List Nat, (l.filter p).length ≤ (l.filter q).length
  | [] => Nat.le_refl _
  | x :: l => by
    have ih := count_le h l
    rw [List.filter_cons, List.filter_cons]
    by_cases hp : p x = true
    · rw [if_pos hp, if_pos (h x hp)]; simpa using ih
    · rw [if_neg hp]
      split
      · simp only [List.length_cons]; omega
      · exact ih
theorem count_lt {p q : Nat → Bool} (h : ∀ x, p x = true → q x = true) {l : List Nat} {z : Nat} (hz : z ∈ l) (hq : q z = true) (hp : ¬ p z = true) : (l.filter p).length < (l.filter q).length := by
  induction l with
  | nil => cases hz
  | cons x l ih =>
    rw [List.filter_cons, List.filter_cons]
    rcases List.mem_cons.1 hz with rfl | hz
    · rw [if_neg hp, if_pos hq]
      have := count_le h l
      simp only [List.length_cons]; omega
    · have := ih hz
      by_cases hpx : p x = true
      · rw [if_pos hpx, if_pos (h x hpx)]
        simp only [List.length_cons]; omega
      · rw [if_neg hpx]
        split
        · simp only [List.length_cons]; omega
        · exact this

open Classical in
/-- A WAY THAT NEVER ENDS COMES BACK -/
theorem ring_is (n : Nat) (R : Nat → Nat → Prop) (P : Nat → Prop) (hP : ∀ a, P a → a < n ∧ ∃ b, P b ∧ R a b) {a0 : Nat} (h0 : P a0) : ∃ c d, P c ∧ P d ∧ R c d ∧ Rch (fun a b => R a b ∧ P b) d c := by
  refine Classical.byContradiction fun hno => ?_
  -- from whom one comes to
  have down : ∀ m a, P a → ((List.range n).filter fun x => decide (∃ b, P b ∧ R a b ∧ Rch (fun a b => R a b ∧ P b) b x)).length = m → False := by
    intro m
    induction m using Nat.strongRecOn with
    | ind m ih =>
      intro a ha hm
      obtain ⟨_, b, hb, hab⟩ := hP a ha
      obtain ⟨hbn, _⟩ := hP b hb
      refine ih _ ?_ b hb rfl
      rw [← hm]
      refine count_lt (z := b) (fun x hx => ?_) (List.mem_range.2 hbn) ?_ ?_
      · obtain ⟨d, hd, hbd, hdx⟩ := of_decide_eq_true hx
        exact decide_eq_true ⟨b, hb, hab, .step ⟨hbd, hd⟩ hdx⟩
      · exact decide_eq_true ⟨b, hb, hab, .refl b⟩
      · intro hx
        obtain ⟨d, hd, hbd, hdx⟩ := of_decide_eq_true hx
        exact hno ⟨b, d, hb, hd, hbd, hdx⟩
  exact down _ a0 h0 rfl

/-- of steps of two kinds, one of which rises: a way that goes back goes by the other kind -/
theorem step_out {E K R : Nat → Nat → Prop} (hR : ∀ a b, R a b → E a b ∨ K a b) (hK : ∀ a b, K a b → a < b) {a b : Nat} (h : Rch R a b) : a ≤ b ∨ ∃ u v, Rch R a u ∧ E u v ∧ R u v ∧ Rch R v b := by
  induction h with
  | refl => exact .inl (Nat.le_refl _)
  | @step a b c r h ih =>
    rcases hR a b r with e | k
    · exact .inr ⟨a, b, .refl a, e, r, h⟩
    · rcases ih with h1 | ⟨u, v, h1, h2, h3, h4⟩
      · exact .inl (by have := hK a b k; omega)
      · exact .inr ⟨u, v, .step r h1, h2, h3, h4⟩
theorem ring_out {E K R : Nat → Nat → Prop} (hR : ∀ a b, R a b → E a b ∨ K a b) (hK : ∀ a b, K a b → a < b) {c d : Nat} (hcd : R c d) (h : Rch R d c) : ∃ u v, E u v ∧ R u v ∧ Rch R v u := by
  rcases hR c d hcd with e | k
  · exact ⟨c, d, e, hcd, h⟩
  · have hlt := hK c d k
    rcases step_out hR hK h with h1 | ⟨u, v, h1, h2, h3, h4⟩
    · omega
    · exact ⟨u, v, h2, h3, h4.trans (.step hcd h1)⟩
end Go.Proofs.YtbokhhialfbjcaaGreat

namespace Go.Proofs.YtbokhhialfbjcaaGreat
set_option maxRecDepth 100000
set_option linter.unusedVariables false

structure Wn where
  x : Nat
  b : Int
  m : Int

/-- is the second held up by the first? -/
def upB (T : Tr) (L : List Lk) (a w : Wn) : Bool := decide (a.b = w.b) && (decide (a.m = 2) || decide (w.m = 2)) && !((agL T a.x a.b a.m L).any fun u => T.stands (w.x : Int) (u : Int))
/-- for whom a want waits, with these ahead -/
def outL (T : Tr) (L : List Lk) (P : List Wn) (w : Wn) : List Nat := agL T w.x w.b w.m L ++ (P.filter fun a => upB T L a w).map fun a => a.x
def Q0 : Wn := ⟨0, 0, 0⟩
def outN (T : Tr) (L : List Lk) (Q : List Wn) (i : Nat) : List Nat := outL T L (Q.take i) (Q.getD i Q0)
/-- the edges of the first k wants, those of them that are ready -/
def edgN (T : Tr) (L : List Lk) (Q : List Wn) (k : Nat) : List (Nat × Nat) := (List.range k).flatMap fun i => (outN T L Q i).map fun y => ((Q.getD i Q0).x, y)
def rdyN (T : Tr) (L : List Lk) (Q : List Wn) (k : Nat) : List Wn := ((List.range k).filter fun i => (outN T L Q i).isEmpty).map fun i => Q.getD i Q0
def edgL (T : Tr) (L : List Lk) (Q : List Wn) : List (Nat × Nat) := edgN T L Q Q.length
def rdyL (T : Tr) (L : List Lk) (Q : List Wn) : List Wn := rdyN T L Q Q.length

theorem edgN_succ (T : Tr) (L : List Lk) (Q : List Wn) (k : Nat) : edgN T L Q (k + 1) = edgN T L Q k ++ (outN T L Q k).map fun y => ((Q.getD k Q0).x, y) := by
  unfold edgN
  rw [List.range_succ, List.flatMap_append]; simp
theorem rdyN_succ (T : Tr) (L : List Lk) (Q : List Wn) (k : Nat) : rdyN T L Q (k + 1) = if outN T L Q k = [] then rdyN T L Q k ++ [Q.getD k Q0] else rdyN T L Q k := by
  unfold rdyN
  rw [List.range_succ, List.filter_append, List.map_append]
  by_cases h : outN T L Q k = []
  · rw [if_pos h]; simp [h]
  · rw [if_neg h]; simp [h]
theorem edgL_mem {T : Tr} {L : List Lk} {Q : List Wn} {a b : Nat} : (a, b) ∈ edgL T L Q ↔ ∃ i, i < Q.length ∧ (Q.getD i Q0).x = a ∧ b ∈ outN T L Q i := by
  unfold edgL edgN
  simp only [List.mem_flatMap, List.mem_range, List.mem_map, Prod.mk.injEq]
  constructor
  · rintro ⟨i, hi, y, hy, e1, e2⟩
    exact ⟨i, hi, e1, e2 ▸ hy⟩
  · rintro ⟨i, hi, e1, hy⟩
    exact ⟨i, hi, b, hy, e1, rfl⟩
theorem getD_mem {Q : List Wn} {i : Nat} (h : i < Q.length) : Q.getD i Q0 ∈ Q := by
  rw [List.getD_eq_getElem?_getD, List.getElem?_eq_getElem h]
  exact List.getElem_mem h
theorem mem_getD {Q : List Wn} {w : Wn} (h : w ∈ Q) : ∃ i, i < Q.length ∧ Q.getD i Q0 = w := by
  obtain ⟨i, hi, e⟩ := List.getElem_of_mem h
  refine ⟨i, hi, ?_⟩
  rw [List.getD_eq_getElem?_getD, List.getElem?_eq_getElem hi]; exact e
theorem rdyL_none {T : Tr} {L : List Lk} {Q : List Wn} : rdyL T L Q = [] ↔ ∀ i, i < Q.length → outN T L Q i ≠ [] := by
  unfold rdyL rdyN
  rw [List.map_eq_nil_iff, List.filter_eq_nil_iff]
  simp

/-! ### who waits on whom -/
def kidOf (T : Tr) (a b : Nat) : Prop := (T.tx a).s = 1 ∧ (T.tx b).s = 1 ∧ (T.tx b).p = a
def onR (T : Tr) (E : List (Nat × Nat)) (a b : Nat) : Prop := (a < T.l.length ∧ b < T.l.length) ∧ ((a, b) ∈ E ∨ kidOf T a b)
/-- by an edge of one's own first, then by what waits on what -/
def stuckR (T : Tr) (E : List (Nat × Nat)) (x : Nat) : Prop := ∃ y, (x, y) ∈ E ∧ x < T.l.length ∧ y < T.l.length ∧ Rch (onR T E) y x
open Classical in
noncomputable def stuckN (T : Tr) (E : List (Nat × Nat)) (k : Nat) : List Nat := (List.range k).filter fun x => decide (stuckR T E x)
noncomputable def stuckL (T : Tr) (E : List (Nat × Nat)) : List Nat := stuckN T E T.l.length
open Classical in
theorem stuckN_succ (T : Tr) (E : List (Nat × Nat)) (k : Nat) : (stuckR T E k → stuckN T E (k + 1) = stuckN T E k ++ [k]) ∧ (¬ stuckR T E k → stuckN T E (k + 1) = stuckN T E k) := by
  unfold stuckN
  rw [List.range_succ, List.filter_append]
  refine ⟨fun h => ?_, fun h => ?_⟩ <;> simp [h]
open Classical in
theorem stuckL_mem {T : Tr} {E : List (Nat × Nat)} {x : Nat} : x ∈ stuckL T E ↔ stuckR T E x := by
  unfold stuckL stuckN
  rw [List.mem_filter, List.mem_range, decide_eq_true_eq]
  exact ⟨fun h => h.2, fun h => ⟨by obtain ⟨y, _, h2, _⟩ := h; exact h2, h⟩⟩
theorem stuckL_none {T : Tr} {E : List (Nat × Nat)} : stuckL T E = [] ↔ ∀ x, ¬ stuckR T E x := by
  constructor
  · intro h x hx
    have := stuckL_mem.2 hx
    rw [h] at this; cases this
  · intro h
    refine List.eq_nil_iff_forall_not_mem.2 fun x hx => h x (stuckL_mem.1 hx)
/-- by rungs that rise nobody comes back -/
theorem stuck_rise {T : Tr} {E : List (Nat × Nat)} (f : Nat → Nat) (hE : ∀ a b, (a, b) ∈ E → f a < f b) (hK : ∀ a b, a < T.l.length → b < T.l.length → kidOf T a b → f a < f b) (x : Nat) : ¬ stuckR T E x := by
  rintro ⟨y, h1, h2, h3, h4⟩
  have := hE x y h1
  have := h4.up (f := f) fun a b h => by
    rcases h.2 with h5 | h5
    · exact hE a b h5
    · exact hK a b h.1.1 h.1.2 h5
  omega

/-! ### what stays -/
structure Wt (T : Tr) (L : List Lk) (Q : List Wn) : Prop where
  apt : Apt T L
  live : ∀ w ∈ Q, w.x < T.l.length ∧ (T.tx w.x).s = 1
  may : ∀ w ∈ Q, (0 ≤ w.b ∧ w.b ≤ 255) ∧ (w.m = 1 ∨ w.m = 2)
  one : Q.Pairwise fun a w => a.x ≠ w.x
  few : Q.length ≤ 64

theorem wt_nil : Wt ⟨[], 0⟩ [] [] := ⟨apt_nil, by simp, by simp, List.Pairwise.nil, by simp⟩

/-- whom an edge leads to is Live -/
theorem Wt.outs {T : Tr} {L : List Lk} {Q : List Wn} (h : Wt T L Q) {i y : Nat} (hy : y ∈ outN T L Q i) : y < T.l.length ∧ (T.tx y).s = 1 := by
  unfold outN outL at hy
  rcases List.mem_append.1 hy with hy | hy
  · obtain ⟨z, hz, hzx, _⟩ := agL_mem hy
    obtain ⟨j, e, hj, hs⟩ := h.apt.live z hz
    have : j = y := by omega
    subst this
    exact ⟨hj, hs⟩
  · obtain ⟨a, ha, e⟩ := List.mem_map.1 hy
    have ha := List.mem_of_mem_take (List.mem_filter.1 ha).1
    rw [← e]
    exact h.live a ha
theorem Wt.edge {T : Tr} {L : List Lk} {Q : List Wn} (h : Wt T L Q) {a b : Nat} (he : (a, b) ∈ edgL T L Q) : (∃ w ∈ Q, w.x = a) ∧ a < T.l.length ∧ (T.tx a).s = 1 ∧ b < T.l.length ∧ (T.tx b).s = 1 := by
  obtain ⟨i, hi, e, hb⟩ := edgL_mem.1 he
  have hw := getD_mem hi
  have h1 := h.live _ hw
  have h2 := h.outs hb
  rw [e] at h1
  exact ⟨⟨_, hw, e⟩, h1.1, h1.2, h2.1, h2.2⟩
/-- who is stuck waits -/
theorem Wt.stuck {T : Tr} {L : List Lk} {Q : List Wn} (h : Wt T L Q) {x : Nat} (hx : stuckR T (edgL T L Q) x) : (∃ w ∈ Q, w.x = x) ∧ x < T.l.length ∧ (T.tx x).s = 1 := by
  obtain ⟨y, h1, _⟩ := hx
  have := h.edge h1
  exact ⟨this.1, this.2.1, this.2.2.1⟩

/-- one can go on that waits for nothing -/
def leafR (T : Tr) (Q : List Wn) (x : Nat) : Prop := x < T.l.length ∧ (T.tx x).s = 1 ∧ (∀ w ∈ Q, w.x ≠ x) ∧ ∀ k, k < T.l.length → (T.tx k).p = x → (T.tx k).s ≠ 1

/-- WHO IS NOT STUCK GOES ON -/
theorem Wt.goes {T : Tr} {L : List Lk} {Q : List Wn} (h : Wt T L Q) (hq : Q ≠ []) (hs : ∀ x, ¬ stuckR T (edgL T L Q) x) : (∃ x, leafR T Q x) ∨ rdyL T L Q ≠ [] := by
  refine Classical.byContradiction fun hno => ?_
  have hl : ∀ x, ¬ leafR T Q x := fun x hx => hno (.inl ⟨x, hx⟩)
  have hr : rdyL T L Q = [] := Classical.byContradiction fun e => hno (.inr e)
  have hr := rdyL_none.1 hr
  obtain ⟨w0, hw0⟩ : ∃ w, w ∈ Q := by
    cases Q with
    | nil => exact absurd rfl hq
    | cons w Q => exact ⟨w, by simp⟩
  have h0 := h.live w0 hw0
  obtain ⟨c, d, hc, hd, hcd, hback⟩ := ring_is T.l.length (onR T (edgL T L Q)) (fun a => a < T.l.length ∧ (T.tx a).s = 1) (fun a ha => by
    refine ⟨ha.1, ?_⟩
    by_cases hwa : ∃ w ∈ Q, w.x = a
    · obtain ⟨w, hw, e⟩ := hwa
      obtain ⟨i, hi, ei⟩ := mem_getD hw
      obtain ⟨y, hy⟩ := List.exists_mem_of_ne_nil _ (hr i hi)
      have hyl := h.outs hy
      exact ⟨y, hyl, ⟨ha.1, hyl.1⟩, .inl (edgL_mem.2 ⟨i, hi, by rw [ei, e], hy⟩)⟩
    · have hnl := hl a
      refine Classical.byContradiction fun hnk => hnl ⟨ha.1, ha.2, fun w hw e => hwa ⟨w, hw, e⟩, fun k hk hp hks => hnk ?_⟩
      exact ⟨k, ⟨hk, hks⟩, ⟨ha.1, hk⟩, .inr ⟨ha.2, hks, hp⟩⟩) (a0 := w0.x) h0
  have hback : Rch (onR T (edgL T L Q)) d c := hback.mono fun a b hab => hab.1
  obtain ⟨u, v, e, huv, hvu⟩ := ring_out (E := fun a b => (a, b) ∈ edgL T L Q) (K := fun a b => b < T.l.length ∧ kidOf T a b) (fun a b hab => by
    rcases hab.2 with h1 | h1
    · exact .inl h1
    · exact .inr ⟨hab.1.2, h1⟩) (fun a b hk => by
      have := h.apt.good.par b hk.1
      have := hk.2.2.2
      omega) hcd hback
  exact hs u ⟨v, e, huv.1.1, huv.1.2, hvu⟩

/-! ### what is done -/
theorem Wt.begun {T : Tr} {L : List Lk} {Q : List Wn} (h : Wt T L Q) {p : Int} (m : MayBegin T p) : Wt (T.begun p) L Q :=
  ⟨h.apt.begun m, fun w hw => by
    have := h.live w hw
    exact ⟨by rw [len_begun]; omega, by rw [tx_begun this.1]; exact this.2⟩, h.may, h.one, h.few⟩
theorem Wt.done {T : Tr} {L : List Lk} {Q : List Wn} (h : Wt T L Q) {id : Nat} (m : MayDo T id) (hw : ∀ w ∈ Q, w.x ≠ id) : Wt (T.done id) (passL L (id : Int) (T.tx id).p) Q :=
  ⟨h.apt.done m, fun w hq => by
    have := h.live w hq
    have hl : (T.done id).l.length = T.l.length := len_turned
    exact ⟨by omega, by rw [done_out this.1 (hw w hq)]; exact this.2⟩, h.may, h.one, h.few⟩
def dropL (Q : List Wn) (l : List Nat) : List Wn := Q.filter fun w => !l.any fun i => decide (i = w.x)
theorem dropL_mem {Q : List Wn} {l : List Nat} {w : Wn} : w ∈ dropL Q l ↔ w ∈ Q ∧ w.x ∉ l := by
  unfold dropL
  rw [List.mem_filter]
  simp only [Bool.not_eq_true', List.any_eq_false, decide_eq_true_eq]
  refine and_congr_right fun _ => ⟨fun h hm => h _ hm rfl, fun h i hi e => h (e ▸ hi)⟩
theorem Wt.undone {T : Tr} {L : List Lk} {Q : List Wn} (h : Wt T L Q) {id : Nat} : Wt (T.undone id) (freeL L (inL (T.gone id T.l.length))) (dropL Q (T.gone id T.l.length)) :=
  ⟨h.apt.undone, fun w hq => by
    obtain ⟨h1, h2⟩ := dropL_mem.1 hq
    have h3 := h.live w h1
    have hl : (T.undone id).l.length = T.l.length := len_turned
    refine ⟨by omega, ?_⟩
    have hn : ¬ T.inn id w.x := fun hin => h2 (by
      unfold Tr.gone
      rw [List.mem_filter]
      exact ⟨mem_kin h3.1 hin, by simp [h3.2]⟩)
    rw [undone_out h3.1 hn]; exact h3.2, fun w hq => h.may w (dropL_mem.1 hq).1, h.one.filter _, by have := List.length_filter_le (fun w : Wn => !(T.gone id T.l.length).any fun i => decide (i = w.x)) Q; have := h.few; unfold dropL; omega⟩
theorem Wt.ask {T : Tr} {L : List Lk} {Q : List Wn} (h : Wt T L Q) {tx b md : Int} (hb : 0 ≤ b ∧ b ≤ 255) (hmd : md = 1 ∨ md = 2) (he : askE T L tx b md = 0) : Wt T (ins L ⟨b, tx, md, 0⟩) Q :=
  ⟨h.apt.ask hb hmd he, h.live, h.may, h.one, h.few⟩
theorem Wt.add {T : Tr} {L : List Lk} {Q : List Wn} (h : Wt T L Q) {x : Nat} {b md : Int} (hx : x < T.l.length) (hs : (T.tx x).s = 1) (hb : 0 ≤ b ∧ b ≤ 255) (hmd : md = 1 ∨ md = 2) (hn : ∀ w ∈ Q, w.x ≠ x) (hf : Q.length < 64) : Wt T L (Q ++ [⟨x, b, md⟩]) :=
  ⟨h.apt, fun w hq => by
    rcases List.mem_append.1 hq with hq | hq
    · exact h.live w hq
    · simp at hq; subst hq; exact ⟨hx, hs⟩, fun w hq => by
    rcases List.mem_append.1 hq with hq | hq
    · exact h.may w hq
    · simp at hq; subst hq; exact ⟨hb, hmd⟩, List.pairwise_append.2 ⟨h.one, by simp, fun a ha w hw => by simp at hw; subst hw; exact hn a ha⟩, by simp; omega⟩

/-! ### who is given up -/
/-- how many are Live -/
def liveN (T : Tr) : Nat := ((List.range T.l.length).filter fun i => decide ((T.tx i).s = 1)).length
theorem live_le (T : Tr) : liveN T ≤ T.l.length := by
  unfold liveN
  have := List.length_filter_le (fun i => decide ((T.tx i).s = 1)) (List.range T.l.length)
  simpa using this
theorem live_less {T : Tr} {id : Nat} (h : id < T.l.length) (hs : (T.tx id).s = 1) : liveN (T.undone id) < liveN T := by
  have hl : (T.undone id).l.length = T.l.length := len_turned
  unfold liveN
  rw [hl]
  have key : ∀ l : List Nat, (∀ x ∈ l, x < T.l.length) → id ∈ l → (l.filter fun i => decide (((T.undone id).tx i).s = 1)).length < (l.filter fun i => decide ((T.tx i).s = 1)).length := by
    intro l hll hid
    have e : (l.filter fun i => decide (((T.undone id).tx i).s = 1)) = l.filter fun i => decide (i < T.l.length) && decide (((T.undone id).tx i).s = 1) := List.filter_congr fun x hx => by simp [hll x hx]
    have e2 : (l.filter fun i => decide ((T.tx i).s = 1)) = l.filter fun i => decide (i < T.l.length) && decide ((T.tx i).s = 1) := List.filter_congr fun x hx => by simp [hll x hx]
    rw [e, e2]
    refine count_lt (z := id) (fun x hx => ?_) hid (by simp [h, hs]) (by simp [undone_in h (wayN_self _ _)])
    simp only [Bool.and_eq_true, decide_eq_true_eq] at hx ⊢
    refine ⟨hx.1, ?_⟩
    by_cases hin : T.inn id x
    · have := undone_in hx.1 hin
      omega
    · rw [← undone_out hx.1 hin]; exact hx.2
  exact key _ (fun x hx => List.mem_range.1 hx) (List.mem_range.2 h)
theorem Wt.given {T : Tr} {L : List Lk} {Q : List Wn} (h : Wt T L Q) {x : Nat} (hx : x < T.l.length) (hs : (T.tx x).s = 1) : ∀ w ∈ dropL Q (T.gone x T.l.length), w.x ≠ x := by
  intro w hw e
  refine (dropL_mem.1 hw).2 ?_
  rw [e]
  unfold Tr.gone
  rw [List.mem_filter]
  exact ⟨mem_kin hx (wayN_self _ _), by simp [hs]⟩

/-! ### who is ready -/
theorem Wt.ready {T : Tr} {L : List Lk} {Q : List Wn} (h : Wt T L Q) {i : Nat} (hi : i < Q.length) (hr : outN T L Q i = []) : askE T L (Q.getD i Q0).x (Q.getD i Q0).b (Q.getD i Q0).m = 0 := by
  have h1 := h.live _ (getD_mem hi)
  unfold outN outL at hr
  have h2 := (List.append_eq_nil_iff.1 hr).1
  unfold askE
  rw [if_pos (by omega), if_pos (by simpa using h1.2), if_pos h2]
theorem Wt.first {T : Tr} {L : List Lk} {Q : List Wn} (h : Wt T L Q) {i : Nat} (hi : i < Q.length) (hf : ∀ j, j < i → (Q.getD j Q0).b ≠ (Q.getD i Q0).b) (ha : agL T (Q.getD i Q0).x (Q.getD i Q0).b (Q.getD i Q0).m L = []) : outN T L Q i = [] := by
  unfold outN outL
  rw [ha, List.nil_append, List.map_eq_nil_iff, List.filter_eq_nil_iff]
  intro a ha2
  obtain ⟨j, hj, e⟩ := List.getElem_of_mem ha2
  rw [List.getElem_take] at e
  have hji : j < i := by rw [List.length_take] at hj; omega
  have : Q.getD j Q0 = a := by rw [List.getD_eq_getElem?_getD, List.getElem?_eq_getElem (by omega)]; exact e
  have := hf j hji
  unfold upB
  simp_all
end Go.Proofs.YtbokhhialfbjcaaGreat

namespace Go.Proofs.YtbokhhialfbjcaaGreat
set_option maxRecDepth 100000
set_option linter.unusedVariables false

/-- so many top ones, all Live -/
structure Tops (T : Tr) (i : Nat) : Prop where
  good : Good T
  n : T.l.length = i
  c : T.c = i
  each : ∀ j, j < i → (T.tx j).p = -1 ∧ (T.tx j).s = 1
theorem tops_nil : Tops ⟨[], 0⟩ 0 := ⟨good_nil, rfl, rfl, fun j h => absurd h (Nat.not_lt_zero _)⟩
theorem Tops.way {T : Tr} {i : Nat} (h : Tops T i) {j : Nat} (hj : j < i) : wayN T.par j = [j] := wayN_top (by show (T.tx j).p < 0; rw [(h.each j hj).1]; decide)
theorem Tops.may {T : Tr} {i : Nat} (h : Tops T i) (hi : i ≤ 60) : MayBegin T (-1) := ⟨.inl rfl, by rw [h.n]; omega, by rw [Tr.way_none (by omega)]; decide⟩
theorem Tops.begun {T : Tr} {i : Nat} (h : Tops T i) (hi : i ≤ 60) : Tops (T.begun (-1)) (i + 1) := by
  refine ⟨h.good.begun (h.may hi), by rw [len_begun, h.n], by show T.c + 1 = _; rw [h.c]; omega, fun j hj => ?_⟩
  rcases Nat.lt_or_ge j i with hlt | hge
  · rw [tx_begun (by rw [h.n]; exact hlt)]; exact h.each j hlt
  · obtain rfl : j = i := by omega
    have := tx_begun_new (T := T) (p := -1)
    rw [h.n] at this
    rw [this]; exact ⟨rfl, rfl⟩
theorem Tops.stands {T : Tr} {k : Nat} (h : Tops T k) {i : Nat} (hi : i < k) (j : Nat) : T.stands (i : Int) (j : Int) = decide (j = i) := by
  rw [stands_nat (by rw [h.n]; exact hi), decide_eq_decide]
  unfold Tr.inn
  rw [h.way hi]
  simp
theorem Tops.kid {T : Tr} {k : Nat} (h : Tops T k) {a b : Nat} (hb : b < T.l.length) : ¬ kidOf T a b := by
  rintro ⟨_, _, h1⟩
  have := (h.each b (by rw [← h.n]; exact hb)).1
  omega
theorem Tops.rise {T : Tr} {k : Nat} (h : Tops T k) {E : List (Nat × Nat)} (f : Nat → Nat) (hE : ∀ a b, (a, b) ∈ E → f a < f b) : stuckL T E = [] :=
  stuckL_none.2 (stuck_rise f hE fun a b _ hb hk => absurd hk (h.kid hb))

theorem agL_iff {T : Tr} {tx b md : Int} {L : List Lk} {z : Nat} : z ∈ agL T tx b md L ↔ ∃ y ∈ L, y.x.toNat = z ∧ y.b = b ∧ exc md y.s = true ∧ T.stands tx y.x = false := by
  refine ⟨agL_mem, ?_⟩
  rintro ⟨y, hy, h1, h2, h3, h4⟩
  unfold agL hit
  refine List.mem_map.2 ⟨y, List.mem_filter.2 ⟨hy, ?_⟩, h1⟩
  rw [h3, h4]; simp [h2]
theorem outN_iff {T : Tr} {L : List Lk} {Q : List Wn} {i y : Nat} (hi : i < Q.length) : y ∈ outN T L Q i ↔ y ∈ agL T (Q.getD i Q0).x (Q.getD i Q0).b (Q.getD i Q0).m L ∨ ∃ j, j < i ∧ upB T L (Q.getD j Q0) (Q.getD i Q0) = true ∧ (Q.getD j Q0).x = y := by
  unfold outN outL
  rw [List.mem_append, List.mem_map]
  refine or_congr_right ⟨?_, ?_⟩
  · rintro ⟨a, ha, e⟩
    obtain ⟨h1, h2⟩ := List.mem_filter.1 ha
    obtain ⟨j, hj, ej⟩ := List.getElem_of_mem h1
    rw [List.getElem_take] at ej
    have hji : j < i := by rw [List.length_take] at hj; omega
    have : Q.getD j Q0 = a := by rw [List.getD_eq_getElem?_getD, List.getElem?_eq_getElem (by omega)]; exact ej
    exact ⟨j, hji, by rw [this]; exact h2, by rw [this]; exact e⟩
  · rintro ⟨j, hj, h1, h2⟩
    refine ⟨Q.getD j Q0, List.mem_filter.2 ⟨?_, h1⟩, h2⟩
    rw [List.getD_eq_getElem?_getD, List.getElem?_eq_getElem (by omega)]
    refine List.mem_iff_getElem.2 ⟨j, by rw [List.length_take]; omega, ?_⟩
    rw [List.getElem_take]; rfl

/-! ### a ring -/
/-- each writes a block of its own -/
def wrL (i : Nat) : List Lk := (List.range i).map fun (j : Nat) => (⟨(j : Int), (j : Int), 2, 0⟩ : Lk)
theorem wrL_succ (i : Nat) : wrL (i + 1) = wrL i ++ [⟨(i : Int), (i : Int), 2, 0⟩] := by unfold wrL; rw [List.range_succ, List.map_append]; rfl
theorem wrL_mem {i : Nat} {y : Lk} : y ∈ wrL i ↔ ∃ j : Nat, j < i ∧ y = ⟨(j : Int), (j : Int), 2, 0⟩ := by
  unfold wrL
  rw [List.mem_map]
  exact ⟨fun ⟨j, hj, e⟩ => ⟨j, List.mem_range.1 hj, e.symm⟩, fun ⟨j, hj, e⟩ => ⟨j, List.mem_range.2 hj, e.symm⟩⟩
theorem wrL_len (i : Nat) : (wrL i).length = i := by unfold wrL; simp
theorem lg_wrL (i : Nat) (hi : i ≤ 64) : LG (wrL i) := by
  refine ⟨fun y hy => ?_, ?_⟩
  · obtain ⟨j, hj, rfl⟩ := wrL_mem.1 hy
    exact ⟨by show 0 ≤ (j : Int) ∧ (j : Int) ≤ 255; omega, by show 0 ≤ (j : Int) ∧ (j : Int) ≤ 63; omega, by show (0 : Int) ≤ 2 ∧ (2 : Int) ≤ 2; decide, ⟨Int.le_refl 0, show (0 : Int) ≤ 2 by decide⟩, by show (0 : Int) < max 2 0; decide⟩
  · unfold wrL
    rw [List.pairwise_map]
    refine List.Pairwise.imp (fun {a b} h => ?_) List.pairwise_lt_range
    unfold Lk.q
    show (a : Int) * 64 + (a : Int) < (b : Int) * 64 + (b : Int)
    omega
theorem ins_wrL (i : Nat) : ins (wrL i) ⟨(i : Int), (i : Int), 2, 0⟩ = wrL (i + 1) := by
  rw [wrL_succ]
  refine ins_end fun y hy => ?_
  obtain ⟨j, hj, rfl⟩ := wrL_mem.1 hy
  unfold Lk.q
  show (j : Int) * 64 + (j : Int) < (i : Int) * 64 + (i : Int)
  omega
theorem ask_wrL {T : Tr} {i : Nat} (h : Tops T (i + 1)) : askE T (wrL i) (i : Int) (i : Int) 2 = 0 := by
  unfold askE
  rw [if_pos (by rw [h.n]; omega), if_pos (by simpa using (h.each i (by omega)).2), if_pos (agL_none fun y hy => by
    obtain ⟨j, hj, rfl⟩ := wrL_mem.1 hy
    show (j : Int) ≠ (i : Int)
    omega)]

/-- each wants the next one's block -/
def rgQ (k i : Nat) : List Wn := (List.range i).map fun (j : Nat) => (⟨j, (((j + 1) % k : Nat) : Int), 1⟩ : Wn)
theorem rgQ_succ (k i : Nat) : rgQ k (i + 1) = rgQ k i ++ [⟨i, (((i + 1) % k : Nat) : Int), 1⟩] := by unfold rgQ; rw [List.range_succ, List.map_append]; rfl
theorem rgQ_len (k i : Nat) : (rgQ k i).length = i := by unfold rgQ; simp
theorem rgQ_get {k i j : Nat} (hj : j < i) : (rgQ k i).getD j Q0 = ⟨j, (((j + 1) % k : Nat) : Int), 1⟩ := by
  unfold rgQ
  rw [List.getD_eq_getElem?_getD, List.getElem?_map, List.getElem?_range hj]; rfl
theorem rgQ_mem {k i : Nat} {w : Wn} (h : w ∈ rgQ k i) : ∃ j, j < i ∧ w = ⟨j, (((j + 1) % k : Nat) : Int), 1⟩ := by
  unfold rgQ at h
  obtain ⟨j, hj, rfl⟩ := List.mem_map.1 h
  exact ⟨j, List.mem_range.1 hj, rfl⟩
theorem next_ne {k j : Nat} (hk : 2 ≤ k) (hj : j < k) : (j + 1) % k ≠ j := by
  by_cases h : j + 1 = k
  · rw [h, Nat.mod_self]; omega
  · rw [Nat.mod_eq_of_lt (by omega)]; omega
theorem ag_wrL {T : Tr} {k : Nat} (h : Tops T k) {i b y : Nat} (hi : i < k) : y ∈ agL T (i : Int) (b : Int) 1 (wrL k) ↔ y = b ∧ b < k ∧ b ≠ i := by
  rw [agL_iff]
  constructor
  · rintro ⟨z, hz, h1, h2, h3, h4⟩
    obtain ⟨j, hj, rfl⟩ := wrL_mem.1 hz
    have h4' : T.stands (i : Int) (j : Int) = false := h4
    rw [h.stands hi, decide_eq_false_iff_not] at h4'
    have h1' : ((j : Int)).toNat = y := h1
    have h2' : (j : Int) = (b : Int) := h2
    omega
  · rintro ⟨rfl, h1, h2⟩
    refine ⟨⟨(y : Int), (y : Int), 2, 0⟩, wrL_mem.2 ⟨y, h1, rfl⟩, by simp, rfl, rfl, ?_⟩
    show T.stands (i : Int) (y : Int) = false
    rw [h.stands hi]; simpa using h2
theorem up_read {T : Tr} {L : List Lk} {a w : Wn} (ha : a.m = 1) (hw : w.m = 1) : upB T L a w = false := by
  unfold upB
  rw [ha, hw]; simp
theorem out_ring {T : Tr} {k : Nat} (h : Tops T k) (hk : 2 ≤ k) {i y : Nat} (hi : i < k) : y ∈ outN T (wrL k) (rgQ k k) i ↔ y = (i + 1) % k := by
  rw [outN_iff (by rw [rgQ_len]; exact hi), rgQ_get hi]
  constructor
  · rintro (h1 | ⟨j, hj, h1, _⟩)
    · exact ((ag_wrL h hi).1 h1).1
    · rw [rgQ_get (by omega), up_read rfl rfl] at h1
      cases h1
  · intro e
    exact .inl ((ag_wrL h hi).2 ⟨e, Nat.mod_lt _ (by omega), next_ne hk hi⟩)
theorem edge_ring {T : Tr} {k : Nat} (h : Tops T k) (hk : 2 ≤ k) {a b : Nat} : (a, b) ∈ edgL T (wrL k) (rgQ k k) ↔ a < k ∧ b = (a + 1) % k := by
  rw [edgL_mem]
  constructor
  · rintro ⟨i, hi, e, hb⟩
    rw [rgQ_len] at hi
    rw [rgQ_get hi] at e
    have e : i = a := e
    subst e
    exact ⟨hi, (out_ring h hk hi).1 hb⟩
  · rintro ⟨h1, h2⟩
    exact ⟨a, by rw [rgQ_len]; exact h1, by rw [rgQ_get h1], (out_ring h hk h1).2 h2⟩
theorem ready_ring {T : Tr} {k : Nat} (h : Tops T k) (hk : 2 ≤ k) : rdyL T (wrL k) (rgQ k k) = [] :=
  rdyL_none.2 fun i hi e => by
    rw [rgQ_len] at hi
    have := (out_ring h hk (y := (i + 1) % k) hi).2 rfl
    rw [e] at this
    cases this
/-- round and round -/
theorem round_ring {T : Tr} {k : Nat} (h : Tops T k) (hk : 2 ≤ k) {a : Nat} (ha : a < k) : ∀ m, Rch (onR T (edgL T (wrL k) (rgQ k k))) a ((a + m) % k)
  | 0 => by rw [Nat.add_zero, Nat.mod_eq_of_lt ha]; exact .refl a
  | m + 1 => by
    have hl : (a + m) % k < k := Nat.mod_lt _ (by omega)
    have e : (a + (m + 1)) % k = ((a + m) % k + 1) % k := by rw [Nat.mod_add_mod]; rfl
    refine (round_ring h hk ha m).snoc ⟨⟨by rw [h.n]; exact hl, by rw [h.n]; exact Nat.mod_lt _ (by omega)⟩, .inl ((edge_ring h hk).2 ⟨hl, e⟩)⟩
open Classical in
theorem stuck_ring {T : Tr} {k : Nat} (h : Tops T k) (hk : 2 ≤ k) : stuckL T (edgL T (wrL k) (rgQ k k)) = List.range k := by
  unfold stuckL stuckN
  rw [h.n]
  refine List.filter_eq_self.2 fun a ha => ?_
  rw [decide_eq_true_eq]
  have ha := List.mem_range.1 ha
  have hb : (a + 1) % k < k := Nat.mod_lt _ (by omega)
  refine ⟨(a + 1) % k, (edge_ring h hk).2 ⟨ha, rfl⟩, by rw [h.n]; exact ha, by rw [h.n]; exact hb, ?_⟩
  have := round_ring h hk hb (k - 1)
  have e : ((a + 1) % k + (k - 1)) % k = a := by
    rw [Nat.mod_add_mod, show a + 1 + (k - 1) = a + k by omega, Nat.add_mod_right, Nat.mod_eq_of_lt ha]
  rw [e] at this
  exact this
theorem drop_ring {T : Tr} {k : Nat} (h : Tops T k) (hk : 2 ≤ k) {o : Nat} (ho : o < k) : stuckL T (edgL T (wrL k) (dropL (rgQ k k) [o])) = [] := by
  refine h.rise (fun i => if i ≤ o then i + k else i) fun a b hab => ?_
  obtain ⟨i, hi, e, hb⟩ := edgL_mem.1 hab
  have hw := getD_mem hi
  obtain ⟨h1, h2⟩ := dropL_mem.1 hw
  obtain ⟨j, hj, ej⟩ := rgQ_mem h1
  have all : ∀ w ∈ dropL (rgQ k k) [o], w.m = 1 := fun w hw => by
    obtain ⟨j, _, e⟩ := rgQ_mem (dropL_mem.1 hw).1
    rw [e]
  rw [outN_iff hi] at hb
  rw [ej] at e h2
  have e : j = a := e
  subst e
  have h2 : j ≠ o := fun e => h2 (by simp [e])
  rcases hb with hb | ⟨u, hu, hb, _⟩
  · rw [ej] at hb
    obtain ⟨rfl, _, _⟩ := (ag_wrL h hj).1 hb
    show (if j ≤ o then j + k else j) < if (j + 1) % k ≤ o then (j + 1) % k + k else (j + 1) % k
    by_cases hjk : j + 1 = k
    · rw [hjk, Nat.mod_self, if_neg (by omega), if_pos (by omega)]; omega
    · rw [Nat.mod_eq_of_lt (by omega)]
      by_cases hjo : j ≤ o
      · rw [if_pos hjo, if_pos (by omega)]; omega
      · rw [if_neg hjo, if_neg (by omega)]; omega
  · rw [up_read (all _ (getD_mem (by omega))) (all _ hw)] at hb
    cases hb

/-! ### behind a writer that waits -/
/-- one writer, then readers: all of block 5 -/
def quQ (i : Nat) : List Wn := ⟨1, 5, 2⟩ :: (List.range i).map fun (j : Nat) => (⟨j + 2, 5, 1⟩ : Wn)
theorem quQ_succ (i : Nat) : quQ (i + 1) = quQ i ++ [⟨i + 2, 5, 1⟩] := by unfold quQ; rw [List.range_succ, List.map_append]; rfl
theorem quQ_len (i : Nat) : (quQ i).length = i + 1 := by unfold quQ; simp
theorem quQ_first (i : Nat) : (quQ i).getD 0 Q0 = ⟨1, 5, 2⟩ := rfl
theorem quQ_get {i j : Nat} (hj : j < i) : (quQ i).getD (j + 1) Q0 = ⟨j + 2, 5, 1⟩ := by
  unfold quQ
  rw [List.getD_eq_getElem?_getD, List.getElem?_cons_succ, List.getElem?_map, List.getElem?_range hj]; rfl
def quL : List Lk := [⟨5, 0, 1, 0⟩]
theorem lg_quL : LG quL := ⟨fun y hy => by
  have e : y = ⟨5, 0, 1, 0⟩ := by simpa [quL] using hy
  subst e
  exact ⟨by show (0 : Int) ≤ 5 ∧ (5 : Int) ≤ 255; decide, by show (0 : Int) ≤ 0 ∧ (0 : Int) ≤ 63; decide, by show (0 : Int) ≤ 1 ∧ (1 : Int) ≤ 2; decide, by show (0 : Int) ≤ 0 ∧ (0 : Int) ≤ 2; decide, by show (0 : Int) < max 1 0; decide⟩, by unfold quL; simp⟩
theorem ag_write {T : Tr} {k : Nat} (h : Tops T k) {i y : Nat} (hi : i < k) : y ∈ agL T (i : Int) 5 2 quL ↔ y = 0 ∧ i ≠ 0 := by
  rw [agL_iff]
  constructor
  · rintro ⟨z, hz, h1, h2, h3, h4⟩
    have e : z = ⟨5, 0, 1, 0⟩ := by simpa [quL] using hz
    subst e
    have h4' : T.stands (i : Int) ((0 : Nat) : Int) = false := h4
    rw [h.stands hi, decide_eq_false_iff_not] at h4'
    have h1' : (0 : Int).toNat = y := h1
    have : y = 0 := by rw [← h1']; rfl
    omega
  · rintro ⟨rfl, h1⟩
    refine ⟨⟨5, 0, 1, 0⟩, by simp [quL], rfl, rfl, by decide, ?_⟩
    show T.stands (i : Int) ((0 : Nat) : Int) = false
    rw [h.stands hi, decide_eq_false_iff_not]; omega
theorem ag_read (T : Tr) (x : Int) : agL T x 5 1 quL = [] := by
  refine List.eq_nil_iff_forall_not_mem.2 fun y hy => ?_
  obtain ⟨z, hz, _, _, h3, _⟩ := agL_iff.1 hy
  have e : z = ⟨5, 0, 1, 0⟩ := by simpa [quL] using hz
  subst e
  exact absurd h3 (by decide)
theorem up_write {T : Tr} {k : Nat} (h : Tops T k) (hk : 3 ≤ k) {x : Nat} (hx : x < k) (h0 : x ≠ 0) (m : Int) : upB T quL ⟨1, 5, 2⟩ ⟨x, 5, m⟩ = true := by
  unfold upB
  have : ((agL T (1 : Nat) 5 2 quL).any fun u => T.stands (x : Int) (u : Int)) = false := by
    rw [List.any_eq_false]
    intro u hu
    obtain ⟨rfl, _⟩ := (ag_write h (i := 1) (by omega)).1 hu
    rw [h.stands hx]
    simpa using fun e : 0 = x => h0 e.symm
  show (decide ((5 : Int) = 5) && (decide ((2 : Int) = 2) || decide (m = 2)) && !((agL T ((1 : Nat) : Int) 5 2 quL).any fun u => T.stands (x : Int) (u : Int))) = true
  rw [this]; simp
theorem out_first {T : Tr} {k : Nat} (h : Tops T k) (hk : 3 ≤ k) (i : Nat) {y : Nat} : y ∈ outN T quL (quQ i) 0 ↔ y = 0 := by
  rw [outN_iff (by rw [quQ_len]; omega), quQ_first]
  constructor
  · rintro (h1 | ⟨j, hj, _⟩)
    · exact ((ag_write h (i := 1) (by omega)).1 h1).1
    · omega
  · exact fun e => .inl ((ag_write h (i := 1) (by omega)).2 ⟨e, by decide⟩)
theorem out_behind {T : Tr} {k : Nat} (h : Tops T k) (hk : 3 ≤ k) {i j : Nat} (hi : i + 2 ≤ k) (hj : j < i) {y : Nat} : y ∈ outN T quL (quQ i) (j + 1) ↔ y = 1 := by
  rw [outN_iff (by rw [quQ_len]; omega), quQ_get hj, ag_read]
  constructor
  · rintro (h1 | ⟨u, hu, h1, h2⟩)
    · cases h1
    · cases u with
      | zero => exact h2.symm
      | succ u =>
        rw [quQ_get (by omega), up_read rfl rfl] at h1
        cases h1
  · rintro rfl
    exact .inr ⟨0, by omega, up_write h hk (by omega) (by omega) 1, rfl⟩
theorem ready_queue {T : Tr} {k : Nat} (h : Tops T k) (hk : 3 ≤ k) {i : Nat} (hi : i + 2 ≤ k) : rdyL T quL (quQ i) = [] :=
  rdyL_none.2 fun j hj e => by
    rw [quQ_len] at hj
    cases j with
    | zero =>
      have := (out_first h hk i (y := 0)).2 rfl
      rw [e] at this; cases this
    | succ j =>
      have := (out_behind h hk hi (j := j) (by omega) (y := 1)).2 rfl
      rw [e] at this; cases this
theorem stuck_queue {T : Tr} {k : Nat} (h : Tops T k) (hk : 3 ≤ k) {i : Nat} (hi : i + 2 ≤ k) : stuckL T (edgL T quL (quQ i)) = [] := by
  refine h.rise (fun x => if x = 0 then 2 else if x = 1 then 1 else 0) fun a b hab => ?_
  obtain ⟨j, hj, e, hb⟩ := edgL_mem.1 hab
  rw [quQ_len] at hj
  cases j with
  | zero =>
    rw [quQ_first] at e
    have e : 1 = a := e
    rw [out_first h hk] at hb
    subst e; subst hb; decide
  | succ j =>
    rw [quQ_get (by omega)] at e
    have e : j + 2 = a := e
    rw [out_behind h hk hi (by omega)] at hb
    subst e; subst hb
    show (if j + 2 = 0 then 2 else if j + 2 = 1 then 1 else 0) < if 1 = 0 then 2 else if 1 = 1 then 1 else 0
    rw [if_neg (by omega), if_neg (by omega)]; decide
theorem drop_queue (i : Nat) : dropL (quQ i) [1] = (List.range i).map fun (j : Nat) => (⟨j + 2, 5, 1⟩ : Wn) := by
  unfold dropL quQ
  rw [List.filter_cons, if_neg (by simp), List.filter_eq_self.2]
  intro w hw
  obtain ⟨j, _, rfl⟩ := List.mem_map.1 hw
  simp
theorem ready_readers (T : Tr) (i : Nat) : rdyL T quL (dropL (quQ i) [1]) = dropL (quQ i) [1] := by
  have all : ∀ w ∈ dropL (quQ i) [1], w.b = 5 ∧ w.m = 1 := fun w hw => by
    rw [drop_queue] at hw
    obtain ⟨j, _, rfl⟩ := List.mem_map.1 hw
    exact ⟨rfl, rfl⟩
  generalize dropL (quQ i) [1] = Q at all
  unfold rdyL rdyN
  rw [List.filter_eq_self.2]
  · refine List.ext_getElem (by simp) fun j h1 h2 => ?_
    rw [List.getElem_map, List.getElem_range, List.getD_eq_getElem?_getD, List.getElem?_eq_getElem h2]; rfl
  · intro j hj
    have hj := List.mem_range.1 hj
    rw [List.isEmpty_iff]
    refine List.eq_nil_iff_forall_not_mem.2 fun y hy => ?_
    have hw := all _ (getD_mem hj)
    rcases (outN_iff hj).1 hy with h1 | ⟨u, hu, h1, _⟩
    · rw [hw.1, hw.2, ag_read] at h1; cases h1
    · rw [up_read (all _ (getD_mem (by omega))).2 hw.2] at h1; cases h1
end Go.Proofs.YtbokhhialfbjcaaGreat

namespace Go.Proofs.YtbokhhialfbjcaaGreat
set_option maxRecDepth 100000
set_option linter.unusedVariables false

theorem rdyN_more (T : Tr) (L : List Lk) (Q : List Wn) (i : Nat) : ∀ m, ∃ r, rdyN T L Q (i + m) = rdyN T L Q i ++ r ∧ ∀ w ∈ r, ∃ j, i ≤ j ∧ j < i + m ∧ outN T L Q j = [] ∧ w = Q.getD j Q0
  | 0 => ⟨[], by simp, by simp⟩
  | m + 1 => by
    obtain ⟨r, h1, h2⟩ := rdyN_more T L Q i m
    have e : rdyN T L Q (i + (m + 1)) = if outN T L Q (i + m) = [] then rdyN T L Q (i + m) ++ [Q.getD (i + m) Q0] else rdyN T L Q (i + m) := rdyN_succ T L Q (i + m)
    by_cases h : outN T L Q (i + m) = []
    · rw [if_pos h] at e
      refine ⟨r ++ [Q.getD (i + m) Q0], by rw [e, h1, List.append_assoc], fun w hw => ?_⟩
      rcases List.mem_append.1 hw with hw | hw
      · obtain ⟨j, h3, h4, h5⟩ := h2 w hw
        exact ⟨j, h3, by omega, h5⟩
      · simp at hw
        exact ⟨i + m, by omega, by omega, h, hw⟩
    · rw [if_neg h] at e
      refine ⟨r, by rw [e, h1], fun w hw => ?_⟩
      obtain ⟨j, h3, h4, h5⟩ := h2 w hw
      exact ⟨j, h3, by omega, h5⟩
theorem rdyN_le (T : Tr) (L : List Lk) (Q : List Wn) {i n : Nat} (h : i ≤ n) : (rdyN T L Q i).length ≤ (rdyN T L Q n).length := by
  obtain ⟨r, h1, _⟩ := rdyN_more T L Q i (n - i)
  rw [show i + (n - i) = n by omega] at h1
  rw [h1, List.length_append]; omega
/-- the i-th want is ready: the next of those that are is it -/
theorem rdy_yes {T : Tr} {L : List Lk} {Q : List Wn} {i : Nat} (hi : i < Q.length) (h : outN T L Q i = []) : (rdyL T L Q)[(rdyN T L Q i).length]? = some (Q.getD i Q0) ∧ (rdyN T L Q i).length < (rdyL T L Q).length := by
  obtain ⟨r, h1, _⟩ := rdyN_more T L Q (i + 1) (Q.length - (i + 1))
  rw [show i + 1 + (Q.length - (i + 1)) = Q.length by omega, rdyN_succ, if_pos h] at h1
  unfold rdyL
  rw [h1]
  refine ⟨?_, by simp⟩
  rw [List.append_assoc, List.getElem?_append_right (Nat.le_refl _)]; simp
/-- it isn't: the next of those that are is another one's, or there is none -/
theorem rdy_no {T : Tr} {L : List Lk} {Q : List Wn} (ho : Q.Pairwise fun a w => a.x ≠ w.x) {i : Nat} (hi : i < Q.length) (h : outN T L Q i ≠ []) {w : Wn} (hw : (rdyL T L Q)[(rdyN T L Q i).length]? = some w) : w.x ≠ (Q.getD i Q0).x := by
  obtain ⟨r, h1, h2⟩ := rdyN_more T L Q i (Q.length - i)
  rw [show i + (Q.length - i) = Q.length by omega] at h1
  unfold rdyL at hw
  rw [h1, List.getElem?_append_right (Nat.le_refl _)] at hw
  obtain ⟨j, h3, h4, h5, rfl⟩ := h2 w (List.mem_of_getElem? hw)
  have hji : i < j := by
    rcases Nat.lt_or_ge i j with h6 | h6
    · exact h6
    · obtain rfl : j = i := by omega
      exact absurd h5 h
  rw [List.getD_eq_getElem?_getD, List.getD_eq_getElem?_getD, List.getElem?_eq_getElem hi, List.getElem?_eq_getElem (show j < Q.length by omega)]
  exact fun e => (List.pairwise_iff_getElem.1 ho) i j hi (by omega) hji e.symm

/-! ### the victim -/
noncomputable def vicI (T : Tr) (E : List (Nat × Nat)) : Int := match (stuckL T E).getLast? with | some x => (x : Int) | none => -1
theorem vic_none {T : Tr} {E : List (Nat × Nat)} (h : vicI T E < 0) : stuckL T E = [] := by
  unfold vicI at h
  split at h
  · omega
  · next he => exact List.getLast?_eq_none_iff.1 he
theorem vic_nil {T : Tr} {E : List (Nat × Nat)} (h : stuckL T E = []) : vicI T E = -1 := by
  unfold vicI; rw [h]; rfl
theorem vic_some {T : Tr} {E : List (Nat × Nat)} (h : ¬ vicI T E < 0) : ∃ x : Nat, vicI T E = x ∧ stuckR T E x := by
  unfold vicI at h ⊢
  split at h
  · next x he => exact ⟨x, rfl, stuckL_mem.1 (List.mem_of_getLast? he)⟩
  · omega
/-- who is the victim waits, and is Live; given up, it waits no longer, and fewer are Live -/
theorem Wt.victim {T : Tr} {L : List Lk} {Q : List Wn} (h : Wt T L Q) (hv : ¬ vicI T (edgL T L Q) < 0) : ∃ x : Nat, vicI T (edgL T L Q) = x ∧ x < T.l.length ∧ (T.tx x).s = 1 ∧ (∃ w ∈ Q, w.x = x) ∧ liveN (T.undone x) < liveN T ∧ ∀ w ∈ dropL Q (T.gone x T.l.length), w.x ≠ x := by
  obtain ⟨x, e, hx⟩ := vic_some hv
  obtain ⟨h1, h2, h3⟩ := h.stuck hx
  exact ⟨x, e, h2, h3, h1, live_less h2 h3, h.given h2 h3⟩
/-- nobody waits: nobody is stuck -/
theorem stuck_nil (T : Tr) (L : List Lk) : stuckL T (edgL T L []) = [] := stuckL_none.2 fun x ⟨y, h, _⟩ => by
  unfold edgL edgN at h
  simp at h
end Go.Proofs.YtbokhhialfbjcaaGreat
