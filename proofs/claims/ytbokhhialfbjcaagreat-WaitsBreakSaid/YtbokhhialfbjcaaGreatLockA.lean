/-
  Locks: the plain model. A table is a list of locks that rise by block and transaction; what a lock laid in it, a transaction's locks passed up, and locks taken away make of it. No program in it.
-/
import Derived.Test.YtbokhhialfbjcaaGreatTreeC
import Derived.Lib.RowBridge
import Derived.Lib.SortBridge
import Derived.Test.YtbokhhialfbjcaaGreatTreeB
import Derived.Deep.CutBlock
import Derived.Deep.CutRange
import Derived.BigQuiet
namespace Go.Proofs.YtbokhhialfbjcaaGreat
set_option maxRecDepth 100000
set_option linter.unusedVariables false

structure Lk where
  b : Int
  x : Int
  h : Int
  k : Int

/-- where a lock stands among the others -/
def Lk.q (y : Lk) : Int := y.b * 64 + y.x
def Lk.s (y : Lk) : Int := max y.h y.k

structure May (y : Lk) : Prop where
  b : 0 ≤ y.b ∧ y.b ≤ 255
  x : 0 ≤ y.x ∧ y.x ≤ 63
  h : 0 ≤ y.h ∧ y.h ≤ 2
  k : 0 ≤ y.k ∧ y.k ≤ 2
  s : 0 < y.s

theorem May.s2 {y : Lk} (h : May y) : y.s = 1 ∨ y.s = 2 := by
  have h0 := h.s
  have h1 := h.h
  have h2 := h.k
  unfold Lk.s at *
  omega
theorem May.bx {y z : Lk} (h : May y) (k : May z) (e : y.q = z.q) : y.b = z.b ∧ y.x = z.x := by
  have h1 := h.x
  have h2 := k.x
  unfold Lk.q at e
  omega

/-- a table that may be -/
structure LG (L : List Lk) : Prop where
  may : ∀ y ∈ L, May y
  up : L.Pairwise fun y z => y.q < z.q

theorem lg_nil : LG [] := ⟨by simp, List.Pairwise.nil⟩
theorem LG.tail {y : Lk} {L : List Lk} (h : LG (y :: L)) : LG L := ⟨fun z hz => h.may z (by simp [hz]), (List.pairwise_cons.1 h.up).2⟩
theorem LG.head {y : Lk} {L : List Lk} (h : LG (y :: L)) : ∀ z ∈ L, y.q < z.q := (List.pairwise_cons.1 h.up).1
theorem LG.cons {y : Lk} {L : List Lk} (hy : May y) (hL : LG L) (h : ∀ z ∈ L, y.q < z.q) : LG (y :: L) := ⟨fun z hz => by
  rcases List.mem_cons.1 hz with rfl | hz
  · exact hy
  · exact hL.may z hz, List.pairwise_cons.2 ⟨h, hL.up⟩⟩
theorem LG.filter {L : List Lk} (h : LG L) (f : Lk → Bool) : LG (L.filter f) := ⟨fun y hy => h.may y (List.mem_filter.1 hy).1, h.up.filter f⟩
theorem LG.right {l r : List Lk} (h : LG (l ++ r)) : LG r := ⟨fun y hy => h.may y (by simp [hy]), (List.pairwise_append.1 h.up).2.1⟩
theorem LG.one {L : List Lk} (h : LG L) {y z : Lk} (hy : y ∈ L) (hz : z ∈ L) (e : y.q = z.q) : y = z := by
  induction L with
  | nil => cases hy
  | cons a L ih =>
    have hh := h.head
    rcases List.mem_cons.1 hy with h1 | h1
    · rcases List.mem_cons.1 hz with h2 | h2
      · rw [h1, h2]
      · have := hh z h2
        rw [h1] at e; omega
    · rcases List.mem_cons.1 hz with h2 | h2
      · have := hh y h1
        rw [h2] at e; omega
      · exact ih h.tail h1 h2

/-- for which mode it is held, kept, where it stands (0: for none) -/
def hof : List Lk → Int → Int
  | [], _ => 0
  | y :: L, q => if y.q = q then y.h else hof L q
def kof : List Lk → Int → Int
  | [], _ => 0
  | y :: L, q => if y.q = q then y.k else kof L q

theorem hof_none {L : List Lk} {q : Int} (h : ∀ y ∈ L, y.q ≠ q) : hof L q = 0 := by
  induction L with
  | nil => rfl
  | cons y L ih =>
    unfold hof
    rw [if_neg (h y (by simp))]
    exact ih fun z hz => h z (by simp [hz])
theorem kof_none {L : List Lk} {q : Int} (h : ∀ y ∈ L, y.q ≠ q) : kof L q = 0 := by
  induction L with
  | nil => rfl
  | cons y L ih =>
    unfold kof
    rw [if_neg (h y (by simp))]
    exact ih fun z hz => h z (by simp [hz])
theorem LG.at_ {L : List Lk} (h : LG L) {y : Lk} (hy : y ∈ L) : hof L y.q = y.h ∧ kof L y.q = y.k := by
  induction L with
  | nil => cases hy
  | cons a L ih =>
    unfold hof kof
    rcases List.mem_cons.1 hy with h1 | h1
    · subst h1
      rw [if_pos rfl, if_pos rfl]; exact ⟨rfl, rfl⟩
    · have := h.head y h1
      rw [if_neg (by omega), if_neg (by omega)]
      exact ih h.tail h1
theorem hof_dec (L : List Lk) (q : Int) : (∃ y ∈ L, y.q = q ∧ hof L q = y.h ∧ kof L q = y.k) ∨ ((∀ y ∈ L, y.q ≠ q) ∧ hof L q = 0 ∧ kof L q = 0) := by
  induction L with
  | nil => exact .inr ⟨by simp, rfl, rfl⟩
  | cons a L ih =>
    unfold hof kof
    by_cases e : a.q = q
    · rw [if_pos e, if_pos e]; exact .inl ⟨a, by simp, e, rfl, rfl⟩
    · rw [if_neg e, if_neg e]
      rcases ih with ⟨y, hy, h⟩ | ⟨h, h2⟩
      · exact .inl ⟨y, by simp [hy], h⟩
      · refine .inr ⟨fun y hy => ?_, h2⟩
        rcases List.mem_cons.1 hy with rfl | hy
        · exact e
        · exact h y hy
theorem LG.hk0 {L : List Lk} (h : LG L) (q : Int) : 0 ≤ hof L q ∧ hof L q ≤ 2 ∧ 0 ≤ kof L q ∧ kof L q ≤ 2 := by
  rcases hof_dec L q with ⟨y, hy, e, h1, h2⟩ | ⟨_, h1, h2⟩
  · have h3 := (h.may y hy).h
    have h4 := (h.may y hy).k
    omega
  · omega
theorem LG.mem {L : List Lk} (h : LG L) {y : Lk} (hy : May y) (h1 : hof L y.q = y.h) (h2 : kof L y.q = y.k) : y ∈ L := by
  rcases hof_dec L y.q with ⟨z, hz, e, h3, h4⟩ | ⟨_, h3, h4⟩
  · obtain ⟨e1, e2⟩ := (h.may z hz).bx hy e
    have : z = y := by
      cases z; cases y
      simp only at *
      rw [e1, e2, ← h3, h1, ← h4, h2]
    rw [← this]; exact hz
  · have := hy.s
    unfold Lk.s at this
    omega

/-! ### a lock is laid -/
def mrg (z y : Lk) : Lk := { z with h := max z.h y.h, k := max z.k y.k }
def ins : List Lk → Lk → List Lk
  | [], z => [z]
  | y :: L, z => if y.q < z.q then y :: ins L z else if y.q = z.q then mrg z y :: L else z :: y :: L

theorem ins_front {l r : List Lk} {z : Lk} (h : ∀ y ∈ l, y.q < z.q) : ins (l ++ r) z = l ++ ins r z := by
  induction l with
  | nil => rfl
  | cons y l ih =>
    show (if y.q < z.q then y :: ins (l ++ r) z else _) = _
    rw [if_pos (h y (by simp)), ih fun x hx => h x (by simp [hx])]
    rfl
theorem ins_new {y z : Lk} {r : List Lk} (h : z.q < y.q) : ins (y :: r) z = z :: y :: r := by
  unfold ins
  rw [if_neg (by omega), if_neg (by omega)]
theorem ins_there {y z : Lk} {r : List Lk} (h : y.q = z.q) : ins (y :: r) z = mrg z y :: r := by
  unfold ins
  rw [if_neg (by omega), if_pos h]

theorem mrg_may {z y : Lk} (hz : May z) (hy : May y) : May (mrg z y) := by
  have h1 := hz.h
  have h2 := hz.k
  have h3 := hy.h
  have h4 := hy.k
  have h5 := hz.s
  refine ⟨hz.b, hz.x, ?_, ?_, ?_⟩
  · show 0 ≤ max z.h y.h ∧ max z.h y.h ≤ 2; omega
  · show 0 ≤ max z.k y.k ∧ max z.k y.k ≤ 2; omega
  · unfold Lk.s at h5 ⊢
    show 0 < max (max z.h y.h) (max z.k y.k); omega

/-- what is in the table then -/
theorem ins_mem {L : List Lk} {z : Lk} (h : LG L) {y : Lk} (hy : y ∈ ins L z) : (y ∈ L ∧ y.q ≠ z.q) ∨ y = { z with h := max z.h (hof L z.q), k := max z.k (kof L z.q) } ∨ ((∀ w ∈ L, w.q ≠ z.q) ∧ y = z) := by
  induction L with
  | nil => exact .inr (.inr ⟨by simp, by simpa [ins] using hy⟩)
  | cons a L ih =>
    unfold ins at hy
    unfold hof kof
    by_cases h1 : a.q < z.q
    · rw [if_pos h1] at hy
      rw [if_neg (by omega), if_neg (by omega)]
      rcases List.mem_cons.1 hy with e | hy
      · subst e; exact .inl ⟨by simp, by omega⟩
      · rcases ih h.tail hy with ⟨h2, h3⟩ | h2 | ⟨h2, h3⟩
        · exact .inl ⟨by simp [h2], h3⟩
        · exact .inr (.inl h2)
        · refine .inr (.inr ⟨fun w hw => ?_, h3⟩)
          rcases List.mem_cons.1 hw with e | hw
          · subst e; omega
          · exact h2 w hw
    · rw [if_neg h1] at hy
      by_cases h2 : a.q = z.q
      · rw [if_pos h2] at hy
        rw [if_pos h2, if_pos h2]
        rcases List.mem_cons.1 hy with e | hy
        · exact .inr (.inl e)
        · have := h.head y hy
          exact .inl ⟨by simp [hy], by omega⟩
      · rw [if_neg h2] at hy
        rcases List.mem_cons.1 hy with e | hy
        · refine .inr (.inr ⟨fun w hw => ?_, e⟩)
          rcases List.mem_cons.1 hw with e | hw
          · subst e; exact h2
          · have := h.head w hw; omega
        · refine .inl ⟨hy, ?_⟩
          rcases List.mem_cons.1 hy with e | hy
          · subst e; exact h2
          · have := h.head y hy; omega

theorem ins_q {L : List Lk} {z : Lk} {y : Lk} (hy : y ∈ ins L z) : y.q = z.q ∨ ∃ w ∈ L, y.q = w.q := by
  induction L with
  | nil => left; have : y = z := by simpa [ins] using hy
           rw [this]
  | cons a L ih =>
    unfold ins at hy
    split at hy
    · rcases List.mem_cons.1 hy with e | hy
      · exact .inr ⟨a, by simp, by rw [e]⟩
      · rcases ih hy with h | ⟨w, hw, h⟩
        · exact .inl h
        · exact .inr ⟨w, by simp [hw], h⟩
    · split at hy
      · rcases List.mem_cons.1 hy with e | hy
        · exact .inl (by rw [e]; rfl)
        · exact .inr ⟨y, by simp [hy], rfl⟩
      · rcases List.mem_cons.1 hy with e | hy
        · exact .inl (by rw [e])
        · exact .inr ⟨y, hy, rfl⟩

theorem LG.ins {L : List Lk} {z : Lk} (h : LG L) (hz : May z) : LG (ins L z) := by
  induction L with
  | nil => exact LG.cons hz lg_nil (by simp)
  | cons a L ih =>
    have hh := h.head
    have ha := h.may a (by simp)
    unfold Proofs.YtbokhhialfbjcaaGreat.ins
    split
    · next h1 =>
      refine LG.cons ha (ih h.tail) fun y hy => ?_
      rcases ins_q hy with e | ⟨w, hw, e⟩
      · omega
      · have := hh w hw; omega
    · split
      · next h1 h2 => exact LG.cons (mrg_may hz ha) h.tail fun y hy => by have := hh y hy; show z.q < y.q; omega
      · next h1 h2 =>
        refine LG.cons hz h fun y hy => ?_
        rcases List.mem_cons.1 hy with e | hy
        · subst e; omega
        · have := hh y hy; omega

theorem hof_ins {L : List Lk} {z : Lk} (h : LG L) (hz : May z) (q : Int) : hof (ins L z) q = (if z.q = q then max z.h (hof L q) else hof L q) ∧ kof (ins L z) q = (if z.q = q then max z.k (kof L q) else kof L q) := by
  have z1 := hz.h
  have z2 := hz.k
  induction L with
  | nil =>
    show (if z.q = q then z.h else 0) = (if z.q = q then max z.h 0 else 0) ∧ (if z.q = q then z.k else 0) = (if z.q = q then max z.k 0 else 0)
    split
    · omega
    · omega
  | cons a L ih =>
    have ih := ih h.tail
    have hh := h.head
    unfold ins
    by_cases h1 : a.q < z.q
    · rw [if_pos h1]
      by_cases e : a.q = q
      · have e2 : ¬ z.q = q := by omega
        simp [hof, kof, e, e2]
      · simp only [hof, kof, e, if_false]; exact ih
    · rw [if_neg h1]
      by_cases h2 : a.q = z.q
      · rw [if_pos h2]
        by_cases e : z.q = q
        · have e1 : (mrg z a).q = q := e
          have e2 : a.q = q := by omega
          simp only [hof, kof, e, e1, e2, if_true]
          exact ⟨rfl, rfl⟩
        · have e1 : ¬ (mrg z a).q = q := e
          have e2 : ¬ a.q = q := by omega
          simp only [hof, kof, e, e1, e2, if_false]
          exact ⟨trivial, trivial⟩
      · rw [if_neg h2]
        by_cases e : z.q = q
        · have e2 : ¬ a.q = q := by omega
          have e3 := hof_none (L := L) (q := q) fun y hy => by have := hh y hy; omega
          have e4 := kof_none (L := L) (q := q) fun y hy => by have := hh y hy; omega
          simp only [hof, kof, e, e2, if_true, if_false, e3, e4]
          omega
        · simp only [hof, kof, e, if_false]
          exact ⟨trivial, trivial⟩

/-- laid again: nothing changes -/
theorem ins_same {L : List Lk} {z : Lk} (h : LG L) (h1 : z.h ≤ hof L z.q) (h2 : z.k ≤ kof L z.q) (hz : 0 < z.h) (hx : 0 ≤ z.x ∧ z.x ≤ 63) : ins L z = L := by
  induction L with
  | nil => unfold hof at h1; omega
  | cons a L ih =>
    unfold hof at h1
    unfold kof at h2
    unfold ins
    by_cases e : a.q = z.q
    · rw [if_pos e] at h1 h2
      rw [if_neg (by omega), if_pos e]
      congr 1
      have ha := (h.may a (by simp)).x
      have e1 : z.b = a.b ∧ z.x = a.x := by unfold Lk.q at e; omega
      unfold mrg
      cases a; cases z
      simp only at *
      rw [e1.1, e1.2]
      congr 1 <;> omega
    · rw [if_neg e] at h1 h2
      by_cases h3 : a.q < z.q
      · rw [if_pos h3, ih h.tail h1 h2]
      · have := hof_none (L := L) (q := z.q) fun y hy => by have := h.head y hy; omega
        omega

/-! ### several locks are laid, one behind the other -/
def lay (L more : List Lk) : List Lk := more.foldl ins L

theorem LG.lay {L more : List Lk} (h : LG L) (hm : ∀ z ∈ more, May z) : LG (lay L more) := by
  induction more generalizing L with
  | nil => exact h
  | cons z more ih => exact ih (h.ins (hm z (by simp))) fun y hy => hm y (by simp [hy])
theorem hof_lay {L more : List Lk} (h : LG L) (hm : LG more) (q : Int) : hof (lay L more) q = max (hof more q) (hof L q) ∧ kof (lay L more) q = max (kof more q) (kof L q) := by
  induction more generalizing L with
  | nil =>
    have := h.hk0 q
    show hof L q = max 0 (hof L q) ∧ kof L q = max 0 (kof L q)
    omega
  | cons z more ih =>
    have hz := hm.may z (by simp)
    obtain ⟨i1, i2⟩ := ih (h.ins hz) hm.tail
    obtain ⟨j1, j2⟩ := hof_ins h hz q
    show hof (Proofs.YtbokhhialfbjcaaGreat.lay (ins L z) more) q = _ ∧ kof (Proofs.YtbokhhialfbjcaaGreat.lay (ins L z) more) q = _
    rw [i1, i2, j1, j2]
    by_cases e : z.q = q
    · have e3 := hof_none (L := more) (q := q) fun y hy => by have := hm.head y hy; omega
      have e4 := kof_none (L := more) (q := q) fun y hy => by have := hm.head y hy; omega
      simp only [hof, kof, e, if_true, e3, e4]
      have := h.hk0 q
      have z1 := hz.h
      have z2 := hz.k
      omega
    · simp only [hof, kof, e, if_false]
      exact ⟨trivial, trivial⟩
theorem ins_end {L : List Lk} {z : Lk} (h : ∀ y ∈ L, y.q < z.q) : ins L z = L ++ [z] := by
  have := ins_front (l := L) (r := []) (z := z) h
  rw [List.append_nil] at this
  exact this
theorem lay_nil' {l more : List Lk} (hm : LG (l ++ more)) : lay l more = l ++ more := by
  induction more generalizing l with
  | nil => simp [lay]
  | cons z more ih =>
    show lay (ins l z) more = _
    have hp := (List.pairwise_append.1 hm.up).2.2
    rw [ins_end fun y hy => hp y hy z (by simp), ih (by simpa using hm)]
    simp
theorem lay_nil {more : List Lk} (hm : LG more) : lay [] more = more := lay_nil' (l := []) hm

/-! ### the calls -/
def ofL (L : List Lk) (x : Int) : List Lk := L.filter fun y => decide (y.x = x)
def freeL (L : List Lk) (G : Int → Bool) : List Lk := L.filter fun y => !G y.x
def upL (L : List Lk) (x p : Int) : List Lk := (ofL L x).map fun y => ⟨y.b, p, 0, y.s⟩
def passL (L : List Lk) (x p : Int) : List Lk := if p < 0 then freeL L (fun z => decide (z = x)) else lay (freeL L fun z => decide (z = x)) (upL L x p)

theorem ofL_mem {L : List Lk} {x : Int} {y : Lk} : y ∈ ofL L x ↔ y ∈ L ∧ y.x = x := by unfold ofL; simp
theorem freeL_mem {L : List Lk} {G : Int → Bool} {y : Lk} : y ∈ freeL L G ↔ y ∈ L ∧ G y.x = false := by unfold freeL; simp
theorem LG.ofL {L : List Lk} (h : LG L) (x : Int) : LG (ofL L x) := h.filter _
theorem LG.freeL {L : List Lk} (h : LG L) (G : Int → Bool) : LG (freeL L G) := h.filter _
theorem up_may {y : Lk} (h : May y) {p : Int} (hp : 0 ≤ p ∧ p ≤ 63) : May ⟨y.b, p, 0, y.s⟩ := by
  have h0 := h.s
  have h1 := h.h
  have h2 := h.k
  refine ⟨h.b, hp, ⟨Int.le_refl 0, show (0 : Int) ≤ 2 by decide⟩, ?_, ?_⟩
  · unfold Lk.s at *; show 0 ≤ max y.h y.k ∧ max y.h y.k ≤ 2; omega
  · unfold Lk.s at *; show 0 < max 0 (max y.h y.k); omega
theorem LG.upL {L : List Lk} (h : LG L) (x : Int) {p : Int} (hp : 0 ≤ p ∧ p ≤ 63) : LG (upL L x p) := by
  refine ⟨fun y hy => ?_, ?_⟩
  · unfold Proofs.YtbokhhialfbjcaaGreat.upL at hy
    obtain ⟨z, hz, rfl⟩ := List.mem_map.1 hy
    exact up_may (h.may z (ofL_mem.1 hz).1) hp
  · unfold Proofs.YtbokhhialfbjcaaGreat.upL
    rw [List.pairwise_map]
    refine List.Pairwise.imp_of_mem (fun {y z} hy hz hlt => ?_) (h.ofL x).up
    have h1 := (ofL_mem.1 hy).2
    have h2 := (ofL_mem.1 hz).2
    unfold Lk.q at *
    show y.b * 64 + p < z.b * 64 + p
    omega
theorem LG.passL {L : List Lk} (h : LG L) (x : Int) {p : Int} (hp : p ≤ 63) : LG (passL L x p) := by
  unfold Proofs.YtbokhhialfbjcaaGreat.passL
  split
  · exact h.freeL _
  · exact (h.freeL _).lay (h.upL x (by omega)).may
theorem free_len (L : List Lk) (x : Int) : (freeL L fun z => decide (z = x)).length + (ofL L x).length = L.length := by
  induction L with
  | nil => rfl
  | cons y L ih =>
    have ih : (L.filter fun y => !decide (y.x = x)).length + (L.filter fun y => decide (y.x = x)).length = L.length := ih
    unfold freeL ofL
    rw [List.filter_cons, List.filter_cons]
    by_cases e : y.x = x
    · simp only [e, decide_true, Bool.not_true, Bool.false_eq_true, if_false, if_true, List.length_cons]; omega
    · simp only [e, decide_false, Bool.not_false, Bool.false_eq_true, if_false, if_true, List.length_cons]; omega
/-- who has none: it stays -/
theorem free_none {L : List Lk} {x : Int} (h : ∀ y ∈ L, y.x ≠ x) : (freeL L fun z => decide (z = x)) = L := by
  unfold freeL
  rw [List.filter_eq_self]
  intro y hy
  simpa using h y hy

theorem hof_up {L : List Lk} (h : LG L) (x : Int) {p : Int} (hx : 0 ≤ x ∧ x ≤ 63) (hp : 0 ≤ p ∧ p ≤ 63) (b : Int) (hb : 0 ≤ b) : hof (upL L x p) (b * 64 + p) = 0 ∧ kof (upL L x p) (b * 64 + p) = max (hof L (b * 64 + x)) (kof L (b * 64 + x)) := by
  have hU := h.upL x hp
  rcases hof_dec (upL L x p) (b * 64 + p) with ⟨y, hy, e, h1, h2⟩ | ⟨hn, h1, h2⟩
  · unfold upL at hy
    obtain ⟨z, hz, rfl⟩ := List.mem_map.1 hy
    obtain ⟨hz, hzx⟩ := ofL_mem.1 hz
    have e1 : z.q = b * 64 + x := by
      unfold Lk.q at e ⊢
      simp only at e
      omega
    have h3 := h.at_ hz
    rw [e1] at h3
    rw [h1, h2, h3.1, h3.2]
    exact ⟨rfl, rfl⟩
  · rw [h1, h2]
    refine ⟨rfl, ?_⟩
    rcases hof_dec L (b * 64 + x) with ⟨z, hz, e, h3, h4⟩ | ⟨_, h3, h4⟩
    · have hm := (h.may z hz).x
      have e1 : z.x = x ∧ z.b = b := by unfold Lk.q at e; omega
      refine absurd (show (⟨z.b, p, 0, z.s⟩ : Lk).q = b * 64 + p from by unfold Lk.q; simp only; omega) (hn _ ?_)
      unfold upL
      exact List.mem_map.2 ⟨z, ofL_mem.2 ⟨hz, e1.1⟩, rfl⟩
    · rw [h3, h4]; rfl
theorem hof_free {L : List Lk} (h : LG L) (G : Int → Bool) {b x : Int} (hx : 0 ≤ x ∧ x ≤ 63) (hG : G x = false) : hof (freeL L G) (b * 64 + x) = hof L (b * 64 + x) ∧ kof (freeL L G) (b * 64 + x) = kof L (b * 64 + x) := by
  rcases hof_dec L (b * 64 + x) with ⟨z, hz, e, h3, h4⟩ | ⟨hn, h3, h4⟩
  · have hm := (h.may z hz).x
    have e1 : z.x = x ∧ z.b = b := by unfold Lk.q at e; omega
    have := (h.freeL G).at_ (freeL_mem.2 ⟨hz, by rw [e1.1]; exact hG⟩)
    rw [e] at this
    rw [this.1, this.2, h3, h4]; exact ⟨rfl, rfl⟩
  · rw [h3, h4]
    exact ⟨hof_none fun y hy => hn y (freeL_mem.1 hy).1, kof_none fun y hy => hn y (freeL_mem.1 hy).1⟩

/-- passed to another one: it keeps the greater, and holds what it held -/
theorem hof_pass {L : List Lk} (h : LG L) {x p : Int} (hx : 0 ≤ x ∧ x ≤ 63) (hp : 0 ≤ p ∧ p ≤ 63) (hne : p ≠ x) (b : Int) (hb : 0 ≤ b) :
    hof (passL L x p) (b * 64 + p) = hof L (b * 64 + p) ∧ kof (passL L x p) (b * 64 + p) = max (max (hof L (b * 64 + x)) (kof L (b * 64 + x))) (kof L (b * 64 + p)) := by
  unfold passL
  rw [if_neg (by omega)]
  obtain ⟨h1, h2⟩ := hof_lay (h.freeL fun z => decide (z = x)) (h.upL x hp) (b * 64 + p)
  obtain ⟨h3, h4⟩ := hof_up h x hx hp b hb
  obtain ⟨h5, h6⟩ := hof_free h (fun z => decide (z = x)) (b := b) hp (by simpa using hne)
  rw [h1, h2, h3, h4, h5, h6]
  have := h.hk0 (b * 64 + p)
  exact ⟨by omega, rfl⟩
theorem hof_pass_other {L : List Lk} (h : LG L) {x p : Int} (hp : 0 ≤ p ∧ p ≤ 63) (b y : Int) (hy : 0 ≤ y ∧ y ≤ 63) (h1 : y ≠ x) (h2 : y ≠ p) :
    hof (passL L x p) (b * 64 + y) = hof L (b * 64 + y) ∧ kof (passL L x p) (b * 64 + y) = kof L (b * 64 + y) := by
  unfold passL
  rw [if_neg (by omega)]
  obtain ⟨g1, g2⟩ := hof_lay (h.freeL fun z => decide (z = x)) (h.upL x hp) (b * 64 + y)
  obtain ⟨g5, g6⟩ := hof_free h (fun z => decide (z = x)) (b := b) hy (by simpa using h1)
  have g3 : ∀ z ∈ upL L x p, z.q ≠ b * 64 + y := fun z hz e => by
    unfold upL at hz
    obtain ⟨w, hw, rfl⟩ := List.mem_map.1 hz
    unfold Lk.q at e
    simp only at e
    omega
  rw [g1, g2, g5, g6, hof_none g3, kof_none g3]
  have := h.hk0 (b * 64 + y)
  omega
/-- what is in the table behind a Pass -/
theorem pass_mem {L : List Lk} (h : LG L) {x p : Int} (hx : 0 ≤ x ∧ x ≤ 63) (hp : p ≤ 63) (hne : p ≠ x) {y : Lk} (hy : y ∈ passL L x p) :
    (y ∈ L ∧ y.x ≠ x) ∨ (0 ≤ p ∧ y.x = p ∧ ∃ z ∈ L, z.b = y.b ∧ (z.x = p ∨ z.x = x) ∧ z.s = y.s) := by
  have hP := h.passL x hp
  have my := hP.may y hy
  have mb := my.b
  have mx := my.x
  by_cases hp0 : p < 0
  · unfold passL at hy
    rw [if_pos hp0] at hy
    obtain ⟨h1, h2⟩ := freeL_mem.1 hy
    exact .inl ⟨h1, by simpa using h2⟩
  · have a1 := hP.at_ hy
    have hq : y.q = y.b * 64 + y.x := rfl
    rw [hq] at a1
    by_cases e : y.x = p
    · rw [e] at a1
      obtain ⟨g1, g2⟩ := hof_pass h hx ⟨by omega, hp⟩ hne y.b mb.1
      rw [g1, g2] at a1
      refine .inr ⟨by omega, e, ?_⟩
      have hs : y.s = max (hof L (y.b * 64 + p)) (max (max (hof L (y.b * 64 + x)) (kof L (y.b * 64 + x))) (kof L (y.b * 64 + p))) := by unfold Lk.s; rw [← a1.1, ← a1.2]
      have hs0 := my.s
      have find : ∀ w : Int, 0 ≤ w ∧ w ≤ 63 → max (hof L (y.b * 64 + w)) (kof L (y.b * 64 + w)) = y.s → ∃ z ∈ L, z.b = y.b ∧ z.x = w ∧ z.s = y.s := fun w hw hm => by
        rcases hof_dec L (y.b * 64 + w) with ⟨z, hz, e, h3, h4⟩ | ⟨_, h3, h4⟩
        · have hm' := (h.may z hz).x
          have e1 : z.x = w ∧ z.b = y.b := by unfold Lk.q at e; omega
          exact ⟨z, hz, e1.2, e1.1, by rw [← hm, h3, h4]; rfl⟩
        · omega
      by_cases hc : max (hof L (y.b * 64 + p)) (kof L (y.b * 64 + p)) = y.s
      · obtain ⟨z, hz, e1, e2, e3⟩ := find p ⟨by omega, hp⟩ hc
        exact ⟨z, hz, e1, .inl e2, e3⟩
      · obtain ⟨z, hz, e1, e2, e3⟩ := find x hx (by omega)
        exact ⟨z, hz, e1, .inr e2, e3⟩
    · by_cases e2 : y.x = x
      · exfalso
        unfold passL at hy
        rw [if_neg hp0] at hy
        have g := hof_lay (h.freeL fun z => decide (z = x)) (h.upL x ⟨by omega, hp⟩) y.q
        have g3 : ∀ z ∈ upL L x p, z.q ≠ y.q := fun z hz e' => by
          unfold upL at hz
          obtain ⟨w, hw, rfl⟩ := List.mem_map.1 hz
          unfold Lk.q at e'
          simp only at e'
          omega
        have g4 : ∀ z ∈ freeL L (fun z => decide (z = x)), z.q ≠ y.q := fun z hz e' => by
          obtain ⟨h1, h2⟩ := freeL_mem.1 hz
          have h3 := (h.may z h1).x
          have h4 : z.x ≠ x := by simpa using h2
          unfold Lk.q at e'
          omega
        have a2 := ((h.freeL fun z => decide (z = x)).lay (h.upL x ⟨by omega, hp⟩).may).at_ hy
        rw [g.1, g.2, hof_none g3, hof_none g4, kof_none g3, kof_none g4] at a2
        have := my.s
        unfold Lk.s at this
        omega
      · obtain ⟨g1, g2⟩ := hof_pass_other h ⟨by omega, hp⟩ y.b y.x mx e2 e
        rw [g1, g2] at a1
        exact .inl ⟨h.mem my a1.1 a1.2, e2⟩
end Go.Proofs.YtbokhhialfbjcaaGreat

namespace Go.Proofs.YtbokhhialfbjcaaGreat
set_option maxRecDepth 100000
set_option linter.unusedVariables false
open Go.RowKit Go.Shelf Go.Sort

theorem or_any (g : Nat) (x y : Int) (w : World) (hx : w.cell? ⟨g, 0, none⟩ = some (.int .i64 x)) (hy : w.cell? ⟨g, 1, none⟩ = some (.int .i64 y)) :
    Calls Tryz.prog 90 #[.slice (some ⟨g, 0, none⟩) 2 2] w fun e w' => e = .returned (.int .i64 (if x = 0 then y else x)) ∧ w' = w := by
  go_enter Tryz.func90, Tryz.ntmps90
  go_wp2_with fail
  go_loopw [8] (fun iv wr => ∃ j : Nat, iv = .int .i64 (j : Int) ∧ wr = w ∧ (j = 0 ∨ (j = 1 ∧ x = 0) ∨ (j = 2 ∧ x = 0 ∧ y = 0))) (fun iv _ => 2 - (intOf iv).toNat)
  case atStart => exact ⟨0, rfl, rfl, .inl rfl⟩
  case round =>
    obtain ⟨j, rfl, hwr, h⟩ := hrel
    replace hwr := hwr.symm
    subst hwr
    rcases h with rfl | ⟨rfl, h1⟩ | ⟨rfl, h1, h2⟩
    · by_cases h0 : x = 0
      · have hb : (x == 0) = true := by simpa using h0
        have H0 := Lib.hid h0
        clear h0
        go_wp2
        go_roundw
        case rel => exact ⟨1, by simp, by trivial, .inr (.inl ⟨rfl, H0.out⟩)⟩
        case measure => simp [intOf]
      · have hb : (x == 0) = false := by simpa using h0
        have H0 := Lib.hid h0
        clear h0
        go_wp2
        go_ret
        exact ⟨by first | rfl | (rw [if_neg H0.out]; rfl), rfl⟩
    · by_cases h0 : y = 0
      · have hb : (y == 0) = true := by simpa using h0
        have H0 := Lib.hid h0
        have H1 := Lib.hid h1
        clear h0 h1
        go_wp2
        go_roundw
        case rel => exact ⟨2, by simp, by trivial, .inr (.inr ⟨rfl, H1.out, H0.out⟩)⟩
        case measure => simp [intOf]
      · have hb : (y == 0) = false := by simpa using h0
        have H0 := Lib.hid h0
        have H1 := Lib.hid h1
        clear h0 h1
        go_wp2
        go_ret
        exact ⟨by first | rfl | (rw [if_pos H1.out]; rfl), rfl⟩
    · have H1 := Lib.hid h1
      have H2 := Lib.hid h2
      clear h1 h2
      go_wp2
      go_ret
      exact ⟨by first | (have h2 := H2.out; subst h2; first | rfl | (rw [if_pos H1.out]; rfl)) | (rw [if_pos H1.out, H2.out]; rfl), rfl⟩

theorem below_grow (w : World) (q : Nat) (os : Array Obj) : Below w.heap.size w (grow (w.drewN q) os) :=
  ⟨rfl, rfl, rfl, by show w.heap.size ≤ (w.heap ++ os).size; simp, fun k hk => by show (w.heap ++ os)[k]? = _; rw [Array.getElem?_append_left hk]⟩

/-- some draws, and new blocks -/
def Gr (w w' : World) : Prop := ∃ q os, w' = grow (w.drewN q) os
theorem Gr.refl (w : World) : Gr w w := ⟨0, #[], by rw [grow_empty]; rfl⟩
theorem Gr.trans {a b c : World} (h : Gr a b) (k : Gr b c) : Gr a c := by
  obtain ⟨q, os, rfl⟩ := h
  obtain ⟨q', os', rfl⟩ := k
  exact ⟨q + q', os ++ os', by show grow (grow ((a.drewN q).drewN q') os) os' = _; rw [grow_grow, World.drewN_drewN]⟩
theorem Gr.alloc (w : World) (o : Obj) : Gr w (w.alloc o) := ⟨0, #[o], by rw [alloc_eq_grow]; rfl⟩
theorem Gr.below {w w' : World} (h : Gr w w') : Below w.heap.size w w' := by
  obtain ⟨q, os, rfl⟩ := h
  exact below_grow w q os

def Lk.v (y : Lk) : Value := .agg #[.int .i64 y.b, .int .i64 y.x, .int .i64 y.h, .int .i64 y.k]
/-- what the comparison answers -/
def cmpI (y z : Lk) : Int := if Lib.compareInt y.b z.b = 0 then Lib.compareInt y.x z.x else Lib.compareInt y.b z.b
theorem cmpI_facts (y z : Lk) (hy : 0 ≤ y.x ∧ y.x ≤ 63) (hz : 0 ≤ z.x ∧ z.x ≤ 63) : (cmpI y z < 0 ↔ y.q < z.q) ∧ (cmpI y z = 0 ↔ y.q = z.q) ∧ (0 ≤ cmpI y z ↔ z.q ≤ y.q) := by
  unfold cmpI Lib.compareInt Lk.q
  (repeat' split) <;> omega

/-- a lock's cells in a block -/
structure LB (W : World) (g : Nat) (y : Lk) : Prop where
  b : W.cell? ⟨g, 0, none⟩ = some (.int .i64 y.b)
  x : W.cell? ⟨g, 1, none⟩ = some (.int .i64 y.x)
  h : W.cell? ⟨g, 2, none⟩ = some (.int .i64 y.h)
  k : W.cell? ⟨g, 3, none⟩ = some (.int .i64 y.k)
theorem LB.lt {W : World} {g : Nat} {y : Lk} (h : LB W g y) : g < W.heap.size := block_lt_of_cell (a := ⟨g, 0, none⟩) h.b
theorem LB.below {W V : World} {g : Nat} {y : Lk} (h : LB W g y) (hb : Below W.heap.size W V) : LB V g y :=
  ⟨(hb.cell (p := ⟨g, 0, none⟩) h.lt).trans h.b, (hb.cell (p := ⟨g, 1, none⟩) h.lt).trans h.x, (hb.cell (p := ⟨g, 2, none⟩) h.lt).trans h.h, (hb.cell (p := ⟨g, 3, none⟩) h.lt).trans h.k⟩
theorem LB.new (w : World) (y : Lk) (t : TypeId) : LB (w.alloc (.cells #[.int .i64 y.b, .int .i64 y.x, .int .i64 y.h, .int .i64 y.k] t)) w.heap.size y :=
  ⟨(cell_new w _ _ 0).trans rfl, (cell_new w _ _ 1).trans rfl, (cell_new w _ _ 2).trans rfl, (cell_new w _ _ 3).trans rfl⟩

set_option maxHeartbeats 2000000 in
theorem compare_any (y z : Lk) (w : World) : Calls Tryz.prog 62 #[.agg #[.int .i64 y.b, .int .i64 y.x, .int .i64 y.h, .int .i64 y.k], .agg #[.int .i64 z.b, .int .i64 z.x, .int .i64 z.h, .int .i64 z.k]] w fun e w' => e = .returned (.int .i64 (cmpI y z)) ∧ Gr w w' := by
  obtain ⟨E1, hE1⟩ : ∃ q, q = Lib.compareInt y.b z.b := ⟨_, rfl⟩
  obtain ⟨E2, hE2⟩ : ∃ q, q = Lib.compareInt y.x z.x := ⟨_, rfl⟩
  have HCF := Lib.hid (show cmpI y z = if E1 = 0 then E2 else E1 by unfold cmpI; rw [hE1, hE2])
  have hc1 : ∀ V, Calls Tryz.prog 91 #[.int .i64 y.b, .int .i64 z.b] V fun e w' => e = .returned (.int .i64 E1) ∧ w' = V := fun V => by rw [hE1]; exact AnyG.cmp_Compare_int (P := Tryz.prog) (ρ := Tryz.cmpL_ren) Tryz.cmpL y.b z.b V
  have hc2 : ∀ V, Calls Tryz.prog 91 #[.int .i64 y.x, .int .i64 z.x] V fun e w' => e = .returned (.int .i64 E2) ∧ w' = V := fun V => by rw [hE2]; exact AnyG.cmp_Compare_int (P := Tryz.prog) (ρ := Tryz.cmpL_ren) Tryz.cmpL y.x z.x V
  have HC1 := Lib.hid hc1
  have HC2 := Lib.hid hc2
  obtain ⟨wx, hw0⟩ : ∃ wx, wx = w.alloc (.cells #[.int .i64 y.b, .int .i64 y.x, .int .i64 y.h, .int .i64 y.k] 84) := ⟨_, rfl⟩
  obtain ⟨w1, hw1⟩ : ∃ wy, wy = wx.alloc (.cells #[.int .i64 z.b, .int .i64 z.x, .int .i64 z.h, .int .i64 z.k] 84) := ⟨_, rfl⟩
  have hg : Gr w w1 := by rw [hw1, hw0]; exact (Gr.alloc w _).trans (Gr.alloc _ _)
  have hs : wx.heap.size = w.heap.size + 1 := by rw [hw0]; simp
  have b1 : LB w1 w.heap.size y := by rw [hw1, hw0]; exact (LB.new w y _).below (below_new _ _)
  have b2 : LB w1 (w.heap.size + 1) z := by rw [hw1, ← hs]; exact LB.new wx z _
  have HG := Lib.hid hg
  have H1 := Lib.hid b1
  have H2 := Lib.hid b2
  clear hc1 hc2 hE1 hE2 hg b1 b2
  go_enter Tryz.func62, Tryz.ntmps62
  go_upto_region 1 with fail
  rw [← hw0, ← hw1]
  clear hw0 hw1 hs wx
  have k0 : ∀ V, (∃ os, V = grow (w1.drewN 1) os) → V.cell? ⟨w.heap.size, 0, none⟩ = some (.int .i64 y.b) := fun V ⟨os, e⟩ => by rw [e]; exact (H1.out.below (below_grow w1 1 os)).b
  have k1 : ∀ V, (∃ os, V = grow (w1.drewN 1) os) → V.cell? ⟨w.heap.size, 1, none⟩ = some (.int .i64 y.x) := fun V ⟨os, e⟩ => by rw [e]; exact (H1.out.below (below_grow w1 1 os)).x
  have k2 : ∀ V, (∃ os, V = grow (w1.drewN 1) os) → V.cell? ⟨w.heap.size + 1, 0, none⟩ = some (.int .i64 z.b) := fun V ⟨os, e⟩ => by rw [e]; exact (H2.out.below (below_grow w1 1 os)).b
  have k3 : ∀ V, (∃ os, V = grow (w1.drewN 1) os) → V.cell? ⟨w.heap.size + 1, 1, none⟩ = some (.int .i64 z.x) := fun V ⟨os, e⟩ => by rw [e]; exact (H2.out.below (below_grow w1 1 os)).x
  refine wp_region_held_drew (S := (fun V => ∃ os, V = grow (w1.drewN 1) os)) (by kernel_rfl) (⟨#[], by rw [grow_empty]; rfl⟩) (fun _ => ?_)
  have hS : ((fun V => ∃ os, V = grow (w1.drewN 1) os)) (World.drew w1) := ⟨#[], by rw [grow_empty]; rfl⟩
  refine wpAnyH_take (i := 0) (oi := ⟨some 5, _, _, _, _, _⟩) (v := ?_) rfl (by kernel_rfl) (by kernel_rfl) (by kernel_rfl) (fun _ _ _ h => h) (Or.inl ⟨by rfl, ?_⟩) hS ?_
  rotate_left
  · intro W hW; go_simp; with_reducible rfl
  try simp only [Act.put, List.setIfInBounds_toArray, List.set_cons_zero, List.set_cons_succ]
  refine wpAnyH_take (i := 1) (oi := ⟨some 6, _, _, _, _, _⟩) (v := ?_) rfl (by kernel_rfl) (by kernel_rfl) (by kernel_rfl) (fun _ _ _ h => h) (Or.inl ⟨by rfl, ?_⟩) hS ?_
  rotate_left
  · intro W hW; go_simp; with_reducible rfl
  try simp only [Act.put, List.setIfInBounds_toArray, List.set_cons_zero, List.set_cons_succ]
  refine wpAnyH_take (i := 2) (oi := ⟨some 7, _, _, _, _, _⟩) (v := ?_) rfl (by kernel_rfl) (by kernel_rfl) (by kernel_rfl) (fun _ _ _ h => h) (Or.inl ⟨by rfl, ?_⟩) hS ?_
  rotate_left
  · intro W hW; go_simp; with_reducible rfl
  try simp only [Act.put, List.setIfInBounds_toArray, List.set_cons_zero, List.set_cons_succ]
  refine wpAnyH_take (i := 3) (oi := ⟨some 8, _, _, _, _, _⟩) (v := ?_) rfl (by kernel_rfl) (by kernel_rfl) (by kernel_rfl) (fun _ _ _ h => h) (Or.inl ⟨by rfl, ?_⟩) hS ?_
  rotate_left
  · intro W hW; go_simp; with_reducible rfl
  try simp only [Act.put, List.setIfInBounds_toArray, List.set_cons_zero, List.set_cons_succ]
  refine wpAnyH_take (i := 5) (oi := ⟨some 10, _, _, _, _, _⟩) (v := ?_) rfl (by kernel_rfl) (by kernel_rfl) (by kernel_rfl) (fun _ _ _ h => h) (Or.inl ⟨by rfl, ?_⟩) hS ?_
  rotate_left
  · intro W hW; go_simp; with_reducible rfl
  try simp only [Act.put, List.setIfInBounds_toArray, List.set_cons_zero, List.set_cons_succ]
  refine wpAnyH_take (i := 6) (oi := ⟨some 11, _, _, _, _, _⟩) (v := ?_) rfl (by kernel_rfl) (by kernel_rfl) (by kernel_rfl) (fun _ _ _ h => h) (Or.inl ⟨by rfl, ?_⟩) hS ?_
  rotate_left
  · intro W hW; go_simp; with_reducible rfl
  try simp only [Act.put, List.setIfInBounds_toArray, List.set_cons_zero, List.set_cons_succ]
  refine wpAnyH_take (i := 7) (oi := ⟨some 12, _, _, _, _, _⟩) (v := ?_) rfl (by kernel_rfl) (by kernel_rfl) (by kernel_rfl) (fun _ _ _ h => h) (Or.inl ⟨by rfl, ?_⟩) hS ?_
  rotate_left
  · intro W hW; go_simp; with_reducible rfl
  try simp only [Act.put, List.setIfInBounds_toArray, List.set_cons_zero, List.set_cons_succ]
  refine wpAnyH_take (i := 8) (oi := ⟨some 13, _, _, _, _, _⟩) (v := ?_) rfl (by kernel_rfl) (by kernel_rfl) (by kernel_rfl) (fun _ _ _ h => h) (Or.inl ⟨by rfl, ?_⟩) hS ?_
  rotate_left
  · intro W hW; go_simp; with_reducible rfl
  try simp only [Act.put, List.setIfInBounds_toArray, List.set_cons_zero, List.set_cons_succ]
  refine wpAnyH_ready (rs := [4]) (by kernel_rfl) (by simp) ?_
  refine AllReadyH.cons (o := ⟨some 9, _, _, _, _, _⟩) rfl (fun Kr hKr => ?_) AllReadyH.nil
  -- operation 4: a call
  go_simp
  refine (HC1.out _).mono ?_
  rintro e V0 ⟨rfl, hv⟩
  subst hv
  show Kr _ _
  refine hKr.out _ _ ?_ (fun _ => ?_)
  · exact hS
  clear hKr Kr
  try simp only [Act.put, List.setIfInBounds_toArray, List.set_cons_zero, List.set_cons_succ]
  refine wpAnyH_ready (rs := [9]) (by kernel_rfl) (by simp) ?_
  refine AllReadyH.cons (o := ⟨some 14, _, _, _, _, _⟩) rfl (fun Kr hKr => ?_) AllReadyH.nil
  -- operation 9: a call
  go_simp
  refine (HC2.out _).mono ?_
  rintro e V0 ⟨rfl, hv⟩
  subst hv
  show Kr _ _
  refine hKr.out _ _ ?_ (fun _ => ?_)
  · exact hS
  clear hKr Kr
  try simp only [Act.put, List.setIfInBounds_toArray, List.set_cons_zero, List.set_cons_succ]
  refine wpAnyH_ready (rs := [10]) (by kernel_rfl) (by simp) ?_
  refine AllReadyH.cons (o := ⟨some 15, _, _, _, _, _⟩) rfl (fun Kr hKr => ?_) AllReadyH.nil
  -- operation 10: a step
  go_simp
  show Kr _ _
  refine hKr.out _ _ ?_ (fun _ => ?_)
  · exact ⟨_, (show World.drew (w1.alloc (.cells #[.int .i64 E1, .int .i64 E2] 3)) = (w1.drewN 1).alloc (.cells #[.int .i64 E1, .int .i64 E2] 3) from rfl).trans (alloc_eq_grow _ _)⟩
  clear hKr Kr
  replace hS : ((fun V => ∃ os, V = grow (w1.drewN 1) os)) ((World.drew w1).alloc (.cells #[.int .i64 E1, .int .i64 E2] 3)) := ⟨_, (show World.drew (w1.alloc (.cells #[.int .i64 E1, .int .i64 E2] 3)) = (w1.drewN 1).alloc (.cells #[.int .i64 E1, .int .i64 E2] 3) from rfl).trans (alloc_eq_grow _ _)⟩
  try simp only [Act.put, List.setIfInBounds_toArray, List.set_cons_zero, List.set_cons_succ]
  refine wpAnyH_ready (rs := [11]) (by kernel_rfl) (by simp) ?_
  refine AllReadyH.cons (o := ⟨some 16, _, _, _, _, _⟩) rfl (fun Kr hKr => ?_) AllReadyH.nil
  -- operation 11: a call
  go_simp
  refine (or_any w1.heap.size E1 E2 _ ((cell_new (World.drew w1) #[.int .i64 E1, .int .i64 E2] 3 0).trans rfl) ((cell_new (World.drew w1) #[.int .i64 E1, .int .i64 E2] 3 1).trans rfl)).mono ?_
  rintro e V0 ⟨rfl, hv⟩
  subst hv
  show Kr _ _
  refine hKr.out _ _ ?_ (fun _ => ?_)
  · exact hS
  clear hKr Kr
  try simp only [Act.put, List.setIfInBounds_toArray, List.set_cons_zero, List.set_cons_succ]
  refine wpAnyH_take (i := 12) (oi := ⟨some 4, _, _, _, _, _⟩) (v := ?_) rfl (by kernel_rfl) (by kernel_rfl) (by kernel_rfl) (fun _ _ _ h => h) (Or.inl ⟨by rfl, ?_⟩) hS ?_
  rotate_left
  · intro W hW; go_simp; with_reducible rfl
  try simp only [Act.put, List.setIfInBounds_toArray, List.set_cons_zero, List.set_cons_succ]
  refine wpAnyH_done (by kernel_rfl) ?_ _
  obtain ⟨os, hfin⟩ := hS
  rw [← HCF.out]
  go_wp2
  go_ret
  exact ⟨rfl, HG.out.trans ⟨1, os, hfin⟩⟩
end Go.Proofs.YtbokhhialfbjcaaGreat

namespace Go.Proofs.YtbokhhialfbjcaaGreat
set_option maxRecDepth 100000
set_option linter.unusedVariables false
open Go.RowKit Go.Shelf Go.Maps

/-- a row's cells -/
def lkC : List Lk → List Value
  | [] => []
  | x :: l => .int .i64 x.b :: .int .i64 x.x :: .int .i64 x.h :: .int .i64 x.k :: lkC l
theorem length_lkC : ∀ l : List Lk, (lkC l).length = l.length * 4
  | [] => rfl
  | x :: l => by simp [lkC, length_lkC l]; omega
theorem lkC_append : ∀ a b : List Lk, lkC (a ++ b) = lkC a ++ lkC b
  | [], _ => rfl
  | x :: a, b => by simp [lkC, lkC_append a b]
theorem lkC_get : ∀ (l : List Lk) (i : Nat) (x : Lk), l[i]? = some x → (lkC l)[i * 4]? = some (.int .i64 x.b) ∧ (lkC l)[i * 4 + 1]? = some (.int .i64 x.x) ∧ (lkC l)[i * 4 + 2]? = some (.int .i64 x.h) ∧ (lkC l)[i * 4 + 3]? = some (.int .i64 x.k)
  | [], i, x, h => by simp at h
  | y :: l, 0, x, h => by simp at h; subst h; exact ⟨rfl, rfl, rfl, rfl⟩
  | y :: l, i + 1, x, h => by
    have := lkC_get l i x (by simpa using h)
    rw [show (i + 1) * 4 = i * 4 + 1 + 1 + 1 + 1 from by omega]
    exact this
theorem lkC_inv : ∀ (l : List Lk) (j : Nat) (u : Value), (lkC l)[j]? = some u → ∃ i x, l[i]? = some x ∧ ((j = i * 4 ∧ u = .int .i64 x.b) ∨ (j = i * 4 + 1 ∧ u = .int .i64 x.x) ∨ (j = i * 4 + 2 ∧ u = .int .i64 x.h) ∨ (j = i * 4 + 3 ∧ u = .int .i64 x.k))
  | [], j, u, h => by simp [lkC] at h
  | x :: l, 0, u, h => by simp [lkC] at h; exact ⟨0, x, rfl, .inl ⟨rfl, h.symm⟩⟩
  | x :: l, 1, u, h => by simp [lkC] at h; exact ⟨0, x, rfl, .inr (.inl ⟨rfl, h.symm⟩)⟩
  | x :: l, 2, u, h => by simp [lkC] at h; exact ⟨0, x, rfl, .inr (.inr (.inl ⟨rfl, h.symm⟩))⟩
  | x :: l, 3, u, h => by simp [lkC] at h; exact ⟨0, x, rfl, .inr (.inr (.inr ⟨rfl, h.symm⟩))⟩
  | x :: l, j + 4, u, h => by
    have h : (lkC l)[j]? = some u := by simpa [lkC] using h
    obtain ⟨i, y, h1, h2⟩ := lkC_inv l j u h
    refine ⟨i + 1, y, by simpa using h1, ?_⟩
    rcases h2 with ⟨h2, h3⟩ | ⟨h2, h3⟩ | ⟨h2, h3⟩ | ⟨h2, h3⟩
    · exact .inl ⟨by omega, h3⟩
    · exact .inr (.inl ⟨by omega, h3⟩)
    · exact .inr (.inr (.inl ⟨by omega, h3⟩))
    · exact .inr (.inr (.inr ⟨by omega, h3⟩))
theorem lkC_one (l : List Lk) : ∀ u ∈ lkC l, u.oneCell' = true := by
  intro u hu
  obtain ⟨j, hj, rfl⟩ := List.getElem_of_mem hu
  obtain ⟨i, x, _, h⟩ := lkC_inv l j _ (List.getElem?_eq_getElem hj)
  rcases h with ⟨_, h⟩ | ⟨_, h⟩ | ⟨_, h⟩ | ⟨_, h⟩ <;> rw [h] <;> rfl


theorem lk_facts : (Tryz.prog.info? 84).map (fun i => (i.zero, i.size, i.bytes)) = some (some (.agg #[.int .i64 0, .int .i64 0, .int .i64 0, .int .i64 0]), 4, 32) := by kernel_rfl

/-- a lock's cells at a place -/
structure CellsAt (W : World) (b o : Nat) (y : Lk) : Prop where
  c0 : W.cell? ⟨b, o, none⟩ = some (.int .i64 y.b)
  c1 : W.cell? ⟨b, o + 1, none⟩ = some (.int .i64 y.x)
  c2 : W.cell? ⟨b, o + 2, none⟩ = some (.int .i64 y.h)
  c3 : W.cell? ⟨b, o + 3, none⟩ = some (.int .i64 y.k)
theorem CellsAt.turn {S : Nat → Prop} {W V : World} {b o : Nat} {y : Lk} (h : CellsAt W b o y) (ht : Turn S W V) (hS : ¬ S b) : CellsAt V b o y :=
  ⟨ht.cell h.c0 hS, ht.cell h.c1 hS, ht.cell h.c2 hS, ht.cell h.c3 hS⟩

/-- locks lie there -/
def LkAt (W : World) (A : Option Addr) (l : List Lk) : Prop :=
  l = [] ∨ ∃ b o, A = some ⟨b, o, none⟩ ∧ b < W.heap.size ∧ ∀ i y, l[i]? = some y → CellsAt W b (o + i * 4) y
theorem LkAt.nil (W : World) (A : Option Addr) : LkAt W A [] := .inl rfl
theorem LkAt.turn {S : Nat → Prop} {W V : World} {A : Option Addr} {l : List Lk} (h : LkAt W A l) (ht : Turn S W V) (hS : ∀ b o, A = some ⟨b, o, none⟩ → l = [] ∨ ¬ S b) : LkAt V A l := by
  rcases h with h | ⟨b, o, rfl, hb, hc⟩
  · exact .inl h
  · rcases hS b o rfl with h | h
    · exact .inl h
    · exact .inr ⟨b, o, rfl, Nat.lt_of_lt_of_le hb ht.size, fun i y hy => (hc i y hy).turn ht h⟩
theorem LkAt.below {W V : World} {A : Option Addr} {l : List Lk} (h : LkAt W A l) (hb : Below W.heap.size W V) : LkAt V A l :=
  h.turn (S := fun _ => False) (Turn.ofBelow hb) (fun _ _ _ => .inr fun h => h)
theorem LkAt.get {W : World} {A : Option Addr} {l : List Lk} (h : LkAt W A l) {i : Nat} {y : Lk} (hy : l[i]? = some y) : ∃ b o, A = some ⟨b, o, none⟩ ∧ b < W.heap.size ∧ CellsAt W b (o + i * 4) y := by
  rcases h with rfl | ⟨b, o, e, hb, hc⟩
  · simp at hy
  · exact ⟨b, o, e, hb, hc i y hy⟩
theorem LkAt.left {W : World} {A : Option Addr} {l r : List Lk} (h : LkAt W A (l ++ r)) : LkAt W A l := by
  rcases h with h | ⟨b, o, e, hb, hc⟩
  · exact .inl (List.append_eq_nil_iff.1 h).1
  · exact .inr ⟨b, o, e, hb, fun i y hy => hc i y (by rw [List.getElem?_append_left (List.getElem?_eq_some_iff.1 hy).1]; exact hy)⟩
theorem LkAt.right {W : World} {b o n : Nat} {l r : List Lk} (h : LkAt W (some ⟨b, o, none⟩) (l ++ r)) (hn : l.length = n) : LkAt W (some ⟨b, o + n * 4, none⟩) r := by
  subst hn
  rcases h with h | ⟨b', o', e, hb, hc⟩
  · exact .inl (List.append_eq_nil_iff.1 h).2
  · injection e with e
    injection e with e1 e2
    subst e1; subst e2
    refine .inr ⟨b, _, rfl, hb, fun i y hy => ?_⟩
    have := hc (l.length + i) y (by rw [List.getElem?_append_right (by omega), Nat.add_sub_cancel_left]; exact hy)
    rw [show o + (l.length + i) * 4 = o + l.length * 4 + i * 4 from by omega] at this
    exact this

/-- a row of the call's own -/
def OwnLk (w : World) (base : Nat) (v : Value) (l : List Lk) : Prop := w.ownsRow base 84 4 v l.length (lkC l)
theorem OwnLk.nil (w : World) (base : Nat) : OwnLk w base (.slice none 0 0) [] := World.ownsRow_nil _ _ _ _
theorem OwnLk.form {w : World} {base : Nat} {v : Value} {l : List Lk} (h : OwnLk w base v l) : ∃ A c, v = .slice A l.length c ∧ l.length ≤ c ∧ LkAt w A l ∧ (A = none ∨ ∃ g, A = some ⟨g, 0, none⟩ ∧ base ≤ g ∧ g < w.heap.size) := by
  rcases h.2 with ⟨rfl, hn⟩ | ⟨g, cap, cur, rfl, hg, _, hnc, _⟩
  · have : l = [] := List.eq_nil_of_length_eq_zero hn
    subst this
    exact ⟨none, 0, rfl, Nat.le_refl _, .inl rfl, .inl rfl⟩
  · refine ⟨_, cap, rfl, hnc, .inr ⟨g, 0, rfl, (h.lt g rfl).2, fun i x hx => ?_⟩, .inr ⟨g, rfl, hg, (h.lt g rfl).2⟩⟩
    have hi : i < l.length := (List.getElem?_eq_some_iff.1 hx).1
    have ht := lkC_get l i x hx
    rw [Nat.zero_add]
    exact ⟨(h.cellAt (i * 4) (by omega)).trans ht.1, (h.cellAt (i * 4 + 1) (by omega)).trans ht.2.1, (h.cellAt (i * 4 + 2) (by omega)).trans ht.2.2.1, (h.cellAt (i * 4 + 3) (by omega)).trans ht.2.2.2⟩
theorem OwnLk.turn {S : Nat → Prop} {w w' : World} {base : Nat} {v : Value} {l : List Lk} (h : OwnLk w base v l) (ht : Turn S w w') (hS : ∀ k, v.ownBlock = some k → ¬ S k) : OwnLk w' base v l := by
  refine ⟨h.1, ?_⟩
  rcases h.2 with h2 | ⟨g, c, cur, e, hg, hh, rest⟩
  · exact .inl h2
  · exact .inr ⟨g, c, cur, e, hg, (ht.block g (lt_of_block hh) (hS g (by rw [e]; rfl))).trans hh, rest⟩
theorem OwnLk.below {w w' : World} {base : Nat} {v : Value} {l : List Lk} (h : OwnLk w base v l) (hb : Below w.heap.size w w') : OwnLk w' base v l := h.turn (S := fun _ => False) (Turn.ofBelow hb) (fun _ _ h => h)
theorem OwnLk.lt {w : World} {base : Nat} {v : Value} {l : List Lk} (h : OwnLk w base v l) : ∀ k, v.ownBlock = some k → base ≤ k ∧ k < w.heap.size := World.ownsRow.lt h
theorem OwnLk.le {w : World} {base b : Nat} {v : Value} {l : List Lk} (h : OwnLk w base v l) (hb : b ≤ base) : OwnLk w b v l := by
  refine ⟨h.1, ?_⟩
  rcases h.2 with h2 | ⟨g, c, cur, e, hg, rest⟩
  · exact .inl h2
  · exact .inr ⟨g, c, cur, e, Nat.le_trans hb hg, rest⟩

theorem lkCells {W : World} {b o : Nat} {l : List Lk} (hc : ∀ i y, l[i]? = some y → CellsAt W b (o + i * 4) y) : ∀ j u, (lkC l)[j]? = some u → W.cell? ⟨b, o + j, none⟩ = some u := by
  intro j u hu
  obtain ⟨i, x, hx, h⟩ := lkC_inv l j u hu
  obtain ⟨h0, h1, h2, h3⟩ := hc i x hx
  rcases h with ⟨rfl, rfl⟩ | ⟨rfl, rfl⟩ | ⟨rfl, rfl⟩ | ⟨rfl, rfl⟩
  · exact h0
  · exact h1
  · exact h2
  · exact h3

/-- 'append(l, m...)' -/
theorem run_append_lks {w : World} {base : Nat} {v : Value} {l m : List Lk} {A : Option Addr} {n c : Nat} (hown : OwnLk w base v l) (hm : LkAt w A m) (hn : m.length = n) (hA : A = none ∨ ∃ b o, A = some ⟨b, o, none⟩) (hlen : l.length + m.length ≤ 1000000) (hbase : base ≤ w.heap.size) (ty : TypeId) :
    ∃ v' w', (Builtin.append_ #[32, 32] ty #[v, .slice A n c]).run Tryz.prog w = .ok v' w' ∧ OwnLk w' base v' (l ++ m) ∧ w.grownBy w' v.ownBlock ∧ (v'.ownBlock = v.ownBlock ∨ v'.ownBlock = some w.heap.size) := by
  subst hn
  obtain ⟨i0, hi, hz, hs1, hb⟩ := parts_of lk_facts
  rcases hA with rfl | ⟨b, o, rfl⟩
  · have hm0 : m = [] := by
      rcases hm with h | ⟨b, o, e, _⟩
      · exact h
      · cases e
    subst hm0
    refine ⟨v, w, ?_, by rw [List.append_nil]; exact hown, ⟨rfl, rfl, rfl, Nat.le_refl _, fun _ _ _ => rfl⟩, .inl rfl⟩
    rcases hown.2 with ⟨rfl, hn⟩ | ⟨g, cap, cur, rfl, _, _, hnc, _⟩
    · simp [Builtin.append_, run_underlying Tryz.underlying32, sizeOf, typeInfo, hi, Builtin.lenOf, Builtin.firstCells]
    · simp [Builtin.append_, run_underlying Tryz.underlying32, sizeOf, typeInfo, hi, Builtin.lenOf, Builtin.firstCells, loadCells, storeCells, hnc]
  · have hcells : ∀ j u, (lkC m)[j]? = some u → w.cell? ⟨b, o + j, none⟩ = some u := by
      rcases hm with rfl | ⟨b', o', e, _, hc⟩
      · intro j u hu; simp [lkC] at hu
      · injection e with e
        injection e with e1 e2
        subst e1; subst e2
        exact lkCells hc
    obtain ⟨v', w', h1, h2, h3, _, h5⟩ := run_append_own_at w base 32 ty 84 i0 _ 4 32 Tryz.underlying32 hi hz hs1 hb rfl (by decide) v l.length (lkC l) hown ⟨b, o, none⟩ m.length c (lkC m) (length_lkC m) (fun j u hu => by rw [addr_add]; exact hcells j u hu) (lkC_one m) (by unfold maxLen; omega) (by omega) hbase
    refine ⟨v', w', h1, ?_, h3, h5⟩
    unfold OwnLk
    rw [List.length_append, lkC_append]
    exact h2

/-- the same, as an operation; 'append(l, x)' too, where the slice of one stands built -/
theorem wpList_append_lks {ops : Array Oper} {rest : List Oper} {o : Oper} {a : Act} {w : World} {Q : Exit → Act → World → Prop} (hgd : o.guard = none) (s x : Operand)
    (ho : o.op = .call { callee := .builtin .append, args := #[s, x], argTypes := #[32, 32] }) (base : Nat) (v : Value) (l m : List Lk) (hs : a.eval s = v) (hown : OwnLk w base v l)
    (A : Option Addr) (n c : Nat) (hx : a.eval x = .slice A n c) (hm : LkAt w A m) (hn : m.length = n) (hA : A = none ∨ ∃ b o, A = some ⟨b, o, none⟩) (hlen : l.length + m.length ≤ 1000000) (hbase : base ≤ w.heap.size)
    (h : ∀ v' w', OwnLk w' base v' (l ++ m) → w.grownBy w' v.ownBlock → (v'.ownBlock = v.ownBlock ∨ v'.ownBlock = some w.heap.size) → wpList Tryz.prog ops Q rest (a.put o.dst v') w') : wpList Tryz.prog ops Q (o :: rest) a w := by
  refine wpList_plain hgd fun K hK => ?_
  obtain ⟨v', w', hr, h2, h3, h4⟩ := run_append_lks (c := c) hown hm hn hA hlen hbase o.type
  unfold Oper.wp execOp
  simp only [ho, resolve, invoke, builtin, Sem.run_bind, Sem.run_pure, Result.andThen_ok, List.map_toArray, List.map_cons, List.map_nil, hs, hx, hr]
  exact hK _ _ (h v' w' h2 h3 h4)
theorem LkAt.one {W : World} {b : Nat} {y : Lk} (hb : b < W.heap.size) (h : CellsAt W b 0 y) : LkAt W (some ⟨b, 0, none⟩) [y] := .inr ⟨b, 0, rfl, hb, fun i z hz => by
  match i, hz with
  | 0, hz => injection hz with hz; subst hz; exact h
  | i + 1, hz => simp at hz⟩
theorem LkAt.new (w : World) (y : Lk) (t : TypeId) : LkAt (w.alloc (.cells #[.int .i64 y.b, .int .i64 y.x, .int .i64 y.h, .int .i64 y.k] t)) (some ⟨w.heap.size, 0, none⟩) [y] :=
  LkAt.one (by simp) ⟨(cell_new w _ _ 0).trans rfl, (cell_new w _ _ 1).trans rfl, (cell_new w _ _ 2).trans rfl, (cell_new w _ _ 3).trans rfl⟩

theorem LkAt.new1 (w : World) (o : Obj) (y : Lk) (t : TypeId) : LkAt ((w.alloc o).alloc (.cells #[.int .i64 y.b, .int .i64 y.x, .int .i64 y.h, .int .i64 y.k] t)) (some ⟨w.heap.size + 1, 0, none⟩) [y] := by
  have h := LkAt.new (w.alloc o) y t
  rwa [World.size_alloc] at h

theorem cloneK_any (A : Option Addr) (l : List Lk) (n cap : Nat) (w : World) (hl : l.length = n) (hn : n ≤ 100000) (hA : A = none ∨ ∃ b o, A = some ⟨b, o, none⟩) (hT : LkAt w A l) :
    Calls Tryz.prog 54 #[.slice A n cap] w fun e w' => ∃ A' k', e = .returned (.slice A' n k') ∧ OwnLk w' w.heap.size (.slice A' n k') l ∧ Below w.heap.size w w' := by
  subst hl
  rcases hA with rfl | ⟨b, o, rfl⟩
  · have hm0 : l = [] := by
      rcases hT with h | ⟨b, o, e, _⟩
      · exact h
      · cases e
    subst hm0
    refine (AnyE.slices_Clone_nil (P := Tryz.prog) (ρ := Tryz.cloneK_ren) Tryz.cloneK 0 cap w).mono ?_
    rintro e w' ⟨rfl, rfl⟩
    exact ⟨none, 0, rfl, World.ownsRow_nil _ _ _ _, Below.refl _ _⟩
  · obtain ⟨i0, hi, hz, hs1, hb⟩ := parts_of lk_facts
    have hcells : ∀ j u, (lkC l)[j]? = some u → w.cell? ⟨b, o + j, none⟩ = some u := by
      rcases hT with rfl | ⟨b', o', e, _, hc⟩
      · intro j u hu; simp [lkC] at hu
      · injection e with e
        injection e with e1 e2
        subst e1; subst e2
        exact lkCells hc
    refine (AnyE.slices_Clone (P := Tryz.prog) (ρ := Tryz.cloneK_ren) Tryz.cloneK i0 _ 4 32 hi hz hs1 hb rfl (by decide) Tryz.sizeOf84 b o l.length cap (lkC l) w (length_lkC l) (by unfold maxLen; omega) (by omega) hcells (lkC_one l)).mono ?_
    rintro e w' ⟨v, rfl, ho, _, hb⟩
    obtain ⟨A', k', rfl, _⟩ := OwnLk.form (l := l) ho
    exact ⟨A', k', rfl, ho, hb⟩
end Go.Proofs.YtbokhhialfbjcaaGreat

namespace Go.Proofs.YtbokhhialfbjcaaGreat
set_option maxRecDepth 100000
set_option linter.unusedVariables false
open Go.RowKit Go.Shelf Go.Sort

theorem Gr.drew (w : World) : Gr w (World.drew w) := ⟨1, #[], by rw [grow_empty]; rfl⟩
theorem Gr.cell {w W : World} (h : Gr w W) {a : Addr} {v : Value} (hc : w.cell? a = some v) (hb : a.block < w.heap.size) : W.cell? a = some v := (h.below.cell (p := a) hb).trans hc

set_option maxHeartbeats 1000000 in
theorem place1_any (ga gs b o i n k : Nat) (y z : Lk) (hin : i < n) (w : World) (h1 : w.cell? ⟨ga, 0, none⟩ = some (.slice (some ⟨b, o, none⟩) n k)) (hs : LB w gs z) (hc : CellsAt w b (o + i * 4) y) :
    Calls Tryz.prog 93 #[.int .i64 (i : Int), .pointer (some ⟨ga, 0, none⟩), .pointer (some ⟨gs, 0, none⟩)] w fun e w' => e = .returned (.bool (decide (0 ≤ cmpI y z))) ∧ Gr w w' := by
  have k0 : ∀ V, Gr w V → V.cell? ⟨ga, 0, none⟩ = some (.slice (some ⟨b, o, none⟩) n k) := fun V hV => hV.cell h1 (block_lt_of_cell (a := ⟨ga, 0, none⟩) h1)
  have k1 : ∀ V, Gr w V → V.cell? ⟨gs, 0, none⟩ = some (.int .i64 z.b) := fun V hV => hV.cell hs.b hs.lt
  have k2 : ∀ V, Gr w V → V.cell? ⟨gs, 1, none⟩ = some (.int .i64 z.x) := fun V hV => hV.cell hs.x hs.lt
  have k3 : ∀ V, Gr w V → V.cell? ⟨gs, 2, none⟩ = some (.int .i64 z.h) := fun V hV => hV.cell hs.h hs.lt
  have k4 : ∀ V, Gr w V → V.cell? ⟨gs, 3, none⟩ = some (.int .i64 z.k) := fun V hV => hV.cell hs.k hs.lt
  have hb := block_lt_of_cell (a := ⟨b, o + i * 4, none⟩) hc.c0
  have k5 : ∀ V, Gr w V → V.cell? ⟨b, o + i * 4, none⟩ = some (.int .i64 y.b) := fun V hV => hV.cell hc.c0 hb
  have k6 : ∀ V, Gr w V → V.cell? ⟨b, o + i * 4 + 1, none⟩ = some (.int .i64 y.x) := fun V hV => hV.cell hc.c1 hb
  have k7 : ∀ V, Gr w V → V.cell? ⟨b, o + i * 4 + 2, none⟩ = some (.int .i64 y.h) := fun V hV => hV.cell hc.c2 hb
  have k8 : ∀ V, Gr w V → V.cell? ⟨b, o + i * 4 + 3, none⟩ = some (.int .i64 y.k) := fun V hV => hV.cell hc.c3 hb
  obtain ⟨c, hce⟩ : ∃ c, c = cmpI y z := ⟨_, rfl⟩
  have HC := Lib.hid (fun V => hce ▸ compare_any y z V)
  rw [← hce]
  clear hce hs hc h1 hb
  go_enter Tryz.func93, Tryz.ntmps93
  go_upto_region 1 with fail
  refine wp_region_held_drew (S := Gr w) (by kernel_rfl) (Gr.drew w) (fun _ => ?_)
  have hS : (Gr w) (World.drew w) := Gr.drew w
  refine wpAnyH_take (i := 0) (oi := ⟨some 5, _, _, _, _, _⟩) (v := ?_) rfl (by kernel_rfl) (by kernel_rfl) (by kernel_rfl) (fun _ _ _ h => h) (Or.inl ⟨by rfl, ?_⟩) hS ?_
  rotate_left
  · intro W hW; go_simp; with_reducible rfl
  try simp only [Act.put, List.setIfInBounds_toArray, List.set_cons_zero, List.set_cons_succ]
  refine wpAnyH_take (i := 1) (oi := ⟨some 6, _, _, _, _, _⟩) (v := ?_) rfl (by kernel_rfl) (by kernel_rfl) (by kernel_rfl) (fun _ _ _ h => h) (Or.inl ⟨by rfl, ?_⟩) hS ?_
  rotate_left
  · intro W hW; go_simp; with_reducible rfl
  try simp only [Act.put, List.setIfInBounds_toArray, List.set_cons_zero, List.set_cons_succ]
  refine wpAnyH_take (i := 2) (oi := ⟨some 7, _, _, _, _, _⟩) (v := ?_) rfl (by kernel_rfl) (by kernel_rfl) (by kernel_rfl) (fun _ _ _ h => h) (Or.inl ⟨by rfl, ?_⟩) hS ?_
  rotate_left
  · intro W hW; go_simp; with_reducible rfl
  try simp only [Act.put, List.setIfInBounds_toArray, List.set_cons_zero, List.set_cons_succ]
  refine wpAnyH_take (i := 3) (oi := ⟨some 8, _, _, _, _, _⟩) (v := ?_) rfl (by kernel_rfl) (by kernel_rfl) (by kernel_rfl) (fun _ _ _ h => h) (Or.inl ⟨by rfl, ?_⟩) hS ?_
  rotate_left
  · intro W hW; go_simp; with_reducible rfl
  try simp only [Act.put, List.setIfInBounds_toArray, List.set_cons_zero, List.set_cons_succ]
  refine wpAnyH_take (i := 4) (oi := ⟨some 9, _, _, _, _, _⟩) (v := ?_) rfl (by kernel_rfl) (by kernel_rfl) (by kernel_rfl) (fun _ _ _ h => h) (Or.inl ⟨by rfl, ?_⟩) hS ?_
  rotate_left
  · intro W hW; go_simp; with_reducible rfl
  try simp only [Act.put, List.setIfInBounds_toArray, List.set_cons_zero, List.set_cons_succ]
  refine wpAnyH_ready (rs := [5]) (by kernel_rfl) (by simp) ?_
  refine AllReadyH.cons (o := ⟨some 10, _, _, _, _, _⟩) rfl (fun Kr hKr => ?_) AllReadyH.nil
  -- operation 5: a call
  go_simp
  refine (HC.out _).mono ?_
  rintro e V0 ⟨rfl, hv⟩
  show Kr _ _
  refine hKr.out _ _ ?_ (fun _ => ?_)
  · exact hS.trans hv
  clear hKr Kr
  replace hS : (Gr w) V0 := hS.trans hv
  try simp only [Act.put, List.setIfInBounds_toArray, List.set_cons_zero, List.set_cons_succ]
  refine wpAnyH_take (i := 6) (oi := ⟨some 11, _, _, _, _, _⟩) (v := ?_) rfl (by kernel_rfl) (by kernel_rfl) (by kernel_rfl) (fun _ _ _ h => h) (Or.inl ⟨by rfl, ?_⟩) hS ?_
  rotate_left
  · intro W hW; go_simp; with_reducible rfl
  try simp only [Act.put, List.setIfInBounds_toArray, List.set_cons_zero, List.set_cons_succ]
  refine wpAnyH_take (i := 7) (oi := ⟨some 4, _, _, _, _, _⟩) (v := ?_) rfl (by kernel_rfl) (by kernel_rfl) (by kernel_rfl) (fun _ _ _ h => h) (Or.inl ⟨by rfl, ?_⟩) hS ?_
  rotate_left
  · intro W hW; go_simp; with_reducible rfl
  try simp only [Act.put, List.setIfInBounds_toArray, List.set_cons_zero, List.set_cons_succ]
  refine wpAnyH_done (by kernel_rfl) ?_ _
  rename_i V1 _
  go_wp2
  go_ret
  exact ⟨rfl, hS⟩

/-- a list that rises, parted -/
theorem lg_split {l : List Lk} (h : l.Pairwise fun y z => y.q < z.q) (q : Int) : ∃ L1 L2, l = L1 ++ L2 ∧ (∀ y ∈ L1, y.q < q) ∧ ∀ y ∈ L2, q ≤ y.q := by
  induction l with
  | nil => exact ⟨[], [], rfl, by simp, by simp⟩
  | cons a l ih =>
    obtain ⟨h1, h2⟩ := List.pairwise_cons.1 h
    by_cases e : a.q < q
    · obtain ⟨L1, L2, rfl, i1, i2⟩ := ih h2
      refine ⟨a :: L1, L2, rfl, fun y hy => ?_, i2⟩
      rcases List.mem_cons.1 hy with rfl | hy
      · exact e
      · exact i1 y hy
    · refine ⟨[], a :: l, rfl, by simp, fun y hy => ?_⟩
      rcases List.mem_cons.1 hy with rfl | hy
      · omega
      · have := h1 y hy; omega
theorem len_rise : ∀ (l : List Lk) (m : Int) (N : Nat), (l.Pairwise fun y z => y.q < z.q) → (∀ y ∈ l, m ≤ y.q ∧ y.q < m + N) → l.length ≤ N
  | [], _, _, _, _ => Nat.zero_le _
  | a :: l, m, N, h, hb => by
    obtain ⟨h1, h2⟩ := List.pairwise_cons.1 h
    have ha := hb a (by simp)
    obtain ⟨M, hM⟩ : ∃ M : Nat, (M : Int) = m + N - (a.q + 1) := ⟨(m + N - (a.q + 1)).toNat, by omega⟩
    have := len_rise l (a.q + 1) M h2 fun y hy => by
      have k1 := h1 y hy
      have k2 := hb y (by simp [hy])
      omega
    simp only [List.length_cons]
    omega
theorem LG.len {l : List Lk} (h : LG l) : l.length ≤ 16384 := len_rise l 0 16384 h.up fun y hy => by
  have h1 := (h.may y hy).b
  have h2 := (h.may y hy).x
  unfold Lk.q
  omega
set_option maxHeartbeats 1000000 in
/-- sort.Search: the first place from which on the function says true -/
theorem search_any (g : Nat) (cb : Array Value) (n m : Nat) (w : World) (eg : ∀ args w, (callFunc g args).run Tryz.prog w = .ok (.enter g args) w) (hm : m ≤ n) (hn : n ≤ 100000)
    (hf : ∀ V (i : Nat), Gr w V → i < n → Calls Tryz.prog g (#[.int .i64 (i : Int)] ++ cb) V fun e w' => e = .returned (.bool (decide (m ≤ i))) ∧ Gr V w') :
    Calls Tryz.prog 92 #[.int .i64 (n : Int), .func (.func g) #[] cb] w fun e w' => e = .returned (.int .i64 (m : Int)) ∧ Gr w w' := by
  have HF := Lib.hid hf
  clear hf
  go_enter Tryz.func92, Tryz.ntmps92
  go_wp2_with fail
  go_loopg [5, 6] n (fun kx s5 s6 wr => ∃ (lo hi : Nat), s5 = .int .i64 (lo : Int) ∧ s6 = .int .i64 (hi : Int) ∧ lo ≤ m ∧ m ≤ hi ∧ hi ≤ n ∧ hi - lo ≤ kx ∧ Hid (Gr w wr))
  case atStart => exact ⟨0, n, rfl, rfl, Nat.zero_le _, hm, Nat.le_refl _, by omega, Gr.refl w⟩
  case round =>
    obtain ⟨lo, hi, rfl, rfl, hlo, hhi, hin, hg, HG⟩ := hrel
    by_cases hlt : lo < hi
    · have hc := HF.out wr ((lo + hi) / 2) HG.out (by omega)
      rw [show (((lo + hi) / 2 : Nat) : Int) = ((lo : Int) + (hi : Int)) / 2 by omega] at hc
      by_cases hp : m ≤ (lo + hi) / 2
      · rw [decide_eq_true hp] at hc
        go_wp2_with (go_at_fn g; refine hc.mono ?_; rintro e w' ⟨rfl, hgv⟩)
        have HV := Lib.hid (HG.out.trans hgv)
        clear hgv
        go_roundg ((lo + hi) / 2 - lo)
        case measure => omega
        case rel => exact ⟨lo, (lo + hi) / 2, rfl, by rw [show ((lo : Int) + (hi : Int)) / 2 = (((lo + hi) / 2 : Nat) : Int) by omega], hlo, hp, by omega, Nat.le_refl _, HV.out⟩
      · rw [decide_eq_false hp] at hc
        go_wp2_with (go_at_fn g; refine hc.mono ?_; rintro e w' ⟨rfl, hgv⟩)
        have HV := Lib.hid (HG.out.trans hgv)
        clear hgv
        go_roundg (hi - ((lo + hi) / 2 + 1))
        case measure => omega
        case rel => exact ⟨(lo + hi) / 2 + 1, hi, by rw [show ((lo : Int) + (hi : Int)) / 2 + 1 = (((lo + hi) / 2 + 1 : Nat) : Int) by omega], rfl, by omega, hhi, hin, Nat.le_refl _, HV.out⟩
    · obtain rfl : hi = lo := by omega
      obtain rfl : m = hi := by omega
      go_wp2
      go_ret
      exact ⟨rfl, HG.out⟩

def dfl : Lk := ⟨0, 0, 0, 0⟩

set_option maxHeartbeats 1000000 in
theorem place_any (A : Option Addr) (l : List Lk) (n k : Nat) (x b : Int) (hx : 0 ≤ x ∧ x ≤ 63) (hl : LG l) (hn : l.length = n) (w : World) (hL : LkAt w A l) :
    Calls Tryz.prog 63 #[.slice A n k, .int .i64 x, .int .i64 b] w fun e w' => ∃ L1 L2 t, l = L1 ++ L2 ∧ (∀ y ∈ L1, y.q < b * 64 + x) ∧ (∀ y ∈ L2, b * 64 + x ≤ y.q) ∧ (t = true → ∃ y r, L2 = y :: r ∧ y.q = b * 64 + x) ∧ (t = false → ∀ y ∈ L2, b * 64 + x < y.q) ∧
      e = .returned (.tuple #[.int .i64 (L1.length : Int), .bool t]) ∧ Below w.heap.size w w' := by
  obtain ⟨z, hz⟩ : ∃ z : Lk, z = ⟨b, x, 0, 0⟩ := ⟨_, rfl⟩
  have hzq : z.q = b * 64 + x := by rw [hz]; rfl
  have hzx : 0 ≤ z.x ∧ z.x ≤ 63 := by rw [hz]; exact hx
  obtain ⟨wx, hw0⟩ : ∃ wx, wx = w.alloc (.cells #[.slice A n k] 32) := ⟨_, rfl⟩
  obtain ⟨w1, hw1⟩ : ∃ wy, wy = wx.alloc (.cells #[.int .i64 b, .int .i64 x, .int .i64 0, .int .i64 0] 84) := ⟨_, rfl⟩
  have hs : wx.heap.size = w.heap.size + 1 := by rw [hw0]; simp
  have hb0 : Below w.heap.size w w1 := by rw [hw1, hw0]; exact below_two (below_new _ _) (below_new _ _)
  have c1 : w1.cell? ⟨w.heap.size, 0, none⟩ = some (.slice A n k) := by rw [hw1, hw0]; exact cell_al _ ((cell_new w _ _ 0).trans rfl)
  have c2 : LB w1 (w.heap.size + 1) z := by
    have := LB.new wx z 84
    rw [hs, hz] at this
    rw [hw1, hz]; exact this
  have hL1 := hL.below hb0
  have hn2 := hl.len
  obtain ⟨p, hp⟩ : ∃ p : Nat → Bool, p = fun i => decide (0 ≤ cmpI (l.getD i dfl) z) := ⟨_, rfl⟩
  have pI : ∀ i y, l[i]? = some y → p i = decide (z.q ≤ y.q) := fun i y hy => by
    rw [hp]
    simp only [List.getD_eq_getElem?_getD, hy, Option.getD_some]
    exact decide_eq_decide.2 (cmpI_facts y z (hl.may y (List.mem_of_getElem? hy)).x hzx).2.2
  obtain ⟨L1, L2, hl12, g1, g2⟩ := lg_split hl.up z.q
  have p1 : ∀ i, i < L1.length → p i = false := fun i hi => by
    have e : l[i]? = some L1[i] := by rw [hl12, List.getElem?_append_left hi, List.getElem?_eq_getElem hi]
    rw [pI i _ e]
    have := g1 _ (List.getElem_mem hi)
    simp; omega
  have p2 : ∀ i, L1.length ≤ i → i < n → p i = true := fun i hi hin => by
    have hi2 : i - L1.length < L2.length := by rw [← hn, hl12, List.length_append] at hin; omega
    have e : l[i]? = some L2[i - L1.length] := by rw [hl12, List.getElem?_append_right hi, List.getElem?_eq_getElem hi2]
    rw [pI i _ e]
    have := g2 _ (List.getElem_mem hi2)
    simp; omega
  have hm1 : L1.length ≤ n := by rw [← hn, hl12, List.length_append]; omega
  have eg : ∀ args w, (callFunc 93 args).run Tryz.prog w = .ok (.enter 93 args) w := enters_of Tryz.func93 (by kernel_rfl) rfl
  have hS := search_any 93 #[.pointer (some ⟨w.heap.size, 0, none⟩), .pointer (some ⟨w.heap.size + 1, 0, none⟩)] n L1.length w1 eg hm1 (by omega)
    (fun V i hG hi => by
      have hi' : i < l.length := by omega
      obtain ⟨bb, oo, rfl, hbb, hcc⟩ := hL1.get (List.getElem?_eq_getElem hi')
      refine (place1_any w.heap.size (w.heap.size + 1) bb oo i n k l[i] z hi V (hG.cell c1 (block_lt_of_cell (a := ⟨w.heap.size, 0, none⟩) c1)) (c2.below hG.below) (hcc.turn (S := fun _ => False) (Turn.ofBelow hG.below) (fun h => h))).mono ?_
      rintro e w' ⟨rfl, hg⟩
      refine ⟨?_, hg⟩
      have e1 : decide (0 ≤ cmpI l[i] z) = p i := by rw [hp]; simp only [List.getD_eq_getElem?_getD, List.getElem?_eq_getElem hi', Option.getD_some]
      rw [e1]
      rcases Nat.lt_or_ge i L1.length with h | h
      · rw [p1 i h, decide_eq_false (by omega)]
      · rw [p2 i h hi, decide_eq_true h])
  have HS := Lib.hid hS
  have HB := Lib.hid hb0
  have HL := Lib.hid hL1
  have HC1 := Lib.hid c1
  have HC2 := Lib.hid c2
  have HP := Lib.hid (show l = L1 ++ L2 ∧ (∀ y ∈ L1, y.q < b * 64 + x) ∧ (∀ y ∈ L2, b * 64 + x ≤ y.q) by rw [← hzq]; exact ⟨hl12, g1, g2⟩)
  have HZ := Lib.hid hzq
  have HN := Lib.hid hn
  have HUP := Lib.hid hl.up
  have HX := Lib.hid (fun y (hy : y ∈ l) => cmpI_facts y z (hl.may y hy).x hzx)
  obtain ⟨m, hm⟩ : ∃ m, m = L1.length := ⟨_, rfl⟩
  rw [← hm] at HS hm1
  have HM := Lib.hid hm
  have hm2 : m ≤ 16384 := by omega
  clear hz hS hb0 hL1 c1 c2 hl12 g1 g2 p1 p2 pI hp eg hzq hn hL hl hx hzx hm
  go_enter Tryz.func63, Tryz.ntmps63
  go_wp2_with fail
  rw [← hw0, ← hw1]
  have c1 := HC1.out
  refine HS.out.mono ?_
  rintro e w2 ⟨rfl, hg⟩
  have hg : Gr w1 w2 := hg
  have HG := Lib.hid hg
  have c2 := hg.cell c1 (block_lt_of_cell (a := ⟨w.heap.size, 0, none⟩) c1)
  have HL2 := Lib.hid (HL.out.below hg.below)
  have HB2 := Lib.hid (HB.out.trans (hg.below.mono HB.out.size))
  have HZ2 := Lib.hid (HC2.out.below hg.below)
  clear hg c1
  have hlt0 := block_lt_of_cell (a := ⟨w.heap.size, 0, none⟩) c2
  have k0 : ∀ V, Gr w2 V → V.cell? ⟨w.heap.size, 0, none⟩ = some (.slice A n k) := fun V hV => hV.cell c2 hlt0
  have HW := Lib.hid (show Below w.heap.size w w2 from HB2.out)
  obtain ⟨hp0, hp1, hp2⟩ := HP.out
  rcases L2 with _ | ⟨y, r⟩
  · have hmn : m = n := by have := HN.out; rw [hp0, List.append_nil] at this; have := HM.out; omega
    subst hmn
    have hb : decide (m < m) = false := decide_eq_false (by omega)
    have HP0 := Lib.hid hp0
    have HP1 := Lib.hid hp1
    clear hp0 hp1 hp2 c2
    go_upto_region 3 with fail
    refine wp_region_held_drew (S := Gr w2) (by kernel_rfl) (Gr.drew w2) (fun _ => ?_)
    have hS : (Gr w2) (World.drew w2) := Gr.drew w2
    refine wpAnyH_take (i := 0) (oi := ⟨some 17, _, _, _, _, _⟩) (v := ?_) rfl (by kernel_rfl) (by kernel_rfl) (by kernel_rfl) (fun _ _ _ h => h) (Or.inl ⟨by rfl, ?_⟩) hS ?_
    rotate_left
    · intro W hW; go_simp; with_reducible rfl
    try simp only [Act.put, List.setIfInBounds_toArray, List.set_cons_zero, List.set_cons_succ]
    refine wpAnyH_take (i := 1) (oi := ⟨some 18, _, _, _, _, _⟩) (v := ?_) rfl (by kernel_rfl) (by kernel_rfl) (by kernel_rfl) (fun _ _ _ h => h) (Or.inl ⟨by rfl, ?_⟩) hS ?_
    rotate_left
    · intro W hW; go_simp; with_reducible rfl
    try simp only [Act.put, List.setIfInBounds_toArray, List.set_cons_zero, List.set_cons_succ]
    refine wpAnyH_take (i := 2) (oi := ⟨some 19, _, _, _, _, _⟩) (v := ?_) rfl (by kernel_rfl) (by kernel_rfl) (by kernel_rfl) (fun _ _ _ h => h) (Or.inl ⟨by rfl, ?_⟩) hS ?_
    rotate_left
    · intro W hW; go_simp; with_reducible rfl
    try simp only [Act.put, List.setIfInBounds_toArray, List.set_cons_zero, List.set_cons_succ]
    refine wpAnyH_take (i := 3) (oi := ⟨some 20, _, _, _, _, _⟩) (v := ?_) rfl (by kernel_rfl) (by kernel_rfl) (by kernel_rfl) (fun _ _ _ h => h) (Or.inl ⟨by rfl, ?_⟩) hS ?_
    rotate_left
    · intro W hW; go_simp; with_reducible rfl
    try simp only [Act.put, List.setIfInBounds_toArray, List.set_cons_zero, List.set_cons_succ]
    refine wpAnyH_take (i := 4) (oi := ⟨some 21, _, _, _, _, _⟩) (v := ?_) rfl (by kernel_rfl) (by kernel_rfl) (by kernel_rfl) (fun _ _ _ h => h) (Or.inl ⟨by rfl, ?_⟩) hS ?_
    rotate_left
    · intro W hW; go_simp; with_reducible rfl
    try simp only [Act.put, List.setIfInBounds_toArray, List.set_cons_zero, List.set_cons_succ]
    refine wpAnyH_take (i := 5) (oi := ⟨some 22, _, _, _, _, _⟩) (v := ?_) rfl (by kernel_rfl) (by kernel_rfl) (by kernel_rfl) (fun _ _ _ h => h) (Or.inl ⟨by rfl, ?_⟩) hS ?_
    rotate_left
    · intro W hW; go_simp; with_reducible rfl
    try simp only [Act.put, List.setIfInBounds_toArray, List.set_cons_zero, List.set_cons_succ]
    refine wpAnyH_take (i := 6) (oi := ⟨some 23, _, _, _, _, _⟩) (v := undef) rfl (by kernel_rfl) (by kernel_rfl) (by kernel_rfl) (fun _ _ _ h => h) (Or.inr ⟨by rfl, rfl⟩) hS ?_
    try simp only [Act.put, List.setIfInBounds_toArray, List.set_cons_zero, List.set_cons_succ]
    refine wpAnyH_take (i := 7) (oi := ⟨some 24, _, _, _, _, _⟩) (v := undef) rfl (by kernel_rfl) (by kernel_rfl) (by kernel_rfl) (fun _ _ _ h => h) (Or.inr ⟨by rfl, rfl⟩) hS ?_
    try simp only [Act.put, List.setIfInBounds_toArray, List.set_cons_zero, List.set_cons_succ]
    refine wpAnyH_take (i := 8) (oi := ⟨some 25, _, _, _, _, _⟩) (v := undef) rfl (by kernel_rfl) (by kernel_rfl) (by kernel_rfl) (fun _ _ _ h => h) (Or.inr ⟨by rfl, rfl⟩) hS ?_
    try simp only [Act.put, List.setIfInBounds_toArray, List.set_cons_zero, List.set_cons_succ]
    refine wpAnyH_take (i := 9) (oi := ⟨some 26, _, _, _, _, _⟩) (v := undef) rfl (by kernel_rfl) (by kernel_rfl) (by kernel_rfl) (fun _ _ _ h => h) (Or.inr ⟨by rfl, rfl⟩) hS ?_
    try simp only [Act.put, List.setIfInBounds_toArray, List.set_cons_zero, List.set_cons_succ]
    refine wpAnyH_take (i := 10) (oi := ⟨some 27, _, _, _, _, _⟩) (v := undef) rfl (by kernel_rfl) (by kernel_rfl) (by kernel_rfl) (fun _ _ _ h => h) (Or.inr ⟨by rfl, rfl⟩) hS ?_
    try simp only [Act.put, List.setIfInBounds_toArray, List.set_cons_zero, List.set_cons_succ]
    refine wpAnyH_take (i := 11) (oi := ⟨some 28, _, _, _, _, _⟩) (v := undef) rfl (by kernel_rfl) (by kernel_rfl) (by kernel_rfl) (fun _ _ _ h => h) (Or.inr ⟨by rfl, rfl⟩) hS ?_
    try simp only [Act.put, List.setIfInBounds_toArray, List.set_cons_zero, List.set_cons_succ]
    refine wpAnyH_take (i := 12) (oi := ⟨some 29, _, _, _, _, _⟩) (v := undef) rfl (by kernel_rfl) (by kernel_rfl) (by kernel_rfl) (fun _ _ _ h => h) (Or.inr ⟨by rfl, rfl⟩) hS ?_
    try simp only [Act.put, List.setIfInBounds_toArray, List.set_cons_zero, List.set_cons_succ]
    refine wpAnyH_take (i := 13) (oi := ⟨some 30, _, _, _, _, _⟩) (v := ?_) rfl (by kernel_rfl) (by kernel_rfl) (by kernel_rfl) (fun _ _ _ h => h) (Or.inl ⟨by rfl, ?_⟩) hS ?_
    rotate_left
    · intro W hW; go_simp; with_reducible rfl
    try simp only [Act.put, List.setIfInBounds_toArray, List.set_cons_zero, List.set_cons_succ]
    refine wpAnyH_take (i := 14) (oi := ⟨some 6, _, _, _, _, _⟩) (v := ?_) rfl (by kernel_rfl) (by kernel_rfl) (by kernel_rfl) (fun _ _ _ h => h) (Or.inl ⟨by rfl, ?_⟩) hS ?_
    rotate_left
    · intro W hW; go_simp; with_reducible rfl
    try simp only [Act.put, List.setIfInBounds_toArray, List.set_cons_zero, List.set_cons_succ]
    refine wpAnyH_take (i := 15) (oi := ⟨some 7, _, _, _, _, _⟩) (v := ?_) rfl (by kernel_rfl) (by kernel_rfl) (by kernel_rfl) (fun _ _ _ h => h) (Or.inl ⟨by rfl, ?_⟩) hS ?_
    rotate_left
    · intro W hW; go_simp; with_reducible rfl
    try simp only [Act.put, List.setIfInBounds_toArray, List.set_cons_zero, List.set_cons_succ]
    refine wpAnyH_done (by kernel_rfl) ?_ _
    go_wp2
    go_ret2
    exact ⟨L1, [], false, HP0.out, HP1.out, by simp, (fun h => by cases h), by simp, by rw [← HM.out]; rfl, HW.out.trans (hS.below.mono HW.out.size)⟩
  · have hlen : L1.length + (r.length + 1) = n := by have := HN.out; rw [hp0, List.length_append, List.length_cons] at this; exact this
    have hmn : m < n := by have := HM.out; omega
    have hb : decide (m < n) = true := decide_eq_true hmn
    obtain ⟨bb, oo, rfl, hbb, hcc⟩ := HL2.out.get (i := m) (y := y) (by rw [hp0, HM.out, List.getElem?_append_right (Nat.le_refl _), Nat.sub_self]; rfl)
    have hy := HX.out y (by rw [hp0]; simp)
    have hyq : b * 64 + x ≤ y.q := hp2 y (by simp)
    obtain ⟨c, hce⟩ : ∃ c, c = cmpI y z := ⟨_, rfl⟩
    have HC := Lib.hid (fun V => hce ▸ compare_any y z V)
    have h5 : ∀ V, Gr w2 V → V.cell? ⟨w.heap.size + 1, 0, none⟩ = some (.int .i64 z.b) := fun V hV => hV.cell HZ2.out.b HZ2.out.lt
    have h6 : ∀ V, Gr w2 V → V.cell? ⟨w.heap.size + 1, 1, none⟩ = some (.int .i64 z.x) := fun V hV => hV.cell HZ2.out.x HZ2.out.lt
    have h7 : ∀ V, Gr w2 V → V.cell? ⟨w.heap.size + 1, 2, none⟩ = some (.int .i64 z.h) := fun V hV => hV.cell HZ2.out.h HZ2.out.lt
    have h8 : ∀ V, Gr w2 V → V.cell? ⟨w.heap.size + 1, 3, none⟩ = some (.int .i64 z.k) := fun V hV => hV.cell HZ2.out.k HZ2.out.lt
    have j5 : ∀ V, Gr w2 V → V.cell? ⟨bb, oo + m * 4, none⟩ = some (.int .i64 y.b) := fun V hV => hV.cell hcc.c0 hbb
    have j6 : ∀ V, Gr w2 V → V.cell? ⟨bb, oo + m * 4 + 1, none⟩ = some (.int .i64 y.x) := fun V hV => hV.cell hcc.c1 hbb
    have j7 : ∀ V, Gr w2 V → V.cell? ⟨bb, oo + m * 4 + 2, none⟩ = some (.int .i64 y.h) := fun V hV => hV.cell hcc.c2 hbb
    have j8 : ∀ V, Gr w2 V → V.cell? ⟨bb, oo + m * 4 + 3, none⟩ = some (.int .i64 y.k) := fun V hV => hV.cell hcc.c3 hbb
    have HP0 := Lib.hid hp0
    have HP1 := Lib.hid hp1
    have HP2 := Lib.hid hp2
    have HE := Lib.hid (show (c = 0 ↔ y.q = b * 64 + x) by rw [hce, ← HZ.out]; exact hy.2.1)
    have HLL : Hid (∀ u ∈ r, y.q < u.q) := (by
      have h := HUP.out
      rw [HP0.out] at h
      exact (List.pairwise_cons.1 (List.pairwise_append.1 h).2.1).1)
    clear hp0 hp1 hp2 c2 hce hy hyq hcc hlen
    obtain ⟨t, ht⟩ : ∃ t, t = (c == 0) := ⟨_, rfl⟩
    have hb2 : (c == 0) = t := ht.symm
    have HE2 := Lib.hid (show (t = true ↔ c = 0) by rw [ht]; simp)
    clear ht
    go_upto_region 3 with fail
    refine wp_region_held_drew (S := Gr w2) (by kernel_rfl) (Gr.drew w2) (fun _ => ?_)
    have hS : (Gr w2) (World.drew w2) := Gr.drew w2
    refine wpAnyH_take (i := 0) (oi := ⟨some 17, _, _, _, _, _⟩) (v := ?_) rfl (by kernel_rfl) (by kernel_rfl) (by kernel_rfl) (fun _ _ _ h => h) (Or.inl ⟨by rfl, ?_⟩) hS ?_
    rotate_left
    · intro W hW; go_simp; with_reducible rfl
    try simp only [Act.put, List.setIfInBounds_toArray, List.set_cons_zero, List.set_cons_succ]
    refine wpAnyH_take (i := 1) (oi := ⟨some 18, _, _, _, _, _⟩) (v := ?_) rfl (by kernel_rfl) (by kernel_rfl) (by kernel_rfl) (fun _ _ _ h => h) (Or.inl ⟨by rfl, ?_⟩) hS ?_
    rotate_left
    · intro W hW; go_simp; with_reducible rfl
    try simp only [Act.put, List.setIfInBounds_toArray, List.set_cons_zero, List.set_cons_succ]
    refine wpAnyH_take (i := 2) (oi := ⟨some 19, _, _, _, _, _⟩) (v := ?_) rfl (by kernel_rfl) (by kernel_rfl) (by kernel_rfl) (fun _ _ _ h => h) (Or.inl ⟨by rfl, ?_⟩) hS ?_
    rotate_left
    · intro W hW; go_simp; with_reducible rfl
    try simp only [Act.put, List.setIfInBounds_toArray, List.set_cons_zero, List.set_cons_succ]
    refine wpAnyH_take (i := 3) (oi := ⟨some 20, _, _, _, _, _⟩) (v := ?_) rfl (by kernel_rfl) (by kernel_rfl) (by kernel_rfl) (fun _ _ _ h => h) (Or.inl ⟨by rfl, ?_⟩) hS ?_
    rotate_left
    · intro W hW; go_simp; with_reducible rfl
    try simp only [Act.put, List.setIfInBounds_toArray, List.set_cons_zero, List.set_cons_succ]
    refine wpAnyH_take (i := 4) (oi := ⟨some 21, _, _, _, _, _⟩) (v := ?_) rfl (by kernel_rfl) (by kernel_rfl) (by kernel_rfl) (fun _ _ _ h => h) (Or.inl ⟨by rfl, ?_⟩) hS ?_
    rotate_left
    · intro W hW; go_simp; with_reducible rfl
    try simp only [Act.put, List.setIfInBounds_toArray, List.set_cons_zero, List.set_cons_succ]
    refine wpAnyH_take (i := 5) (oi := ⟨some 22, _, _, _, _, _⟩) (v := ?_) rfl (by kernel_rfl) (by kernel_rfl) (by kernel_rfl) (fun _ _ _ h => h) (Or.inl ⟨by rfl, ?_⟩) hS ?_
    rotate_left
    · intro W hW; go_simp; with_reducible rfl
    try simp only [Act.put, List.setIfInBounds_toArray, List.set_cons_zero, List.set_cons_succ]
    refine wpAnyH_take (i := 6) (oi := ⟨some 23, _, _, _, _, _⟩) (v := ?_) rfl (by kernel_rfl) (by kernel_rfl) (by kernel_rfl) (fun _ _ _ h => h) (Or.inl ⟨by rfl, ?_⟩) hS ?_
    rotate_left
    · intro W hW; go_simp; with_reducible rfl
    try simp only [Act.put, List.setIfInBounds_toArray, List.set_cons_zero, List.set_cons_succ]
    refine wpAnyH_take (i := 7) (oi := ⟨some 24, _, _, _, _, _⟩) (v := ?_) rfl (by kernel_rfl) (by kernel_rfl) (by kernel_rfl) (fun _ _ _ h => h) (Or.inl ⟨by rfl, ?_⟩) hS ?_
    rotate_left
    · intro W hW; go_simp; with_reducible rfl
    try simp only [Act.put, List.setIfInBounds_toArray, List.set_cons_zero, List.set_cons_succ]
    refine wpAnyH_take (i := 8) (oi := ⟨some 25, _, _, _, _, _⟩) (v := ?_) rfl (by kernel_rfl) (by kernel_rfl) (by kernel_rfl) (fun _ _ _ h => h) (Or.inl ⟨by rfl, ?_⟩) hS ?_
    rotate_left
    · intro W hW; go_simp; with_reducible rfl
    try simp only [Act.put, List.setIfInBounds_toArray, List.set_cons_zero, List.set_cons_succ]
    refine wpAnyH_take (i := 9) (oi := ⟨some 26, _, _, _, _, _⟩) (v := ?_) rfl (by kernel_rfl) (by kernel_rfl) (by kernel_rfl) (fun _ _ _ h => h) (Or.inl ⟨by rfl, ?_⟩) hS ?_
    rotate_left
    · intro W hW; go_simp; with_reducible rfl
    try simp only [Act.put, List.setIfInBounds_toArray, List.set_cons_zero, List.set_cons_succ]
    refine wpAnyH_take (i := 10) (oi := ⟨some 27, _, _, _, _, _⟩) (v := ?_) rfl (by kernel_rfl) (by kernel_rfl) (by kernel_rfl) (fun _ _ _ h => h) (Or.inl ⟨by rfl, ?_⟩) hS ?_
    rotate_left
    · intro W hW; go_simp; with_reducible rfl
    try simp only [Act.put, List.setIfInBounds_toArray, List.set_cons_zero, List.set_cons_succ]
    refine wpAnyH_ready (rs := [11]) (by kernel_rfl) (by simp) ?_
    refine AllReadyH.cons (o := ⟨some 28, _, _, _, _, _⟩) rfl (fun Kr hKr => ?_) AllReadyH.nil
    -- operation 11: a call
    go_simp
    refine (HC.out _).mono ?_
    rintro e V0 ⟨rfl, hv⟩
    show Kr _ _
    refine hKr.out _ _ ?_ (fun _ => ?_)
    · exact hS.trans hv
    clear hKr Kr
    replace hS : (Gr w2) V0 := hS.trans hv
    try simp only [Act.put, List.setIfInBounds_toArray, List.set_cons_zero, List.set_cons_succ]
    refine wpAnyH_take (i := 12) (oi := ⟨some 29, _, _, _, _, _⟩) (v := ?_) rfl (by kernel_rfl) (by kernel_rfl) (by kernel_rfl) (fun _ _ _ h => h) (Or.inl ⟨by rfl, ?_⟩) hS ?_
    rotate_left
    · intro W hW; go_simp; with_reducible rfl
    try simp only [Act.put, List.setIfInBounds_toArray, List.set_cons_zero, List.set_cons_succ]
    refine wpAnyH_take (i := 13) (oi := ⟨some 30, _, _, _, _, _⟩) (v := ?_) rfl (by kernel_rfl) (by kernel_rfl) (by kernel_rfl) (fun _ _ _ h => h) (Or.inl ⟨by rfl, ?_⟩) hS ?_
    rotate_left
    · intro W hW; go_simp; with_reducible rfl
    try simp only [Act.put, List.setIfInBounds_toArray, List.set_cons_zero, List.set_cons_succ]
    refine wpAnyH_take (i := 14) (oi := ⟨some 6, _, _, _, _, _⟩) (v := ?_) rfl (by kernel_rfl) (by kernel_rfl) (by kernel_rfl) (fun _ _ _ h => h) (Or.inl ⟨by rfl, ?_⟩) hS ?_
    rotate_left
    · intro W hW; go_simp; with_reducible rfl
    try simp only [Act.put, List.setIfInBounds_toArray, List.set_cons_zero, List.set_cons_succ]
    refine wpAnyH_take (i := 15) (oi := ⟨some 7, _, _, _, _, _⟩) (v := ?_) rfl (by kernel_rfl) (by kernel_rfl) (by kernel_rfl) (fun _ _ _ h => h) (Or.inl ⟨by rfl, ?_⟩) hS ?_
    rotate_left
    · intro W hW; go_simp; with_reducible rfl
    try simp only [Act.put, List.setIfInBounds_toArray, List.set_cons_zero, List.set_cons_succ]
    refine wpAnyH_done (by kernel_rfl) ?_ _
    go_wp2
    go_ret2
    refine ⟨L1, y :: r, t, HP0.out, HP1.out, HP2.out, (fun h => ⟨y, r, rfl, HE.out.1 (HE2.out.1 h)⟩), (fun h => ?_), by rw [← HM.out]; rfl, HW.out.trans (hS.below.mono HW.out.size)⟩
    have hne : y.q ≠ b * 64 + x := fun e => by have := HE2.out.2 (HE.out.2 e); rw [h] at this; cases this
    have h1 := HP2.out y (by simp)
    intro u hu
    rcases List.mem_cons.1 hu with rfl | hu
    · omega
    · have := HLL.out u hu; omega
end Go.Proofs.YtbokhhialfbjcaaGreat

namespace Go.Proofs.YtbokhhialfbjcaaGreat
set_option maxRecDepth 100000
set_option linter.unusedVariables false
open Go.RowKit Go.Shelf Go.Sort

theorem among_yes (a b : Int) (h : 0 ≤ a ∧ a < b) (w : World) : Calls Tryz.prog 35 #[.int .i64 a, .int .i64 b] w fun e w' => e = .returned (.bool true) ∧ w' = w := by
  have h1 : decide (a < b) = true := decide_eq_true h.2
  have h2 : decide (0 ≤ a) = true := decide_eq_true h.1
  have h3 : decide (a ≥ 0) = true := decide_eq_true h.1
  go_enter Tryz.func35, Tryz.ntmps35
  go_wp2
  go_ret
  exact ⟨rfl, rfl⟩
theorem among_low (a b : Int) (h : a < 0) (w : World) : Calls Tryz.prog 35 #[.int .i64 a, .int .i64 b] w fun e w' => e = .returned (.bool false) ∧ w' = w := by
  have h3 : decide (a ≥ 0) = false := decide_eq_false (by omega)
  have h2 : decide (0 ≤ a) = false := decide_eq_false (by omega)
  go_enter Tryz.func35, Tryz.ntmps35
  go_wp2
  go_ret
  exact ⟨rfl, rfl⟩

theorem greater_any (y : Lk) (w : World) : Calls Tryz.prog 65 #[.agg #[.int .i64 y.b, .int .i64 y.x, .int .i64 y.h, .int .i64 y.k]] w fun e w' => e = .returned (.int .i64 y.s) ∧ Gr w w' := by
  have hm : max y.h y.k = y.s := rfl
  have HG := Lib.hid (Gr.alloc w (.cells #[.int .i64 y.b, .int .i64 y.x, .int .i64 y.h, .int .i64 y.k] 84))
  go_enter Tryz.func65, Tryz.ntmps65
  go_wp2
  go_ret
  exact ⟨rfl, HG.out⟩

theorem excl_read (s : Int) (w : World) : Calls Tryz.prog 64 #[.int .i64 1, .int .i64 s] w fun e w' => e = .returned (.bool (s == 2)) ∧ w' = w := by
  go_enter Tryz.func64, Tryz.ntmps64
  go_wp2
  go_ret
  exact ⟨rfl, rfl⟩
theorem excl_write (s : Int) (w : World) : Calls Tryz.prog 64 #[.int .i64 2, .int .i64 s] w fun e w' => e = .returned (.bool (!(s == 0))) ∧ w' = w := by
  go_enter Tryz.func64, Tryz.ntmps64
  go_wp2
  go_ret
  exact ⟨rfl, rfl⟩

theorem may_any (y : Lk) (hy : May y) (w : World) : Calls Tryz.prog 61 #[.agg #[.int .i64 y.b, .int .i64 y.x, .int .i64 y.h, .int .i64 y.k]] w fun e w' => e = .returned (.bool true) ∧ Gr w w' := by
  have hs : (y.s == 0) = false := by have := hy.s; simp; omega
  have hs2 : (y.s != 0) = true := by have := hy.s; simp; omega
  have h1 : 0 ≤ y.b ∧ y.b < 256 := by have := hy.b; omega
  have h2 : 0 ≤ y.x ∧ y.x < 64 := by have := hy.x; omega
  have h3 : 0 ≤ y.h ∧ y.h < 3 := by have := hy.h; omega
  have h4 : 0 ≤ y.k ∧ y.k < 3 := by have := hy.k; omega
  have H1 := Lib.hid h1
  have H2 := Lib.hid h2
  have H3 := Lib.hid h3
  have H4 := Lib.hid h4
  have HG := Lib.hid (Gr.alloc w (.cells #[.int .i64 y.b, .int .i64 y.x, .int .i64 y.h, .int .i64 y.k] 84))
  clear hy h1 h2 h3 h4
  go_enter Tryz.func61, Tryz.ntmps61
  go_wp2_with (first | (go_at_call 35; refine (among_yes _ _ (by first | exact H1.out | exact H2.out | exact H3.out | exact H4.out) _).mono ?_; rintro e w' ⟨rfl, hw'⟩; subst hw') | (go_at_call 65; refine (greater_any y _).mono ?_; rintro e w' ⟨rfl, hgw⟩; have HGW := Lib.hid hgw; clear hgw) | fail)
  go_ret
  exact ⟨rfl, HG.out.trans HGW.out⟩

set_option maxHeartbeats 1000000 in
theorem of_any (A : Option Addr) (L : List Lk) (n k : Nat) (x : Int) (hN : L.length = n) (hl : LG L) (w : World) (hL : LkAt w A L) :
    Calls Tryz.prog 67 #[.agg #[.slice A n k], .int .i64 x] w fun e w' => ∃ v, e = .returned v ∧ OwnLk w' w.heap.size v (ofL L x) ∧ Below w.heap.size w w' := by
  have HN := Lib.hid hN
  have HL := Lib.hid hL
  have HLEN := Lib.hid (show n ≤ 16384 by rw [← hN]; exact hl.len)
  have HB0 := Lib.hid (below_new w (.cells #[.slice A n k] 34))
  have hn16 := HLEN.out
  clear hN hL hl
  go_enter Tryz.func67, Tryz.ntmps67
  go_wp2_with fail
  go_loopw [5, 11] (fun lv iv wr => ∃ j : Nat, iv = .int .i64 (j : Int) ∧ j ≤ n ∧ Hid (OwnLk wr w.heap.size lv (ofL (L.take j) x)) ∧ Hid (Below w.heap.size w wr)) (fun _ iv _ => n - (intOf iv).toNat)
  case atStart => exact ⟨0, rfl, Nat.zero_le _, OwnLk.nil _ _, HB0.out⟩
  case round =>
    obtain ⟨j, rfl, hj, HO, HB⟩ := hrel
    clear HB0
    rcases Nat.lt_or_ge j n with hlt | hge
    · obtain ⟨y, hy⟩ : ∃ y, L[j]? = some y := ⟨L[j]'(by rw [HN.out]; exact hlt), List.getElem?_eq_getElem (by rw [HN.out]; exact hlt)⟩
      obtain ⟨b, o, rfl, hb, hc⟩ := (HL.out.below HB.out).get hy
      have hc0 := hc.c0
      have hc1 := hc.c1
      have hc2 := hc.c2
      have hc3 := hc.c3
      have htk : ofL (L.take (j + 1)) x = ofL (L.take j) x ++ (if y.x = x then [y] else []) := by
        unfold ofL
        rw [List.take_add_one, hy, List.filter_append]
        congr 1
        by_cases e : y.x = x
        · simp [e]
        · simp [e]
      have hll : (ofL (L.take j) x).length ≤ j := by unfold ofL; exact Nat.le_trans (List.length_filter_le _ _) (by simp; omega)
      have HTK := Lib.hid htk
      have HLL := Lib.hid hll
      clear hc htk hll hy
      obtain ⟨wz, hwz⟩ : ∃ wz, wz = wr := ⟨_, rfl⟩
      subst hwz
      by_cases e : y.x = x
      · have hbe : (y.x == x) = true := by simpa using e
        have HE := Lib.hid e
        clear e
        go_wp2_with (first | (at_builtin; refine wpList_append_lks rfl _ _ rfl w.heap.size _ _ [y] rfl ((HO.out.below (below_new _ _)).below (below_new _ _)) _ 1 1 rfl (LkAt.new1 _ _ y _) rfl (.inr ⟨_, _, rfl⟩) (by have := HLL.out; have := HLEN.out; simp; omega) (by have := HB.out.size; simp; omega) ?_; intro v5 w5 hown5 hg5 hat5; have HO5 := Lib.hid hown5; have HG5 := Lib.hid hg5; clear hown5 hg5 hat5) | fail)
        have hb5 := (below_new wz (.cells #[.int .i64 y.b, .int .i64 y.x, .int .i64 y.h, .int .i64 y.k] 84))
        have hB2 := Lib.hid ((((HB.out.trans (hb5.mono HB.out.size)).alloc (Nat.le_trans HB.out.size hb5.size) (.cells #[.int .i64 y.b, .int .i64 y.x, .int .i64 y.h, .int .i64 y.k] 84))).grown HG5.out (by have := HB.out.size; simp; omega) (fun q eq => (HO.out.lt q eq).1))
        clear hb5
        go_roundw
        case rel => exact ⟨j + 1, by simp, by omega, by rw [HTK.out, if_pos HE.out]; exact HO5.out, hB2.out⟩
        case measure => simp [intOf]; omega
      · have hbe : (y.x == x) = false := by simpa using e
        have HE := Lib.hid e
        clear e
        go_wp2
        have hB2 := Lib.hid (HB.out.alloc HB.out.size (.cells #[.int .i64 y.b, .int .i64 y.x, .int .i64 y.h, .int .i64 y.k] 84))
        have HO2 := Lib.hid (HO.out.below (below_new wz (.cells #[.int .i64 y.b, .int .i64 y.x, .int .i64 y.h, .int .i64 y.k] 84)))
        go_roundw
        case rel => exact ⟨j + 1, by simp, by omega, by rw [HTK.out, if_neg HE.out, List.append_nil]; exact HO2.out, hB2.out⟩
        case measure => simp [intOf]; omega
    · obtain rfl : j = n := by omega
      go_wp2
      go_ret
      have := HO.out
      rw [List.take_of_length_le (by rw [HN.out]; omega)] at this
      exact ⟨_, rfl, this, HB.out⟩
end Go.Proofs.YtbokhhialfbjcaaGreat

namespace Go.Proofs.YtbokhhialfbjcaaGreat
set_option maxRecDepth 100000
set_option linter.unusedVariables false
open Go.RowKit Go.Shelf Go.Sort

set_option maxHeartbeats 1000000 in
theorem sane_any (A : Option Addr) (L : List Lk) (n k : Nat) (hN : L.length = n) (hl : LG L) (w : World) (hL : LkAt w A L) :
    Calls Tryz.prog 34 #[.agg #[.slice A n k]] w fun e w' => e = .returned (.bool true) ∧ Below w.heap.size w w' := by
  have HN := Lib.hid hN
  have HL := Lib.hid hL
  have HG := Lib.hid hl
  have hn16 : n ≤ 16384 := by rw [← hN]; exact hl.len
  have HB0 := Lib.hid (below_new w (.cells #[.slice A n k] 34))
  have HX0 := Lib.hid (show (w.alloc (.cells #[.slice A n k] 34)).cell? ⟨w.heap.size, 0, none⟩ = some (.slice A n k) from (cell_new w _ _ 0).trans rfl)
  clear hN hL hl
  go_enter Tryz.func34, Tryz.ntmps34
  go_wp2_with fail
  go_loopw [8] (fun iv wr => ∃ j : Nat, iv = .int .i64 (j : Int) ∧ j ≤ n ∧ Hid (wr.cell? ⟨w.heap.size, 0, none⟩ = some (.slice A n k)) ∧ Hid (Below w.heap.size w wr)) (fun iv _ => n - (intOf iv).toNat)
  case atStart => exact ⟨0, rfl, Nat.zero_le _, HX0.out, HB0.out⟩
  case round =>
    obtain ⟨j, rfl, hj, HX, HB⟩ := hrel
    clear HB0 HX0
    rcases Nat.lt_or_ge j n with hlt | hge
    · obtain ⟨y, hy⟩ : ∃ y, L[j]? = some y := ⟨L[j]'(by rw [HN.out]; exact hlt), List.getElem?_eq_getElem (by rw [HN.out]; exact hlt)⟩
      have HM := Lib.hid (HG.out.may y (List.mem_of_getElem? hy))
      obtain ⟨b, o, rfl, hb, hc⟩ := (HL.out.below HB.out).get hy
      obtain ⟨wz, hwz⟩ : ∃ wz, wz = wr.alloc (.cells #[.int .i64 y.b, .int .i64 y.x, .int .i64 y.h, .int .i64 y.k] 84) := ⟨_, rfl⟩
      have hbz : Below wr.heap.size wr wz := by rw [hwz]; exact below_new _ _
      have hy4 : LB wz wr.heap.size y := by rw [hwz]; exact LB.new wr y _
      have hX := hbz.cell (block_lt_of_cell (a := ⟨w.heap.size, 0, none⟩) HX.out) |>.trans HX.out
      have HBZ := Lib.hid (HB.out.trans (hbz.mono HB.out.size))
      have HXZ := Lib.hid hX
      have hc0 := hc.c0
      have hc1 := hc.c1
      have hc2 := hc.c2
      have hc3 := hc.c3
      have k0 : ∀ V, Gr wz V → V.cell? ⟨wr.heap.size, 0, none⟩ = some (.int .i64 y.b) := fun V hV => hV.cell hy4.b hy4.lt
      have k1 : ∀ V, Gr wz V → V.cell? ⟨wr.heap.size, 1, none⟩ = some (.int .i64 y.x) := fun V hV => hV.cell hy4.x hy4.lt
      have k2 : ∀ V, Gr wz V → V.cell? ⟨wr.heap.size, 2, none⟩ = some (.int .i64 y.h) := fun V hV => hV.cell hy4.h hy4.lt
      have k3 : ∀ V, Gr wz V → V.cell? ⟨wr.heap.size, 3, none⟩ = some (.int .i64 y.k) := fun V hV => hV.cell hy4.k hy4.lt
      clear hc hX hy4
      rcases Nat.eq_zero_or_pos j with hj0 | hpos
      · have hgt : decide (0 < j) = false := decide_eq_false (by omega)
        have HJ0 := Lib.hid hj0
        clear hy hj0
        go_upto_region 4 with fail
        rw [← hwz]
        clear hwz hc0 hc1 hc2 hc3
        refine wp_region_held_drew (S := Gr wz) (by kernel_rfl) (Gr.drew wz) (fun _ => ?_)
        have hS : (Gr wz) (World.drew wz) := Gr.drew wz
        refine wpAnyH_take (i := 0) (oi := ⟨some 13, _, _, _, _, _⟩) (v := ?_) rfl (by kernel_rfl) (by kernel_rfl) (by kernel_rfl) (fun _ _ _ h => h) (Or.inl ⟨by rfl, ?_⟩) hS ?_
        rotate_left
        · intro W hW; go_simp; with_reducible rfl
        try simp only [Act.put, List.setIfInBounds_toArray, List.set_cons_zero, List.set_cons_succ]
        refine wpAnyH_ready (rs := [1]) (by kernel_rfl) (by simp) ?_
        refine AllReadyH.cons (o := ⟨some 14, _, _, _, _, _⟩) rfl (fun Kr hKr => ?_) AllReadyH.nil
        -- operation 1: a call
        go_simp
        refine (may_any y HM.out _).mono ?_
        rintro e V0 ⟨rfl, hv⟩
        show Kr _ _
        refine hKr.out _ _ ?_ (fun _ => ?_)
        · exact hS.trans hv
        clear hKr Kr
        replace hS : (Gr wz) V0 := hS.trans hv
        try simp only [Act.put, List.setIfInBounds_toArray, List.set_cons_zero, List.set_cons_succ]
        refine wpAnyH_take (i := 2) (oi := ⟨some 15, _, _, _, _, _⟩) (v := ?_) rfl (by kernel_rfl) (by kernel_rfl) (by kernel_rfl) (fun _ _ _ h => h) (Or.inl ⟨by rfl, ?_⟩) hS ?_
        rotate_left
        · intro W hW; go_simp; with_reducible rfl
        try simp only [Act.put, List.setIfInBounds_toArray, List.set_cons_zero, List.set_cons_succ]
        refine wpAnyH_take (i := 3) (oi := ⟨some 16, _, _, _, _, _⟩) (v := ?_) rfl (by kernel_rfl) (by kernel_rfl) (by kernel_rfl) (fun _ _ _ h => h) (Or.inl ⟨by rfl, ?_⟩) hS ?_
        rotate_left
        · intro W hW; go_simp; with_reducible rfl
        try simp only [Act.put, List.setIfInBounds_toArray, List.set_cons_zero, List.set_cons_succ]
        refine wpAnyH_take (i := 4) (oi := ⟨some 17, _, _, _, _, _⟩) (v := ?_) rfl (by kernel_rfl) (by kernel_rfl) (by kernel_rfl) (fun _ _ _ h => h) (Or.inl ⟨by rfl, ?_⟩) hS ?_
        rotate_left
        · intro W hW; go_simp; with_reducible rfl
        try simp only [Act.put, List.setIfInBounds_toArray, List.set_cons_zero, List.set_cons_succ]
        refine wpAnyH_take (i := 5) (oi := ⟨some 18, _, _, _, _, _⟩) (v := ?_) rfl (by kernel_rfl) (by kernel_rfl) (by kernel_rfl) (fun _ _ _ h => h) (Or.inl ⟨by rfl, ?_⟩) hS ?_
        rotate_left
        · intro W hW; go_simp; with_reducible rfl
        try simp only [Act.put, List.setIfInBounds_toArray, List.set_cons_zero, List.set_cons_succ]
        refine wpAnyH_take (i := 6) (oi := ⟨some 19, _, _, _, _, _⟩) (v := ?_) rfl (by kernel_rfl) (by kernel_rfl) (by kernel_rfl) (fun _ _ _ h => h) (Or.inl ⟨by rfl, ?_⟩) hS ?_
        rotate_left
        · intro W hW; go_simp; with_reducible rfl
        try simp only [Act.put, List.setIfInBounds_toArray, List.set_cons_zero, List.set_cons_succ]
        refine wpAnyH_take (i := 7) (oi := ⟨some 20, _, _, _, _, _⟩) (v := undef) rfl (by kernel_rfl) (by kernel_rfl) (by kernel_rfl) (fun _ _ _ h => h) (Or.inr ⟨by rfl, rfl⟩) hS ?_
        try simp only [Act.put, List.setIfInBounds_toArray, List.set_cons_zero, List.set_cons_succ]
        refine wpAnyH_take (i := 8) (oi := ⟨some 21, _, _, _, _, _⟩) (v := undef) rfl (by kernel_rfl) (by kernel_rfl) (by kernel_rfl) (fun _ _ _ h => h) (Or.inr ⟨by rfl, rfl⟩) hS ?_
        try simp only [Act.put, List.setIfInBounds_toArray, List.set_cons_zero, List.set_cons_succ]
        refine wpAnyH_take (i := 9) (oi := ⟨some 22, _, _, _, _, _⟩) (v := undef) rfl (by kernel_rfl) (by kernel_rfl) (by kernel_rfl) (fun _ _ _ h => h) (Or.inr ⟨by rfl, rfl⟩) hS ?_
        try simp only [Act.put, List.setIfInBounds_toArray, List.set_cons_zero, List.set_cons_succ]
        refine wpAnyH_take (i := 10) (oi := ⟨some 23, _, _, _, _, _⟩) (v := undef) rfl (by kernel_rfl) (by kernel_rfl) (by kernel_rfl) (fun _ _ _ h => h) (Or.inr ⟨by rfl, rfl⟩) hS ?_
        try simp only [Act.put, List.setIfInBounds_toArray, List.set_cons_zero, List.set_cons_succ]
        refine wpAnyH_take (i := 11) (oi := ⟨some 24, _, _, _, _, _⟩) (v := undef) rfl (by kernel_rfl) (by kernel_rfl) (by kernel_rfl) (fun _ _ _ h => h) (Or.inr ⟨by rfl, rfl⟩) hS ?_
        try simp only [Act.put, List.setIfInBounds_toArray, List.set_cons_zero, List.set_cons_succ]
        refine wpAnyH_take (i := 12) (oi := ⟨some 25, _, _, _, _, _⟩) (v := undef) rfl (by kernel_rfl) (by kernel_rfl) (by kernel_rfl) (fun _ _ _ h => h) (Or.inr ⟨by rfl, rfl⟩) hS ?_
        try simp only [Act.put, List.setIfInBounds_toArray, List.set_cons_zero, List.set_cons_succ]
        refine wpAnyH_take (i := 13) (oi := ⟨some 26, _, _, _, _, _⟩) (v := undef) rfl (by kernel_rfl) (by kernel_rfl) (by kernel_rfl) (fun _ _ _ h => h) (Or.inr ⟨by rfl, rfl⟩) hS ?_
        try simp only [Act.put, List.setIfInBounds_toArray, List.set_cons_zero, List.set_cons_succ]
        refine wpAnyH_take (i := 14) (oi := ⟨some 27, _, _, _, _, _⟩) (v := undef) rfl (by kernel_rfl) (by kernel_rfl) (by kernel_rfl) (fun _ _ _ h => h) (Or.inr ⟨by rfl, rfl⟩) hS ?_
        try simp only [Act.put, List.setIfInBounds_toArray, List.set_cons_zero, List.set_cons_succ]
        refine wpAnyH_take (i := 15) (oi := ⟨some 28, _, _, _, _, _⟩) (v := undef) rfl (by kernel_rfl) (by kernel_rfl) (by kernel_rfl) (fun _ _ _ h => h) (Or.inr ⟨by rfl, rfl⟩) hS ?_
        try simp only [Act.put, List.setIfInBounds_toArray, List.set_cons_zero, List.set_cons_succ]
        refine wpAnyH_take (i := 16) (oi := ⟨some 29, _, _, _, _, _⟩) (v := ?_) rfl (by kernel_rfl) (by kernel_rfl) (by kernel_rfl) (fun _ _ _ h => h) (Or.inl ⟨by rfl, ?_⟩) hS ?_
        rotate_left
        · intro W hW; go_simp; with_reducible rfl
        try simp only [Act.put, List.setIfInBounds_toArray, List.set_cons_zero, List.set_cons_succ]
        refine wpAnyH_take (i := 17) (oi := ⟨some 30, _, _, _, _, _⟩) (v := ?_) rfl (by kernel_rfl) (by kernel_rfl) (by kernel_rfl) (fun _ _ _ h => h) (Or.inl ⟨by rfl, ?_⟩) hS ?_
        rotate_left
        · intro W hW; go_simp; with_reducible rfl
        try simp only [Act.put, List.setIfInBounds_toArray, List.set_cons_zero, List.set_cons_succ]
        refine wpAnyH_done (by kernel_rfl) ?_ _
        have HS := Lib.hid hS
        go_wp2
        go_roundw
        case rel => exact ⟨j + 1, by simp, by omega, HS.out.cell HXZ.out (block_lt_of_cell (a := ⟨w.heap.size, 0, none⟩) HXZ.out), HBZ.out.trans (HS.out.below.mono HBZ.out.size)⟩
        case measure => simp [intOf]; omega
      · obtain ⟨i, hi⟩ : ∃ i, j = i + 1 := ⟨j - 1, by omega⟩
        obtain ⟨p, hp⟩ : ∃ p, L[i]? = some p := ⟨L[i]'(by rw [HN.out]; omega), List.getElem?_eq_getElem (by rw [HN.out]; omega)⟩
        obtain ⟨b', o', e, hb', hc'⟩ := (HL.out.below HBZ.out).get hp
        injection e with e
        injection e with e1 e2
        subst e1
        subst e2
        have hji : (j : Int) - 1 = (i : Int) := by omega
        have hin : i < n := by omega
        have hgt : decide (0 < j) = true := decide_eq_true hpos
        have hwi : IntKind.i64.wrap (i : Int) = (i : Int) := by rw [IntKind.wrap_i64]; omega
        have hlp : ∀ V, Gr wz V → CellsAt V b (o + i * 4) p := fun V hV => hc'.turn (S := fun _ => False) (Turn.ofBelow hV.below) (fun h => h)
        have j0 : ∀ V, Gr wz V → V.cell? ⟨b, o + i * 4, none⟩ = some (.int .i64 p.b) := fun V hV => (hlp V hV).c0
        have j1 : ∀ V, Gr wz V → V.cell? ⟨b, o + i * 4 + 1, none⟩ = some (.int .i64 p.x) := fun V hV => (hlp V hV).c1
        have j2 : ∀ V, Gr wz V → V.cell? ⟨b, o + i * 4 + 2, none⟩ = some (.int .i64 p.h) := fun V hV => (hlp V hV).c2
        have j3 : ∀ V, Gr wz V → V.cell? ⟨b, o + i * 4 + 3, none⟩ = some (.int .i64 p.k) := fun V hV => (hlp V hV).c3
        have j4 : ∀ V, Gr wz V → V.cell? ⟨w.heap.size, 0, none⟩ = some (.slice (some ⟨b, o, none⟩) n k) := fun V hV => hV.cell HXZ.out (block_lt_of_cell (a := ⟨w.heap.size, 0, none⟩) HXZ.out)
        have hq : p.q < y.q := by
          have hu := HG.out.up
          rw [List.pairwise_iff_getElem] at hu
          obtain ⟨hp1, hp2⟩ := List.getElem?_eq_some_iff.1 hp
          obtain ⟨hy1, hy2⟩ := List.getElem?_eq_some_iff.1 hy
          have := hu i j hp1 hy1 (by omega)
          rw [hp2, hy2] at this; exact this
        obtain ⟨c, hce⟩ : ∃ c, c = cmpI p y := ⟨_, rfl⟩
        have HC := Lib.hid (fun V => hce ▸ compare_any p y V)
        have hcn : c < 0 := by rw [hce]; exact (cmpI_facts p y (HG.out.may p (List.mem_of_getElem? hp)).x HM.out.x).1.2 hq
        have hge : decide (0 ≤ c) = false := decide_eq_false (by omega)
        have HJ := Lib.hid hi
        clear hlp hc' hb' hce hcn hq hp hy hi
        go_upto_region 4 with fail
        rw [← hwz]
        clear hwz hc0 hc1 hc2 hc3
        refine wp_region_held_drew (S := Gr wz) (by kernel_rfl) (Gr.drew wz) (fun _ => ?_)
        have hS : (Gr wz) (World.drew wz) := Gr.drew wz
        refine wpAnyH_take (i := 0) (oi := ⟨some 13, _, _, _, _, _⟩) (v := ?_) rfl (by kernel_rfl) (by kernel_rfl) (by kernel_rfl) (fun _ _ _ h => h) (Or.inl ⟨by rfl, ?_⟩) hS ?_
        rotate_left
        · intro W hW; go_simp; with_reducible rfl
        try simp only [Act.put, List.setIfInBounds_toArray, List.set_cons_zero, List.set_cons_succ]
        refine wpAnyH_ready (rs := [1]) (by kernel_rfl) (by simp) ?_
        refine AllReadyH.cons (o := ⟨some 14, _, _, _, _, _⟩) rfl (fun Kr hKr => ?_) AllReadyH.nil
        -- operation 1: a call
        go_simp
        refine (may_any y HM.out _).mono ?_
        rintro e V0 ⟨rfl, hv⟩
        show Kr _ _
        refine hKr.out _ _ ?_ (fun _ => ?_)
        · exact hS.trans hv
        clear hKr Kr
        replace hS : (Gr wz) V0 := hS.trans hv
        try simp only [Act.put, List.setIfInBounds_toArray, List.set_cons_zero, List.set_cons_succ]
        refine wpAnyH_take (i := 2) (oi := ⟨some 15, _, _, _, _, _⟩) (v := ?_) rfl (by kernel_rfl) (by kernel_rfl) (by kernel_rfl) (fun _ _ _ h => h) (Or.inl ⟨by rfl, ?_⟩) hS ?_
        rotate_left
        · intro W hW; go_simp; with_reducible rfl
        try simp only [Act.put, List.setIfInBounds_toArray, List.set_cons_zero, List.set_cons_succ]
        refine wpAnyH_take (i := 3) (oi := ⟨some 16, _, _, _, _, _⟩) (v := ?_) rfl (by kernel_rfl) (by kernel_rfl) (by kernel_rfl) (fun _ _ _ h => h) (Or.inl ⟨by rfl, ?_⟩) hS ?_
        rotate_left
        · intro W hW; go_simp; with_reducible rfl
        try simp only [Act.put, List.setIfInBounds_toArray, List.set_cons_zero, List.set_cons_succ]
        refine wpAnyH_take (i := 4) (oi := ⟨some 17, _, _, _, _, _⟩) (v := ?_) rfl (by kernel_rfl) (by kernel_rfl) (by kernel_rfl) (fun _ _ _ h => h) (Or.inl ⟨by rfl, ?_⟩) hS ?_
        rotate_left
        · intro W hW; go_simp; with_reducible rfl
        try simp only [Act.put, List.setIfInBounds_toArray, List.set_cons_zero, List.set_cons_succ]
        refine wpAnyH_take (i := 5) (oi := ⟨some 18, _, _, _, _, _⟩) (v := ?_) rfl (by kernel_rfl) (by kernel_rfl) (by kernel_rfl) (fun _ _ _ h => h) (Or.inl ⟨by rfl, ?_⟩) hS ?_
        rotate_left
        · intro W hW; go_simp; with_reducible rfl
        try simp only [Act.put, List.setIfInBounds_toArray, List.set_cons_zero, List.set_cons_succ]
        refine wpAnyH_take (i := 6) (oi := ⟨some 19, _, _, _, _, _⟩) (v := ?_) rfl (by kernel_rfl) (by kernel_rfl) (by kernel_rfl) (fun _ _ _ h => h) (Or.inl ⟨by rfl, ?_⟩) hS ?_
        rotate_left
        · intro W hW; go_simp; with_reducible rfl
        try simp only [Act.put, List.setIfInBounds_toArray, List.set_cons_zero, List.set_cons_succ]
        refine wpAnyH_take (i := 7) (oi := ⟨some 20, _, _, _, _, _⟩) (v := ?_) rfl (by kernel_rfl) (by kernel_rfl) (by kernel_rfl) (fun _ _ _ h => h) (Or.inl ⟨by rfl, ?_⟩) hS ?_
        rotate_left
        · intro W hW; go_simp; with_reducible rfl
        try simp only [Act.put, List.setIfInBounds_toArray, List.set_cons_zero, List.set_cons_succ]
        refine wpAnyH_take (i := 8) (oi := ⟨some 21, _, _, _, _, _⟩) (v := ?_) rfl (by kernel_rfl) (by kernel_rfl) (by kernel_rfl) (fun _ _ _ h => h) (Or.inl ⟨by rfl, ?_⟩) hS ?_
        rotate_left
        · intro W hW; go_simp; with_reducible rfl
        try simp only [Act.put, List.setIfInBounds_toArray, List.set_cons_zero, List.set_cons_succ]
        refine wpAnyH_take (i := 9) (oi := ⟨some 22, _, _, _, _, _⟩) (v := ?_) rfl (by kernel_rfl) (by kernel_rfl) (by kernel_rfl) (fun _ _ _ h => h) (Or.inl ⟨by rfl, ?_⟩) hS ?_
        rotate_left
        · intro W hW; go_simp; with_reducible rfl
        try simp only [Act.put, List.setIfInBounds_toArray, List.set_cons_zero, List.set_cons_succ]
        refine wpAnyH_take (i := 10) (oi := ⟨some 23, _, _, _, _, _⟩) (v := ?_) rfl (by kernel_rfl) (by kernel_rfl) (by kernel_rfl) (fun _ _ _ h => h) (Or.inl ⟨by rfl, ?_⟩) hS ?_
        rotate_left
        · intro W hW; go_simp; with_reducible rfl
        try simp only [Act.put, List.setIfInBounds_toArray, List.set_cons_zero, List.set_cons_succ]
        refine wpAnyH_take (i := 11) (oi := ⟨some 24, _, _, _, _, _⟩) (v := ?_) rfl (by kernel_rfl) (by kernel_rfl) (by kernel_rfl) (fun _ _ _ h => h) (Or.inl ⟨by rfl, ?_⟩) hS ?_
        rotate_left
        · intro W hW; go_simp; with_reducible rfl
        try simp only [Act.put, List.setIfInBounds_toArray, List.set_cons_zero, List.set_cons_succ]
        refine wpAnyH_take (i := 12) (oi := ⟨some 25, _, _, _, _, _⟩) (v := ?_) rfl (by kernel_rfl) (by kernel_rfl) (by kernel_rfl) (fun _ _ _ h => h) (Or.inl ⟨by rfl, ?_⟩) hS ?_
        rotate_left
        · intro W hW; go_simp; with_reducible rfl
        try simp only [Act.put, List.setIfInBounds_toArray, List.set_cons_zero, List.set_cons_succ]
        refine wpAnyH_take (i := 13) (oi := ⟨some 26, _, _, _, _, _⟩) (v := ?_) rfl (by kernel_rfl) (by kernel_rfl) (by kernel_rfl) (fun _ _ _ h => h) (Or.inl ⟨by rfl, ?_⟩) hS ?_
        rotate_left
        · intro W hW; go_simp; with_reducible rfl
        try simp only [Act.put, List.setIfInBounds_toArray, List.set_cons_zero, List.set_cons_succ]
        refine wpAnyH_ready (rs := [14]) (by kernel_rfl) (by simp) ?_
        refine AllReadyH.cons (o := ⟨some 27, _, _, _, _, _⟩) rfl (fun Kr hKr => ?_) AllReadyH.nil
        -- operation 14: a call
        go_simp
        refine (HC.out _).mono ?_
        rintro e V1 ⟨rfl, hv⟩
        show Kr _ _
        refine hKr.out _ _ ?_ (fun _ => ?_)
        · exact hS.trans hv
        clear hKr Kr
        replace hS : (Gr wz) V1 := hS.trans hv
        try simp only [Act.put, List.setIfInBounds_toArray, List.set_cons_zero, List.set_cons_succ]
        refine wpAnyH_take (i := 15) (oi := ⟨some 28, _, _, _, _, _⟩) (v := ?_) rfl (by kernel_rfl) (by kernel_rfl) (by kernel_rfl) (fun _ _ _ h => h) (Or.inl ⟨by rfl, ?_⟩) hS ?_
        rotate_left
        · intro W hW; go_simp; with_reducible rfl
        try simp only [Act.put, List.setIfInBounds_toArray, List.set_cons_zero, List.set_cons_succ]
        refine wpAnyH_take (i := 16) (oi := ⟨some 29, _, _, _, _, _⟩) (v := ?_) rfl (by kernel_rfl) (by kernel_rfl) (by kernel_rfl) (fun _ _ _ h => h) (Or.inl ⟨by rfl, ?_⟩) hS ?_
        rotate_left
        · intro W hW; go_simp; with_reducible rfl
        try simp only [Act.put, List.setIfInBounds_toArray, List.set_cons_zero, List.set_cons_succ]
        refine wpAnyH_take (i := 17) (oi := ⟨some 30, _, _, _, _, _⟩) (v := ?_) rfl (by kernel_rfl) (by kernel_rfl) (by kernel_rfl) (fun _ _ _ h => h) (Or.inl ⟨by rfl, ?_⟩) hS ?_
        rotate_left
        · intro W hW; go_simp; with_reducible rfl
        try simp only [Act.put, List.setIfInBounds_toArray, List.set_cons_zero, List.set_cons_succ]
        refine wpAnyH_done (by kernel_rfl) ?_ _
        have HS := Lib.hid hS
        go_wp2
        go_roundw
        case rel => exact ⟨j + 1, by simp, by omega, HS.out.cell HXZ.out (block_lt_of_cell (a := ⟨w.heap.size, 0, none⟩) HXZ.out), HBZ.out.trans (HS.out.below.mono HBZ.out.size)⟩
        case measure => simp [intOf]; omega
    · obtain rfl : j = n := by omega
      go_wp2
      go_ret
      exact ⟨rfl, HB.out⟩
end Go.Proofs.YtbokhhialfbjcaaGreat
