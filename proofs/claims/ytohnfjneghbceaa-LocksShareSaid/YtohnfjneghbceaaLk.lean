/-
  Locks: the plain model. A table is a list of locks that rise by block and transaction; what a lock laid in it, a transaction's locks passed up, and locks taken away make of it. No program in it.
-/
namespace Go.Proofs.Ytohnfjneghbceaa
set_option maxRecDepth 100000
set_option linter.unusedVariables false

structure Lk where
  b : Int
  x : Int
  h : Int
  k : Int

/-- where a lock stands among the others -/
def Lk.q (y : Lk) : Int := y.b * 64 + y.x
def Lk.s (y : Lk) : Int := max y.h y.k

structure May (y : Lk) : Prop where
  b : 0 ≤ y.b ∧ y.b ≤ 255
  x : 0 ≤ y.x ∧ y.x ≤ 63
  h : 0 ≤ y.h ∧ y.h ≤ 2
  k : 0 ≤ y.k ∧ y.k ≤ 2
  s : 0 < y.s

theorem May.s2 {y : Lk} (h : May y) : y.s = 1 ∨ y.s = 2 := by
  have h0 := h.s
  have h1 := h.h
  have h2 := h.k
  unfold Lk.s at *
  omega
theorem May.bx {y z : Lk} (h : May y) (k : May z) (e : y.q = z.q) : y.b = z.b ∧ y.x = z.x := by
  have h1 := h.x
  have h2 := k.x
  unfold Lk.q at e
  omega

/-- a table that may be -/
structure LG (L : List Lk) : Prop where
  may : ∀ y ∈ L, May y
  up : L.Pairwise fun y z => y.q < z.q

theorem lg_nil : LG [] := ⟨by simp, List.Pairwise.nil⟩
theorem LG.tail {y : Lk} {L : List Lk} (h : LG (y :: L)) : LG L := ⟨fun z hz => h.may z (by simp [hz]), (List.pairwise_cons.1 h.up).2⟩
theorem LG.head {y : Lk} {L : List Lk} (h : LG (y :: L)) : ∀ z ∈ L, y.q < z.q := (List.pairwise_cons.1 h.up).1
theorem LG.cons {y : Lk} {L : List Lk} (hy : May y) (hL : LG L) (h : ∀ z ∈ L, y.q < z.q) : LG (y :: L) := ⟨fun z hz => by
  rcases List.mem_cons.1 hz with rfl | hz
  · exact hy
  · exact hL.may z hz, List.pairwise_cons.2 ⟨h, hL.up⟩⟩
theorem LG.filter {L : List Lk} (h : LG L) (f : Lk → Bool) : LG (L.filter f) := ⟨fun y hy => h.may y (List.mem_filter.1 hy).1, h.up.filter f⟩
theorem LG.right {l r : List Lk} (h : LG (l ++ r)) : LG r := ⟨fun y hy => h.may y (by simp [hy]), (List.pairwise_append.1 h.up).2.1⟩
theorem LG.one {L : List Lk} (h : LG L) {y z : Lk} (hy : y ∈ L) (hz : z ∈ L) (e : y.q = z.q) : y = z := by
  induction L with
  | nil => cases hy
  | cons a L ih =>
    have hh := h.head
    rcases List.mem_cons.1 hy with h1 | h1
    · rcases List.mem_cons.1 hz with h2 | h2
      · rw [h1, h2]
      · have := hh z h2
        rw [h1] at e; omega
    · rcases List.mem_cons.1 hz with h2 | h2
      · have := hh y h1
        rw [h2] at e; omega
      · exact ih h.tail h1 h2

/-- for which mode it is held, kept, where it stands (0: for none) -/
def hof : List Lk → Int → Int
  | [], _ => 0
  | y :: L, q => if y.q = q then y.h else hof L q
def kof : List Lk → Int → Int
  | [], _ => 0
  | y :: L, q => if y.q = q then y.k else kof L q

theorem hof_none {L : List Lk} {q : Int} (h : ∀ y ∈ L, y.q ≠ q) : hof L q = 0 := by
  induction L with
  | nil => rfl
  | cons y L ih =>
    unfold hof
    rw [if_neg (h y (by simp))]
    exact ih fun z hz => h z (by simp [hz])
theorem kof_none {L : List Lk} {q : Int} (h : ∀ y ∈ L, y.q ≠ q) : kof L q = 0 := by
  induction L with
  | nil => rfl
  | cons y L ih =>
    unfold kof
    rw [if_neg (h y (by simp))]
    exact ih fun z hz => h z (by simp [hz])
theorem LG.at_ {L : List Lk} (h : LG L) {y : Lk} (hy : y ∈ L) : hof L y.q = y.h ∧ kof L y.q = y.k := by
  induction L with
  | nil => cases hy
  | cons a L ih =>
    unfold hof kof
    rcases List.mem_cons.1 hy with h1 | h1
    · subst h1
      rw [if_pos rfl, if_pos rfl]; exact ⟨rfl, rfl⟩
    · have := h.head y h1
      rw [if_neg (by omega), if_neg (by omega)]
      exact ih h.tail h1
theorem hof_dec (L : List Lk) (q : Int) : (∃ y ∈ L, y.q = q ∧ hof L q = y.h ∧ kof L q = y.k) ∨ ((∀ y ∈ L, y.q ≠ q) ∧ hof L q = 0 ∧ kof L q = 0) := by
  induction L with
  | nil => exact .inr ⟨by simp, rfl, rfl⟩
  | cons a L ih =>
    unfold hof kof
    by_cases e : a.q = q
    · rw [if_pos e, if_pos e]; exact .inl ⟨a, by simp, e, rfl, rfl⟩
    · rw [if_neg e, if_neg e]
      rcases ih with ⟨y, hy, h⟩ | ⟨h, h2⟩
      · exact .inl ⟨y, by simp [hy], h⟩
      · refine .inr ⟨fun y hy => ?_, h2⟩
        rcases List.mem_cons.1 hy with rfl | hy
        · exact e
        · exact h y hy
theorem LG.hk0 {L : List Lk} (h : LG L) (q : Int) : 0 ≤ hof L q ∧ hof L q ≤ 2 ∧ 0 ≤ kof L q ∧ kof L q ≤ 2 := by
  rcases hof_dec L q with ⟨y, hy, e, h1, h2⟩ | ⟨_, h1, h2⟩
  · have h3 := (h.may y hy).h
    have h4 := (h.may y hy).k
    omega
  · omega
theorem LG.mem {L : List Lk} (h : LG L) {y : Lk} (hy : May y) (h1 : hof L y.q = y.h) (h2 : kof L y.q = y.k) : y ∈ L := by
  rcases hof_dec L y.q with ⟨z, hz, e, h3, h4⟩ | ⟨_, h3, h4⟩
  · obtain ⟨e1, e2⟩ := (h.may z hz).bx hy e
    have : z = y := by
      cases z; cases y
      simp only at *
      rw [e1, e2, ← h3, h1, ← h4, h2]
    rw [← this]; exact hz
  · have := hy.s
    unfold Lk.s at this
    omega

/-! ### a lock is laid -/
def mrg (z y : Lk) : Lk := { z with h := max z.h y.h, k := max z.k y.k }
def ins : List Lk → Lk → List Lk
  | [], z => [z]
  | y :: L, z => if y.q < z.q then y :: ins L z else if y.q = z.q then mrg z y :: L else z :: y :: L

theorem ins_front {l r : List Lk} {z : Lk} (h : ∀ y ∈ l, y.q < z.q) : ins (l ++ r) z = l ++ ins r z := by
  induction l with
  | nil => rfl
  | cons y l ih =>
    show (if y.q < z.q then y :: ins (l ++ r) z else _) = _
    rw [if_pos (h y (by simp)), ih fun x hx => h x (by simp [hx])]
    rfl
theorem ins_new {y z : Lk} {r : List Lk} (h : z.q < y.q) : ins (y :: r) z = z :: y :: r := by
  unfold ins
  rw [if_neg (by omega), if_neg (by omega)]
theorem ins_there {y z : Lk} {r : List Lk} (h : y.q = z.q) : ins (y :: r) z = mrg z y :: r := by
  unfold ins
  rw [if_neg (by omega), if_pos h]

theorem mrg_may {z y : Lk} (hz : May z) (hy : May y) : May (mrg z y) := by
  have h1 := hz.h
  have h2 := hz.k
  have h3 := hy.h
  have h4 := hy.k
  have h5 := hz.s
  refine ⟨hz.b, hz.x, ?_, ?_, ?_⟩
  · show 0 ≤ max z.h y.h ∧ max z.h y.h ≤ 2; omega
  · show 0 ≤ max z.k y.k ∧ max z.k y.k ≤ 2; omega
  · unfold Lk.s at h5 ⊢
    show 0 < max (max z.h y.h) (max z.k y.k); omega

/-- what is in the table then -/
theorem ins_mem {L : List Lk} {z : Lk} (h : LG L) {y : Lk} (hy : y ∈ ins L z) : (y ∈ L ∧ y.q ≠ z.q) ∨ y = { z with h := max z.h (hof L z.q), k := max z.k (kof L z.q) } ∨ ((∀ w ∈ L, w.q ≠ z.q) ∧ y = z) := by
  induction L with
  | nil => exact .inr (.inr ⟨by simp, by simpa [ins] using hy⟩)
  | cons a L ih =>
    unfold ins at hy
    unfold hof kof
    by_cases h1 : a.q < z.q
    · rw [if_pos h1] at hy
      rw [if_neg (by omega), if_neg (by omega)]
      rcases List.mem_cons.1 hy with e | hy
      · subst e; exact .inl ⟨by simp, by omega⟩
      · rcases ih h.tail hy with ⟨h2, h3⟩ | h2 | ⟨h2, h3⟩
        · exact .inl ⟨by simp [h2], h3⟩
        · exact .inr (.inl h2)
        · refine .inr (.inr ⟨fun w hw => ?_, h3⟩)
          rcases List.mem_cons.1 hw with e | hw
          · subst e; omega
          · exact h2 w hw
    · rw [if_neg h1] at hy
      by_cases h2 : a.q = z.q
      · rw [if_pos h2] at hy
        rw [if_pos h2, if_pos h2]
        rcases List.mem_cons.1 hy with e | hy
        · exact .inr (.inl e)
        · have := h.head y hy
          exact .inl ⟨by simp [hy], by omega⟩
      · rw [if_neg h2] at hy
        rcases List.mem_cons.1 hy with e | hy
        · refine .inr (.inr ⟨fun w hw => ?_, e⟩)
          rcases List.mem_cons.1 hw with e | hw
          · subst e; exact h2
          · have := h.head w hw; omega
        · refine .inl ⟨hy, ?_⟩
          rcases List.mem_cons.1 hy with e | hy
          · subst e; exact h2
          · have := h.head y hy; omega

theorem ins_q {L : List Lk} {z : Lk} {y : Lk} (hy : y ∈ ins L z) : y.q = z.q ∨ ∃ w ∈ L, y.q = w.q := by
  induction L with
  | nil => left; have : y = z := by simpa [ins] using hy
           rw [this]
  | cons a L ih =>
    unfold ins at hy
    split at hy
    · rcases List.mem_cons.1 hy with e | hy
      · exact .inr ⟨a, by simp, by rw [e]⟩
      · rcases ih hy with h | ⟨w, hw, h⟩
        · exact .inl h
        · exact .inr ⟨w, by simp [hw], h⟩
    · split at hy
      · rcases List.mem_cons.1 hy with e | hy
        · exact .inl (by rw [e]; rfl)
        · exact .inr ⟨y, by simp [hy], rfl⟩
      · rcases List.mem_cons.1 hy with e | hy
        · exact .inl (by rw [e])
        · exact .inr ⟨y, hy, rfl⟩

theorem LG.ins {L : List Lk} {z : Lk} (h : LG L) (hz : May z) : LG (ins L z) := by
  induction L with
  | nil => exact LG.cons hz lg_nil (by simp)
  | cons a L ih =>
    have hh := h.head
    have ha := h.may a (by simp)
    unfold Proofs.Ytohnfjneghbceaa.ins
    split
    · next h1 =>
      refine LG.cons ha (ih h.tail) fun y hy => ?_
      rcases ins_q hy with e | ⟨w, hw, e⟩
      · omega
      · have := hh w hw; omega
    · split
      · next h1 h2 => exact LG.cons (mrg_may hz ha) h.tail fun y hy => by have := hh y hy; show z.q < y.q; omega
      · next h1 h2 =>
        refine LG.cons hz h fun y hy => ?_
        rcases List.mem_cons.1 hy with e | hy
        · subst e; omega
        · have := hh y hy; omega

theorem hof_ins {L : List Lk} {z : Lk} (h : LG L) (hz : May z) (q : Int) : hof (ins L z) q = (if z.q = q then max z.h (hof L q) else hof L q) ∧ kof (ins L z) q = (if z.q = q then max z.k (kof L q) else kof L q) := by
  have z1 := hz.h
  have z2 := hz.k
  induction L with
  | nil =>
    show (if z.q = q then z.h else 0) = (if z.q = q then max z.h 0 else 0) ∧ (if z.q = q then z.k else 0) = (if z.q = q then max z.k 0 else 0)
    split
    · omega
    · omega
  | cons a L ih =>
    have ih := ih h.tail
    have hh := h.head
    unfold ins
    by_cases h1 : a.q < z.q
    · rw [if_pos h1]
      by_cases e : a.q = q
      · have e2 : ¬ z.q = q := by omega
        simp [hof, kof, e, e2]
      · simp only [hof, kof, e, if_false]; exact ih
    · rw [if_neg h1]
      by_cases h2 : a.q = z.q
      · rw [if_pos h2]
        by_cases e : z.q = q
        · have e1 : (mrg z a).q = q := e
          have e2 : a.q = q := by omega
          simp only [hof, kof, e, e1, e2, if_true]
          exact ⟨rfl, rfl⟩
        · have e1 : ¬ (mrg z a).q = q := e
          have e2 : ¬ a.q = q := by omega
          simp only [hof, kof, e, e1, e2, if_false]
          exact ⟨trivial, trivial⟩
      · rw [if_neg h2]
        by_cases e : z.q = q
        · have e2 : ¬ a.q = q := by omega
          have e3 := hof_none (L := L) (q := q) fun y hy => by have := hh y hy; omega
          have e4 := kof_none (L := L) (q := q) fun y hy => by have := hh y hy; omega
          simp only [hof, kof, e, e2, if_true, if_false, e3, e4]
          omega
        · simp only [hof, kof, e, if_false]
          exact ⟨trivial, trivial⟩

/-- laid again: nothing changes -/
theorem ins_same {L : List Lk} {z : Lk} (h : LG L) (h1 : z.h ≤ hof L z.q) (h2 : z.k ≤ kof L z.q) (hz : 0 < z.h) (hx : 0 ≤ z.x ∧ z.x ≤ 63) : ins L z = L := by
  induction L with
  | nil => unfold hof at h1; omega
  | cons a L ih =>
    unfold hof at h1
    unfold kof at h2
    unfold ins
    by_cases e : a.q = z.q
    · rw [if_pos e] at h1 h2
      rw [if_neg (by omega), if_pos e]
      congr 1
      have ha := (h.may a (by simp)).x
      have e1 : z.b = a.b ∧ z.x = a.x := by unfold Lk.q at e; omega
      unfold mrg
      cases a; cases z
      simp only at *
      rw [e1.1, e1.2]
      congr 1 <;> omega
    · rw [if_neg e] at h1 h2
      by_cases h3 : a.q < z.q
      · rw [if_pos h3, ih h.tail h1 h2]
      · have := hof_none (L := L) (q := z.q) fun y hy => by have := h.head y hy; omega
        omega

/-! ### several locks are laid, one behind the other -/
def lay (L more : List Lk) : List Lk := more.foldl ins L

theorem LG.lay {L more : List Lk} (h : LG L) (hm : ∀ z ∈ more, May z) : LG (lay L more) := by
  induction more generalizing L with
  | nil => exact h
  | cons z more ih => exact ih (h.ins (hm z (by simp))) fun y hy => hm y (by simp [hy])
theorem hof_lay {L more : List Lk} (h : LG L) (hm : LG more) (q : Int) : hof (lay L more) q = max (hof more q) (hof L q) ∧ kof (lay L more) q = max (kof more q) (kof L q) := by
  induction more generalizing L with
  | nil =>
    have := h.hk0 q
    show hof L q = max 0 (hof L q) ∧ kof L q = max 0 (kof L q)
    omega
  | cons z more ih =>
    have hz := hm.may z (by simp)
    obtain ⟨i1, i2⟩ := ih (h.ins hz) hm.tail
    obtain ⟨j1, j2⟩ := hof_ins h hz q
    show hof (Proofs.Ytohnfjneghbceaa.lay (ins L z) more) q = _ ∧ kof (Proofs.Ytohnfjneghbceaa.lay (ins L z) more) q = _
    rw [i1, i2, j1, j2]
    by_cases e : z.q = q
    · have e3 := hof_none (L := more) (q := q) fun y hy => by have := hm.head y hy; omega
      have e4 := kof_none (L := more) (q := q) fun y hy => by have := hm.head y hy; omega
      simp only [hof, kof, e, if_true, e3, e4]
      have := h.hk0 q
      have z1 := hz.h
      have z2 := hz.k
      omega
    · simp only [hof, kof, e, if_false]
      exact ⟨trivial, trivial⟩
theorem ins_end {L : List Lk} {z : Lk} (h : ∀ y ∈ L, y.q < z.q) : ins L z = L ++ [z] := by
  have := ins_front (l := L) (r := []) (z := z) h
  rw [List.append_nil] at this
  exact this
theorem lay_nil' {l more : List Lk} (hm : LG (l ++ more)) : lay l more = l ++ more := by
  induction more generalizing l with
  | nil => simp [lay]
  | cons z more ih =>
    show lay (ins l z) more = _
    have hp := (List.pairwise_append.1 hm.up).2.2
    rw [ins_end fun y hy => hp y hy z (by simp), ih (by simpa using hm)]
    simp
theorem lay_nil {more : List Lk} (hm : LG more) : lay [] more = more := lay_nil' (l := []) hm

/-! ### the calls -/
def ofL (L : List Lk) (x : Int) : List Lk := L.filter fun y => decide (y.x = x)
def freeL (L : List Lk) (G : Int → Bool) : List Lk := L.filter fun y => !G y.x
def upL (L : List Lk) (x p : Int) : List Lk := (ofL L x).map fun y => ⟨y.b, p, 0, y.s⟩
def passL (L : List Lk) (x p : Int) : List Lk := if p < 0 then freeL L (fun z => decide (z = x)) else lay (freeL L fun z => decide (z = x)) (upL L x p)

theorem ofL_mem {L : List Lk} {x : Int} {y : Lk} : y ∈ ofL L x ↔ y ∈ L ∧ y.x = x := by unfold ofL; simp
theorem freeL_mem {L : List Lk} {G : Int → Bool} {y : Lk} : y ∈ freeL L G ↔ y ∈ L ∧ G y.x = false := by unfold freeL; simp
theorem LG.ofL {L : List Lk} (h : LG L) (x : Int) : LG (ofL L x) := h.filter _
theorem LG.freeL {L : List Lk} (h : LG L) (G : Int → Bool) : LG (freeL L G) := h.filter _
theorem up_may {y : Lk} (h : May y) {p : Int} (hp : 0 ≤ p ∧ p ≤ 63) : May ⟨y.b, p, 0, y.s⟩ := by
  have h0 := h.s
  have h1 := h.h
  have h2 := h.k
  refine ⟨h.b, hp, ⟨Int.le_refl 0, show (0 : Int) ≤ 2 by decide⟩, ?_, ?_⟩
  · unfold Lk.s at *; show 0 ≤ max y.h y.k ∧ max y.h y.k ≤ 2; omega
  · unfold Lk.s at *; show 0 < max 0 (max y.h y.k); omega
theorem LG.upL {L : List Lk} (h : LG L) (x : Int) {p : Int} (hp : 0 ≤ p ∧ p ≤ 63) : LG (upL L x p) := by
  refine ⟨fun y hy => ?_, ?_⟩
  · unfold Proofs.Ytohnfjneghbceaa.upL at hy
    obtain ⟨z, hz, rfl⟩ := List.mem_map.1 hy
    exact up_may (h.may z (ofL_mem.1 hz).1) hp
  · unfold Proofs.Ytohnfjneghbceaa.upL
    rw [List.pairwise_map]
    refine List.Pairwise.imp_of_mem (fun {y z} hy hz hlt => ?_) (h.ofL x).up
    have h1 := (ofL_mem.1 hy).2
    have h2 := (ofL_mem.1 hz).2
    unfold Lk.q at *
    show y.b * 64 + p < z.b * 64 + p
    omega
theorem LG.passL {L : List Lk} (h : LG L) (x : Int) {p : Int} (hp : p ≤ 63) : LG (passL L x p) := by
  unfold Proofs.Ytohnfjneghbceaa.passL
  split
  · exact h.freeL _
  · exact (h.freeL _).lay (h.upL x (by omega)).may
theorem free_len (L : List Lk) (x : Int) : (freeL L fun z => decide (z = x)).length + (ofL L x).length = L.length := by
  induction L with
  | nil => rfl
  | cons y L ih =>
    have ih : (L.filter fun y => !decide (y.x = x)).length + (L.filter fun y => decide (y.x = x)).length = L.length := ih
    unfold freeL ofL
    rw [List.filter_cons, List.filter_cons]
    by_cases e : y.x = x
    · simp only [e, decide_true, Bool.not_true, Bool.false_eq_true, if_false, if_true, List.length_cons]; omega
    · simp only [e, decide_false, Bool.not_false, Bool.false_eq_true, if_false, if_true, List.length_cons]; omega
/-- who has none: it stays -/
theorem free_none {L : List Lk} {x : Int} (h : ∀ y ∈ L, y.x ≠ x) : (freeL L fun z => decide (z = x)) = L := by
  unfold freeL
  rw [List.filter_eq_self]
  intro y hy
  simpa using h y hy

theorem hof_up {L : List Lk} (h : LG L) (x : Int) {p : Int} (hx : 0 ≤ x ∧ x ≤ 63) (hp : 0 ≤ p ∧ p ≤ 63) (b : Int) (hb : 0 ≤ b) : hof (upL L x p) (b * 64 + p) = 0 ∧ kof (upL L x p) (b * 64 + p) = max (hof L (b * 64 + x)) (kof L (b * 64 + x)) := by
  have hU := h.upL x hp
  rcases hof_dec (upL L x p) (b * 64 + p) with ⟨y, hy, e, h1, h2⟩ | ⟨hn, h1, h2⟩
  · unfold upL at hy
    obtain ⟨z, hz, rfl⟩ := List.mem_map.1 hy
    obtain ⟨hz, hzx⟩ := ofL_mem.1 hz
    have e1 : z.q = b * 64 + x := by
      unfold Lk.q at e ⊢
      simp only at e
      omega
    have h3 := h.at_ hz
    rw [e1] at h3
    rw [h1, h2, h3.1, h3.2]
    exact ⟨rfl, rfl⟩
  · rw [h1, h2]
    refine ⟨rfl, ?_⟩
    rcases hof_dec L (b * 64 + x) with ⟨z, hz, e, h3, h4⟩ | ⟨_, h3, h4⟩
    · have hm := (h.may z hz).x
      have e1 : z.x = x ∧ z.b = b := by unfold Lk.q at e; omega
      refine absurd (show (⟨z.b, p, 0, z.s⟩ : Lk).q = b * 64 + p from by unfold Lk.q; simp only; omega) (hn _ ?_)
      unfold upL
      exact List.mem_map.2 ⟨z, ofL_mem.2 ⟨hz, e1.1⟩, rfl⟩
    · rw [h3, h4]; rfl
theorem hof_free {L : List Lk} (h : LG L) (G : Int → Bool) {b x : Int} (hx : 0 ≤ x ∧ x ≤ 63) (hG : G x = false) : hof (freeL L G) (b * 64 + x) = hof L (b * 64 + x) ∧ kof (freeL L G) (b * 64 + x) = kof L (b * 64 + x) := by
  rcases hof_dec L (b * 64 + x) with ⟨z, hz, e, h3, h4⟩ | ⟨hn, h3, h4⟩
  · have hm := (h.may z hz).x
    have e1 : z.x = x ∧ z.b = b := by unfold Lk.q at e; omega
    have := (h.freeL G).at_ (freeL_mem.2 ⟨hz, by rw [e1.1]; exact hG⟩)
    rw [e] at this
    rw [this.1, this.2, h3, h4]; exact ⟨rfl, rfl⟩
  · rw [h3, h4]
    exact ⟨hof_none fun y hy => hn y (freeL_mem.1 hy).1, kof_none fun y hy => hn y (freeL_mem.1 hy).1⟩

/-- passed to another one: it keeps the greater, and holds what it held -/
theorem hof_pass {L : List Lk} (h : LG L) {x p : Int} (hx : 0 ≤ x ∧ x ≤ 63) (hp : 0 ≤ p ∧ p ≤ 63) (hne : p ≠ x) (b : Int) (hb : 0 ≤ b) :
    hof (passL L x p) (b * 64 + p) = hof L (b * 64 + p) ∧ kof (passL L x p) (b * 64 + p) = max (max (hof L (b * 64 + x)) (kof L (b * 64 + x))) (kof L (b * 64 + p)) := by
  unfold passL
  rw [if_neg (by omega)]
  obtain ⟨h1, h2⟩ := hof_lay (h.freeL fun z => decide (z = x)) (h.upL x hp) (b * 64 + p)
  obtain ⟨h3, h4⟩ := hof_up h x hx hp b hb
  obtain ⟨h5, h6⟩ := hof_free h (fun z => decide (z = x)) (b := b) hp (by simpa using hne)
  rw [h1, h2, h3, h4, h5, h6]
  have := h.hk0 (b * 64 + p)
  exact ⟨by omega, rfl⟩
theorem hof_pass_other {L : List Lk} (h : LG L) {x p : Int} (hp : 0 ≤ p ∧ p ≤ 63) (b y : Int) (hy : 0 ≤ y ∧ y ≤ 63) (h1 : y ≠ x) (h2 : y ≠ p) :
    hof (passL L x p) (b * 64 + y) = hof L (b * 64 + y) ∧ kof (passL L x p) (b * 64 + y) = kof L (b * 64 + y) := by
  unfold passL
  rw [if_neg (by omega)]
  obtain ⟨g1, g2⟩ := hof_lay (h.freeL fun z => decide (z = x)) (h.upL x hp) (b * 64 + y)
  obtain ⟨g5, g6⟩ := hof_free h (fun z => decide (z = x)) (b := b) hy (by simpa using h1)
  have g3 : ∀ z ∈ upL L x p, z.q ≠ b * 64 + y := fun z hz e => by
    unfold upL at hz
    obtain ⟨w, hw, rfl⟩ := List.mem_map.1 hz
    unfold Lk.q at e
    simp only at e
    omega
  rw [g1, g2, g5, g6, hof_none g3, kof_none g3]
  have := h.hk0 (b * 64 + y)
  omega
/-- what is in the table behind a Pass -/
theorem pass_mem {L : List Lk} (h : LG L) {x p : Int} (hx : 0 ≤ x ∧ x ≤ 63) (hp : p ≤ 63) (hne : p ≠ x) {y : Lk} (hy : y ∈ passL L x p) :
    (y ∈ L ∧ y.x ≠ x) ∨ (0 ≤ p ∧ y.x = p ∧ ∃ z ∈ L, z.b = y.b ∧ (z.x = p ∨ z.x = x) ∧ z.s = y.s) := by
  have hP := h.passL x hp
  have my := hP.may y hy
  have mb := my.b
  have mx := my.x
  by_cases hp0 : p < 0
  · unfold passL at hy
    rw [if_pos hp0] at hy
    obtain ⟨h1, h2⟩ := freeL_mem.1 hy
    exact .inl ⟨h1, by simpa using h2⟩
  · have a1 := hP.at_ hy
    have hq : y.q = y.b * 64 + y.x := rfl
    rw [hq] at a1
    by_cases e : y.x = p
    · rw [e] at a1
      obtain ⟨g1, g2⟩ := hof_pass h hx ⟨by omega, hp⟩ hne y.b mb.1
      rw [g1, g2] at a1
      refine .inr ⟨by omega, e, ?_⟩
      have hs : y.s = max (hof L (y.b * 64 + p)) (max (max (hof L (y.b * 64 + x)) (kof L (y.b * 64 + x))) (kof L (y.b * 64 + p))) := by unfold Lk.s; rw [← a1.1, ← a1.2]
      have hs0 := my.s
      have find : ∀ w : Int, 0 ≤ w ∧ w ≤ 63 → max (hof L (y.b * 64 + w)) (kof L (y.b * 64 + w)) = y.s → ∃ z ∈ L, z.b = y.b ∧ z.x = w ∧ z.s = y.s := fun w hw hm => by
        rcases hof_dec L (y.b * 64 + w) with ⟨z, hz, e, h3, h4⟩ | ⟨_, h3, h4⟩
        · have hm' := (h.may z hz).x
          have e1 : z.x = w ∧ z.b = y.b := by unfold Lk.q at e; omega
          exact ⟨z, hz, e1.2, e1.1, by rw [← hm, h3, h4]; rfl⟩
        · omega
      by_cases hc : max (hof L (y.b * 64 + p)) (kof L (y.b * 64 + p)) = y.s
      · obtain ⟨z, hz, e1, e2, e3⟩ := find p ⟨by omega, hp⟩ hc
        exact ⟨z, hz, e1, .inl e2, e3⟩
      · obtain ⟨z, hz, e1, e2, e3⟩ := find x hx (by omega)
        exact ⟨z, hz, e1, .inr e2, e3⟩
    · by_cases e2 : y.x = x
      · exfalso
        unfold passL at hy
        rw [if_neg hp0] at hy
        have g := hof_lay (h.freeL fun z => decide (z = x)) (h.upL x ⟨by omega, hp⟩) y.q
        have g3 : ∀ z ∈ upL L x p, z.q ≠ y.q := fun z hz e' => by
          unfold upL at hz
          obtain ⟨w, hw, rfl⟩ := List.mem_map.1 hz
          unfold Lk.q at e'
          simp only at e'
          omega
        have g4 : ∀ z ∈ freeL L (fun z => decide (z = x)), z.q ≠ y.q := fun z hz e' => by
          obtain ⟨h1, h2⟩ := freeL_mem.1 hz
          have h3 := (h.may z h1).x
          have h4 : z.x ≠ x := by simpa using h2
          unfold Lk.q at e'
          omega
        have a2 := ((h.freeL fun z => decide (z = x)).lay (h.upL x ⟨by omega, hp⟩).may).at_ hy
        rw [g.1, g.2, hof_none g3, hof_none g4, kof_none g3, kof_none g4] at a2
        have := my.s
        unfold Lk.s at this
        omega
      · obtain ⟨g1, g2⟩ := hof_pass_other h ⟨by omega, hp⟩ y.b y.x mx e2 e
        rw [g1, g2] at a1
        exact .inl ⟨h.mem my a1.1 a1.2, e2⟩
end Go.Proofs.Ytohnfjneghbceaa
