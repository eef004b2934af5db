/-
  How a pool lies in memory: its struct, the row of its frames, a block for each.
-/
import Derived.Test.YtnpgmiokimahiaaQa
import Derived.Test.YtnpgmiokimahiaaQb
import Derived.Test.YtnpgmiokimahiaaPw
namespace Go.Proofs.Ytnpgmiokimahiaa
set_option maxRecDepth 100000
set_option linter.unusedVariables false
set_option linter.unusedSimpArgs false
open Go.RowKit Pl

abbrev FT : TypeId := 62
abbrev PT : TypeId := 56
def RF : Rk Nat := ⟨57, 54, 1, 8, .pointer none, fun g => [ptr g]⟩
theorem rf_ok : RF.Ok := ⟨by decide, by decide, fun _ => rfl, fun x v hv => by simp [RF] at hv; subst hv; rfl, Try.underlying54, by kernel_rfl, rfl⟩
theorem rf_cells : ∀ l : List Nat, RF.cells l = l.map fun g => ptr g
  | [] => rfl
  | x :: l => by
    have h := rf_cells l
    unfold Rk.cells at h ⊢
    rw [List.flatMap_cons, h]; rfl

def fqC (x : Fq) : Array Value := (Value.int .i64 (x.at_ : Int) :: (byteVs x.b ++ [.bool x.dirty, .int .i64 x.lsn, .int .i64 (x.pins : Int), .bool x.used])).toArray
section
variable {x : Fq}
theorem fq0 : (fqC x)[0]? = some (.int .i64 (x.at_ : Int)) := rfl
theorem fq_data (h : x.b.length = 64) {j : Nat} (hj : j < 64) : (fqC x)[1 + j]? = (byteVs x.b)[j]? := by
  unfold fqC
  rw [List.getElem?_toArray, Nat.add_comm, List.getElem?_cons_succ, List.getElem?_append_left (by rw [length_byteVs, h]; exact hj)]
theorem fq_tail (h : x.b.length = 64) (k : Nat) : (fqC x)[65 + k]? = [Value.bool x.dirty, .int .i64 x.lsn, .int .i64 (x.pins : Int), .bool x.used][k]? := by
  unfold fqC
  rw [List.getElem?_toArray, show 65 + k = (64 + k) + 1 from by omega, List.getElem?_cons_succ, List.getElem?_append_right (by rw [length_byteVs, h]; omega), length_byteVs, h]
  congr 1
  omega
theorem fq_size (h : x.b.length = 64) : (fqC x).size = 69 := by simp [fqC, length_byteVs, h]
theorem fq65 (h : x.b.length = 64) : (fqC x)[65]? = some (.bool x.dirty) := fq_tail h 0
theorem fq66 (h : x.b.length = 64) : (fqC x)[66]? = some (.int .i64 x.lsn) := fq_tail h 1
theorem fq67 (h : x.b.length = 64) : (fqC x)[67]? = some (.int .i64 (x.pins : Int)) := fq_tail h 2
theorem fq68 (h : x.b.length = 64) : (fqC x)[68]? = some (.bool x.used) := fq_tail h 3
/-- two frames' cells are one where each cell is -/
theorem fq_ext {y : Fq} {cs : Array Value} (hy : y.b.length = 64) (hs : cs.size = 69) (h0 : cs[0]? = some (.int .i64 (y.at_ : Int))) (hd : ∀ j, j < 64 → cs[1 + j]? = (byteVs y.b)[j]?)
    (h1 : cs[65]? = some (.bool y.dirty)) (h2 : cs[66]? = some (.int .i64 y.lsn)) (h3 : cs[67]? = some (.int .i64 (y.pins : Int))) (h4 : cs[68]? = some (.bool y.used)) : cs = fqC y := by
  apply Array.ext_getElem?
  intro i
  rcases (show i = 0 ∨ (1 ≤ i ∧ i < 65) ∨ i = 65 ∨ i = 66 ∨ i = 67 ∨ i = 68 ∨ 69 ≤ i from by omega) with e | ⟨e1, e2⟩ | e | e | e | e | e
  · subst e; rw [h0, fq0]
  · obtain ⟨j, rfl⟩ : ∃ j, i = 1 + j := ⟨i - 1, by omega⟩
    rw [hd j (by omega), fq_data hy (by omega)]
  · subst e; rw [h1, fq65 hy]
  · subst e; rw [h2, fq66 hy]
  · subst e; rw [h3, fq67 hy]
  · subst e; rw [h4, fq68 hy]
  · rw [Array.getElem?_eq_none (by omega), Array.getElem?_eq_none (by rw [fq_size hy]; exact e)]
theorem fq_used (h : x.b.length = 64) (u : Bool) : (fqC x).setIfInBounds 68 (.bool u) = fqC { x with used := u } := by
  have hz := fq_size h
  refine fq_ext h (by rw [Array.size_setIfInBounds, hz]) ?_ (fun j hj => ?_) ?_ ?_ ?_ ?_ <;> rw [Array.getElem?_setIfInBounds]
  · rw [if_neg (by omega)]; exact fq0
  · rw [if_neg (by omega)]; exact fq_data h hj
  · rw [if_neg (by omega)]; exact fq65 h
  · rw [if_neg (by omega)]; exact fq66 h
  · rw [if_neg (by omega)]; exact fq67 h
  · rw [if_pos rfl, if_pos (by omega)]
theorem fq_pins (h : x.b.length = 64) (k : Nat) : (fqC x).setIfInBounds 67 (.int .i64 (k : Int)) = fqC { x with pins := k } := by
  have hz := fq_size h
  refine fq_ext h (by rw [Array.size_setIfInBounds, hz]) ?_ (fun j hj => ?_) ?_ ?_ ?_ ?_ <;> rw [Array.getElem?_setIfInBounds]
  · rw [if_neg (by omega)]; exact fq0
  · rw [if_neg (by omega)]; exact fq_data h hj
  · rw [if_neg (by omega)]; exact fq65 h
  · rw [if_neg (by omega)]; exact fq66 h
  · rw [if_pos rfl, if_pos (by omega)]
  · rw [if_neg (by omega)]; exact fq68 h
/-- dirty or not, and its Lsn -/
theorem fq_dirt (h : x.b.length = 64) (d : Bool) (z : Int) : ((fqC x).setIfInBounds 65 (.bool d)).setIfInBounds 66 (.int .i64 z) = fqC { x with dirty := d, lsn := z } := by
  have hz := fq_size h
  refine fq_ext h (by rw [Array.size_setIfInBounds, Array.size_setIfInBounds, hz]) ?_ (fun j hj => ?_) ?_ ?_ ?_ ?_ <;> rw [Array.getElem?_setIfInBounds, Array.getElem?_setIfInBounds]
  · rw [if_neg (by omega), if_neg (by omega)]; exact fq0
  · rw [if_neg (by omega), if_neg (by omega)]; exact fq_data h hj
  · rw [if_neg (by omega), if_pos rfl, if_pos (by omega)]
  · rw [if_pos rfl, if_pos (by rw [Array.size_setIfInBounds]; omega)]
  · rw [if_neg (by omega), if_neg (by omega)]; exact fq67 h
  · rw [if_neg (by omega), if_neg (by omega)]; exact fq68 h
end

def poC (p room : Nat) (R : Value) (h : Nat) (s : Int) (r : Nat) : Array Value := #[ptr p, .int .i64 (room : Int), R, .int .i64 (h : Int), .int .i64 s, .int .i64 (r : Int)]

/-- a pool in block v, its frames' row, each frame in its block -/
structure PoolAt (w : World) (p n v : Nat) (m : Pm) (l : List Fq) (A : Option Addr) (N c h : Nat) : Prop where
  bk : Bk w v (poC p m.room (.slice A N c) h m.safe m.reads) PT
  own : RF.Own w 0 (.slice A N c) (l.map Fq.g)
  len : l.length = N
  fr : ∀ x ∈ l, Bk w x.g (fqC x) FT
  ring : Ring n m l
  hand : h = 0 ∨ h < N

/-- its blocks -/
def Tq (v : Nat) (A : Option Addr) (gs : List Nat) (k : Nat) : Prop := k = v ∨ (∃ o, A = some ⟨k, o, none⟩) ∨ k ∈ gs

theorem bk_type {w : World} {g : Nat} {cs ds : Array Value} {t u : TypeId} (h : Bk w g cs t) (k : Bk w g ds u) : t = u := by
  have e := h.symm.trans k
  injection e with e
  injection e with _ e

section
variable {w W : World} {p n v : Nat} {m m' : Pm} {l l' : List Fq} {A : Option Addr} {N c h h' : Nat} {x y : Fq} {j : Nat}
theorem PoolAt.le (q : PoolAt w p n v m l A N c h) : N ≤ 64 ∧ N ≤ m.room := by have := q.ring.few; have := q.len; omega
theorem PoolAt.row (q : PoolAt w p n v m l A N c h) {g o : Nat} (hA : A = some ⟨g, o, none⟩) : o = 0 ∧ ∃ cs, Bk w g cs 57 := by
  subst hA
  rcases q.own.2 with ⟨e, _⟩ | ⟨g2, cap, cur, e, hg, hh, _⟩
  · injection e with e; cases e
  · injection e with e1 e2 e3
    injection e1 with e1
    injection e1 with e1 e4
    subst e1
    exact ⟨e4, cur, hh⟩
theorem PoolAt.nv (q : PoolAt w p n v m l A N c h) (hx : x ∈ l) : x.g ≠ v := fun e => by
  have h1 := q.fr x hx
  rw [e] at h1
  exact absurd (bk_type h1 q.bk) (by decide)
theorem PoolAt.nr (q : PoolAt w p n v m l A N c h) {g o : Nat} (hA : A = some ⟨g, o, none⟩) : g ≠ v ∧ ∀ x ∈ l, x.g ≠ g := by
  obtain ⟨_, cs, hb⟩ := q.row hA
  refine ⟨fun e => ?_, fun x hx e => ?_⟩
  · rw [e] at hb; exact absurd (bk_type hb q.bk) (by decide)
  · have h1 := q.fr x hx
    rw [e] at h1
    exact absurd (bk_type h1 hb) (by decide)
theorem PoolAt.lt (q : PoolAt w p n v m l A N c h) : ∀ k, Tq v A (l.map Fq.g) k → k < w.heap.size := by
  rintro k (rfl | ⟨o, e⟩ | hk)
  · exact q.bk.lt
  · obtain ⟨_, cs, hb⟩ := q.row e
    exact Bk.lt hb
  · obtain ⟨x, hx, rfl⟩ := List.mem_map.1 hk
    exact (q.fr x hx).lt
theorem PoolAt.turn (q : PoolAt w p n v m l A N c h) {S : Nat → Prop} (ht : Turn S w W) (hS : ∀ k, Tq v A (l.map Fq.g) k → ¬ S k) : PoolAt W p n v m l A N c h :=
  ⟨q.bk.turn ht (hS v (.inl rfl)), q.own.turn ht (fun k hk => hS k (.inr (.inl (by
    cases A with
    | none => cases hk
    | some a =>
      have e := Option.some.inj hk
      obtain ⟨b, o, f⟩ := a
      have e2 : b = k := e
      subst e2
      rcases q.own.2 with ⟨e, _⟩ | ⟨g2, cap, cur, e, _⟩
      · injection e with e; cases e
      · injection e with e1
        injection e1 with e1
        exact ⟨o, by rw [show f = none from by injection e1]⟩)))), q.len,
    fun x hx => (q.fr x hx).turn ht (hS x.g (.inr (.inr (List.mem_map.2 ⟨x, hx, rfl⟩)))), q.ring, q.hand⟩
theorem PoolAt.keep (q : PoolAt w p n v m l A N c h) (ht : Turn (fun _ => False) w W) : PoolAt W p n v m l A N c h := q.turn ht (fun _ _ h => h)
/-- the device's blocks are others -/
theorem PoolAt.off (q : PoolAt w p n v m l A N c h) {D : Dv} {L M : Nat} (hd : IsDev w p L M D) : ∀ k, Tq v A (l.map Fq.g) k → ¬ DS p L M k := by
  have key : ∀ k cs t, Bk w k cs t → t ≠ 53 → t ≠ 60 → ¬ DS p L M k := by
    intro k cs t hb h1 h2 hk
    obtain ⟨_, _, ⟨c0, _, _, hp⟩, hL, hM⟩ := hd
    rcases hk with rfl | rfl | rfl
    · exact h1 (bk_type hb hp)
    · exact h2 (bk_type hb hL)
    · obtain ⟨DD, ⟨es, ck, hbm, _⟩, _⟩ := hM
      have e := hb.symm.trans hbm
      cases e
  rintro k (rfl | ⟨o, e⟩ | hk)
  · exact key _ _ _ q.bk (by decide) (by decide)
  · obtain ⟨_, cs, hb⟩ := q.row e
    exact key _ _ _ hb (by decide) (by decide)
  · obtain ⟨x, hx, rfl⟩ := List.mem_map.1 hk
    exact key _ _ _ (q.fr x hx) (by decide) (by decide)
/-- a frame turned -/
theorem PoolAt.updS (q : PoolAt w p n v m l A N c h) (hx : l[j]? = some x) (hg : y.g = x.g) {S : Nat → Prop} (ht : Turn S w W) (hS : ∀ k, Tq v A (l.map Fq.g) k → k ≠ x.g → ¬ S k) (hb : Bk W x.g (fqC y) FT) (hr : Ring n m' (l.set j y)) (e1 : m'.room = m.room) (e2 : m'.safe = m.safe) (e3 : m'.reads = m.reads) :
    PoolAt W p n v m' (l.set j y) A N c h := by
  have hxm := List.mem_of_getElem? hx
  have hj : j < l.length := (List.getElem?_eq_some_iff.1 hx).1
  have hgs : (l.set j y).map Fq.g = l.map Fq.g := by
    rw [List.map_set, hg]
    apply List.ext_getElem?
    intro i
    rw [List.getElem?_set]
    by_cases e : j = i
    · subst e
      rw [if_pos rfl, List.length_map, if_pos hj, List.getElem?_map, hx]; rfl
    · rw [if_neg e]
  refine ⟨by rw [e1, e2, e3]; exact q.bk.turn ht (hS v (.inl rfl) (fun e => q.nv hxm e.symm)), ?_, by rw [List.length_set]; exact q.len, fun z hz => ?_, hr, q.hand⟩
  · rw [hgs]
    refine q.own.turn ht (fun k hk e => ?_)
    cases A with
    | none => cases hk
    | some a =>
      obtain ⟨b, o, f⟩ := a
      have e2 : b = k := Option.some.inj hk
      have hf : f = none := by
        rcases q.own.2 with ⟨e, _⟩ | ⟨g2, cap, cur, e, _⟩
        · injection e with e; cases e
        · injection e with e1
          injection e1 with e1
          injection e1
      subst hf
      exact hS b (.inr (.inl ⟨o, rfl⟩)) (fun e3 => (q.nr rfl).2 x hxm e3.symm) (by rw [e2]; exact e)
  · obtain ⟨k, hk⟩ := List.mem_iff_getElem?.1 hz
    rw [List.getElem?_set] at hk
    by_cases e : j = k
    · rw [if_pos e, if_pos hj] at hk
      injection hk with hk
      subst hk
      rw [hg]; exact hb
    · rw [if_neg e] at hk
      have hne : z.g ≠ x.g := fun e2 => e (q.ring.gs k j z x hk hx e2).symm
      have hzm := List.mem_of_getElem? hk
      exact (q.fr z hzm).turn ht (hS z.g (.inr (.inr (List.mem_map.2 ⟨z, hzm, rfl⟩))) hne)
theorem PoolAt.upd (q : PoolAt w p n v m l A N c h) (hx : l[j]? = some x) (hg : y.g = x.g) (ht : Turn (· = x.g) w W) (hb : Bk W x.g (fqC y) FT) (hr : Ring n m' (l.set j y)) (e1 : m'.room = m.room) (e2 : m'.safe = m.safe) (e3 : m'.reads = m.reads) :
    PoolAt W p n v m' (l.set j y) A N c h := q.updS hx hg ht (fun k _ hne => hne) hb hr e1 e2 e3
theorem upd_gs (hx : l[j]? = some x) (hg : y.g = x.g) : (l.set j y).map Fq.g = l.map Fq.g := by
  rw [List.map_set, hg]
  apply List.ext_getElem?
  intro i
  rw [List.getElem?_set]
  by_cases e : j = i
  · subst e
    rw [if_pos rfl, List.length_map, if_pos (List.getElem?_eq_some_iff.1 hx).1, List.getElem?_map, hx]; rfl
  · rw [if_neg e]
/-- the struct turned -/
theorem PoolAt.struct (q : PoolAt w p n v m l A N c h) (ht : Turn (· = v) w W) (hb : Bk W v (poC p m'.room (.slice A N c) h' m'.safe m'.reads) PT) (hr : Ring n m' l) (hh : h' = 0 ∨ h' < N) : PoolAt W p n v m' l A N c h' := by
  refine ⟨hb, q.own.turn ht (fun k hk e => ?_), q.len, fun x hx => (q.fr x hx).turn ht (q.nv hx), hr, hh⟩
  cases A with
  | none => cases hk
  | some a =>
    obtain ⟨b, o, f⟩ := a
    have e2 : b = k := Option.some.inj hk
    have hf : f = none := by
      rcases q.own.2 with ⟨e, _⟩ | ⟨g2, cap, cur, e, _⟩
      · injection e with e; cases e
      · injection e with e1
        injection e1 with e1
        injection e1
    subst hf
    exact (q.nr rfl).1 (e2.trans e)

/-- the struct's cells -/
theorem PoolAt.c0 (q : PoolAt w p n v m l A N c h) : w.cell? ⟨v, 0, none⟩ = some (ptr p) := q.bk.c 0 _ rfl
theorem PoolAt.c1 (q : PoolAt w p n v m l A N c h) : w.cell? ⟨v, 1, none⟩ = some (.int .i64 (m.room : Int)) := q.bk.c 1 _ rfl
theorem PoolAt.c2 (q : PoolAt w p n v m l A N c h) : w.cell? ⟨v, 2, none⟩ = some (.slice A N c) := q.bk.c 2 _ rfl
theorem PoolAt.c3 (q : PoolAt w p n v m l A N c h) : w.cell? ⟨v, 3, none⟩ = some (.int .i64 (h : Int)) := q.bk.c 3 _ rfl
theorem PoolAt.c4 (q : PoolAt w p n v m l A N c h) : w.cell? ⟨v, 4, none⟩ = some (.int .i64 m.safe) := q.bk.c 4 _ rfl
theorem PoolAt.c5 (q : PoolAt w p n v m l A N c h) : w.cell? ⟨v, 5, none⟩ = some (.int .i64 (m.reads : Int)) := q.bk.c 5 _ rfl
/-- a frame's pointer in the row -/
theorem PoolAt.at_ (q : PoolAt w p n v m l A N c h) (hx : l[j]? = some x) : ∃ g, A = some ⟨g, 0, none⟩ ∧ j < N ∧ w.cell? ⟨g, j, none⟩ = some (ptr x.g) := by
  have hj : j < l.length := (List.getElem?_eq_some_iff.1 hx).1
  have hg : (l.map Fq.g)[j]? = some x.g := by rw [List.getElem?_map, hx]; rfl
  obtain ⟨b, o, hA, _, hc⟩ := (q.own.at_ rf_ok).get rf_ok hg
  obtain ⟨rfl, _⟩ := q.row hA
  refine ⟨b, hA, by have := q.len; omega, ?_⟩
  have := hc 0 _ rfl
  rwa [show 0 + (j * RF.m + 0) = j from by show 0 + (j * 1 + 0) = j; omega] at this
/-- a frame's cells -/
structure FAt (w : World) (x : Fq) : Prop where
  bk : Bk w x.g (fqC x) FT
  l64 : x.b.length = 64
theorem PoolAt.f (q : PoolAt w p n v m l A N c h) (hx : x ∈ l) : FAt w x := ⟨q.fr x hx, (q.ring.bd hx).2.1⟩
theorem FAt.c0 (f : FAt w x) : w.cell? ⟨x.g, 0, none⟩ = some (.int .i64 (x.at_ : Int)) := f.bk.c 0 _ fq0
theorem FAt.c65 (f : FAt w x) : w.cell? ⟨x.g, 65, none⟩ = some (.bool x.dirty) := f.bk.c 65 _ (fq65 f.l64)
theorem FAt.c66 (f : FAt w x) : w.cell? ⟨x.g, 66, none⟩ = some (.int .i64 x.lsn) := f.bk.c 66 _ (fq66 f.l64)
theorem FAt.c67 (f : FAt w x) : w.cell? ⟨x.g, 67, none⟩ = some (.int .i64 (x.pins : Int)) := f.bk.c 67 _ (fq67 f.l64)
theorem FAt.c68 (f : FAt w x) : w.cell? ⟨x.g, 68, none⟩ = some (.bool x.used) := f.bk.c 68 _ (fq68 f.l64)
theorem FAt.turn (f : FAt w x) {S : Nat → Prop} (ht : Turn S w W) (hS : ¬ S x.g) : FAt W x := ⟨f.bk.turn ht hS, f.l64⟩
/-- its bytes -/
theorem FAt.rd (f : FAt w x) : Rd w w.heap.size (some ⟨x.g, 1, none⟩) x.b := .inr ⟨x.g, 1, rfl, f.bk.lt, fun j y hy => f.bk.c (1 + j) _ (by
  have hj : j < 64 := by rw [← f.l64]; exact (List.getElem?_eq_some_iff.1 hy).1
  rw [fq_data f.l64 hj, byteVs, List.getElem?_map, hy]; rfl)⟩
theorem FAt.firm (f : FAt w x) {S : Nat → Prop} (hS : ¬ S x.g) : Firm S w (some ⟨x.g, 1, none⟩) x.b := fun V hV => (f.turn hV hS).rd
theorem FAt.used (f : FAt w x) (u : Bool) : FAt (w.setCell ⟨x.g, 68, none⟩ (.bool u)) { x with used := u } := ⟨by
  have := heap_setCell_same w x.g 68 _ _ (.bool u) f.bk
  rw [fq_used f.l64] at this
  exact this, f.l64⟩
end

/-- how a pool lies -/
def lay : Lay := fun w p n v m T => ∃ l A N c h, PoolAt w p n v m l A N c h ∧ T = Tq v A (l.map Fq.g)
end Go.Proofs.Ytnpgmiokimahiaa
