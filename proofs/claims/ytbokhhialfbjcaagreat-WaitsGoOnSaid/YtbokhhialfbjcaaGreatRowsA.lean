/-
  Rows of elements of so many cells each, whatever they are; blocks of any cells.
-/
import Derived.Test.YtbokhhialfbjcaaGreatLockB
import Derived.Maps.OwnIn
import Derived.Test.YtbokhhialfbjcaaGreatWnA
namespace Go.Proofs.YtbokhhialfbjcaaGreat
set_option maxRecDepth 100000
set_option linter.unusedVariables false
open Go.RowKit Go.Shelf Go.Maps Go.Sort

/-- an element's type, its slice's, how many cells and bytes, its zero value, its cells -/
structure Rk (α : Type) where
  e : TypeId
  s : TypeId
  m : Nat
  b : Nat
  z : Value
  enc : α → List Value
structure Rk.Ok {α : Type} (R : Rk α) : Prop where
  pos : 0 < R.m
  few : R.b ≤ 1000
  len : ∀ x, (R.enc x).length = R.m
  one : ∀ x, ∀ v ∈ R.enc x, v.oneCell' = true
  und : Tryz.prog.underlying R.s = some (.slice R.e)
  facts : (Tryz.prog.info? R.e).map (fun i => (i.zero, i.size, i.bytes)) = some (some R.z, R.m, R.b)
  zs : R.z.cells.size = R.m

section
variable {α : Type} {R : Rk α}
def Rk.cells (R : Rk α) (l : List α) : List Value := l.flatMap R.enc
theorem Rk.Ok.length (h : R.Ok) : ∀ l : List α, (R.cells l).length = l.length * R.m
  | [] => by simp [Rk.cells]
  | x :: l => by
    have := h.length l
    unfold Rk.cells at this ⊢
    rw [List.flatMap_cons, List.length_append, this, h.len, List.length_cons, Nat.succ_mul, Nat.add_comm]
theorem Rk.cells_append (a b : List α) : R.cells (a ++ b) = R.cells a ++ R.cells b := by simp [Rk.cells]
theorem Rk.Ok.ones (h : R.Ok) (l : List α) : ∀ u ∈ R.cells l, u.oneCell' = true := by
  intro u hu
  unfold Rk.cells at hu
  rw [List.mem_flatMap] at hu
  obtain ⟨x, _, hx⟩ := hu
  exact h.one x u hx
theorem Rk.Ok.at (h : R.Ok) : ∀ (l : List α) (i : Nat) (x : α) (k : Nat), l[i]? = some x → k < R.m → (R.cells l)[i * R.m + k]? = (R.enc x)[k]?
  | [], i, x, k, hi, _ => by simp at hi
  | y :: l, 0, x, k, hi, hk => by
    simp at hi; subst hi
    unfold Rk.cells
    rw [List.flatMap_cons, Nat.zero_mul, Nat.zero_add, List.getElem?_append_left (by rw [h.len]; exact hk)]
  | y :: l, i + 1, x, k, hi, hk => by
    have ih := h.at l i x k (by simpa using hi) hk
    unfold Rk.cells at ih ⊢
    rw [List.flatMap_cons, List.getElem?_append_right (by rw [h.len, Nat.succ_mul]; omega), h.len, ← ih]
    congr 1
    rw [Nat.succ_mul]; omega

/-- they lie there -/
def Rk.At (R : Rk α) (W : World) (A : Option Addr) (l : List α) : Prop :=
  l = [] ∨ ∃ b o, A = some ⟨b, o, none⟩ ∧ b < W.heap.size ∧ ∀ j u, (R.cells l)[j]? = some u → W.cell? ⟨b, o + j, none⟩ = some u
variable {W V w w' : World} {A : Option Addr} {l r : List α} {S : Nat → Prop}
theorem Rk.At.nil (R : Rk α) (W : World) (A : Option Addr) : R.At W A [] := .inl rfl
theorem Rk.At.turn (h : R.At W A l) (ht : Turn S W V) (hS : ∀ b o, A = some ⟨b, o, none⟩ → l = [] ∨ ¬ S b) : R.At V A l := by
  rcases h with h | ⟨b, o, rfl, hb, hc⟩
  · exact .inl h
  · rcases hS b o rfl with h | h
    · exact .inl h
    · exact .inr ⟨b, o, rfl, Nat.lt_of_lt_of_le hb ht.size, fun j u hu => ht.cell (hc j u hu) h⟩
theorem Rk.At.below (h : R.At W A l) (hb : Below W.heap.size W V) : R.At V A l :=
  h.turn (S := fun _ => False) (Turn.ofBelow hb) (fun _ _ _ => .inr fun h => h)
theorem Rk.At.get (hR : R.Ok) (h : R.At W A l) {i : Nat} {x : α} (hx : l[i]? = some x) : ∃ b o, A = some ⟨b, o, none⟩ ∧ b < W.heap.size ∧ ∀ k u, (R.enc x)[k]? = some u → W.cell? ⟨b, o + (i * R.m + k), none⟩ = some u := by
  rcases h with rfl | ⟨b, o, e, hb, hc⟩
  · simp at hx
  · refine ⟨b, o, e, hb, fun k u hu => hc _ _ ?_⟩
    rw [hR.at l i x k hx (by rw [← hR.len x]; exact (List.getElem?_eq_some_iff.1 hu).1)]; exact hu
theorem Rk.At.left (h : R.At W A (l ++ r)) : R.At W A l := by
  rcases h with h | ⟨b, o, e, hb, hc⟩
  · exact .inl (List.append_eq_nil_iff.1 h).1
  · refine .inr ⟨b, o, e, hb, fun j u hu => hc j u ?_⟩
    rw [Rk.cells_append, List.getElem?_append_left (List.getElem?_eq_some_iff.1 hu).1]; exact hu
theorem Rk.At.take (h : R.At W A l) (n : Nat) : R.At W A (l.take n) := by
  have e := List.take_append_drop n l
  rw [← e] at h
  exact h.left
theorem Rk.At.right (hR : R.Ok) {b o n : Nat} (h : R.At W (some ⟨b, o, none⟩) (l ++ r)) (hn : l.length = n) : R.At W (some ⟨b, o + n * R.m, none⟩) r := by
  subst hn
  rcases h with h | ⟨b', o', e, hb, hc⟩
  · exact .inl (List.append_eq_nil_iff.1 h).2
  · injection e with e
    injection e with e1 e2
    subst e1; subst e2
    refine .inr ⟨b, _, rfl, hb, fun j u hu => ?_⟩
    rw [Nat.add_assoc]
    refine hc _ _ ?_
    rw [Rk.cells_append, List.getElem?_append_right (by rw [hR.length]; omega), hR.length, Nat.add_sub_cancel_left]; exact hu
theorem Rk.At.lt (h : R.At W A l) (b o : Nat) (e : A = some ⟨b, o, none⟩) : l = [] ∨ b < W.heap.size := by
  rcases h with h | ⟨b', o', e', hb, _⟩
  · exact .inl h
  · rw [e] at e'; injection e' with e'; injection e' with e1; exact .inr (by omega)

/-- a row of the call's own -/
def Rk.Own (R : Rk α) (w : World) (base : Nat) (v : Value) (l : List α) : Prop := w.ownsRow base R.e R.m v l.length (R.cells l)
variable {base : Nat} {v : Value}
theorem Rk.Own.nil (R : Rk α) (w : World) (base : Nat) : R.Own w base (.slice none 0 0) [] := World.ownsRow_nil _ _ _ _
theorem Rk.Own.form (hR : R.Ok) (h : R.Own w base v l) : ∃ A c, v = .slice A l.length c ∧ l.length ≤ c ∧ R.At w A l ∧ (A = none ∨ ∃ g, A = some ⟨g, 0, none⟩ ∧ base ≤ g ∧ g < w.heap.size) := by
  rcases h.2 with ⟨rfl, hn⟩ | ⟨g, cap, cur, rfl, hg, _, hnc, _⟩
  · have : l = [] := List.eq_nil_of_length_eq_zero hn
    subst this
    exact ⟨none, 0, rfl, Nat.le_refl _, .inl rfl, .inl rfl⟩
  · refine ⟨_, cap, rfl, hnc, .inr ⟨g, 0, rfl, (World.ownsRow.lt h g rfl).2, fun j u hu => ?_⟩, .inr ⟨g, rfl, hg, (World.ownsRow.lt h g rfl).2⟩⟩
    have hj : j < l.length * R.m := by rw [← hR.length]; exact (List.getElem?_eq_some_iff.1 hu).1
    rw [Nat.zero_add]
    exact (World.ownsRow.cellAt h j hj).trans hu
theorem Rk.Own.turn (h : R.Own w base v l) (ht : Turn S w w') (hS : ∀ k, v.ownBlock = some k → ¬ S k) : R.Own w' base v l := by
  refine ⟨h.1, ?_⟩
  rcases h.2 with h2 | ⟨g, c, cur, e, hg, hh, rest⟩
  · exact .inl h2
  · exact .inr ⟨g, c, cur, e, hg, (ht.block g (lt_of_block hh) (hS g (by rw [e]; rfl))).trans hh, rest⟩
theorem Rk.Own.below (h : R.Own w base v l) (hb : Below w.heap.size w w') : R.Own w' base v l := h.turn (S := fun _ => False) (Turn.ofBelow hb) (fun _ _ h => h)
theorem Rk.Own.lt (h : R.Own w base v l) : ∀ k, v.ownBlock = some k → base ≤ k ∧ k < w.heap.size := World.ownsRow.lt h
theorem Rk.Own.le (h : R.Own w base v l) {b : Nat} (hb : b ≤ base) : R.Own w b v l := by
  refine ⟨h.1, ?_⟩
  rcases h.2 with h2 | ⟨g, c, cur, e, hg, rest⟩
  · exact .inl h2
  · exact .inr ⟨g, c, cur, e, Nat.le_trans hb hg, rest⟩

/-- 'append(l, m...)' -/
theorem Rk.run_append (hR : R.Ok) {A : Option Addr} {n c : Nat} (hown : R.Own w base v l) (hm : R.At w A r) (hn : r.length = n) (hA : A = none ∨ ∃ b o, A = some ⟨b, o, none⟩) (hlen : l.length + r.length ≤ 100000000) (hbase : base ≤ w.heap.size) (ty : TypeId) :
    ∃ v' w', (Builtin.append_ #[R.s, R.s] ty #[v, .slice A n c]).run Tryz.prog w = .ok v' w' ∧ R.Own w' base v' (l ++ r) ∧ w.grownBy w' v.ownBlock ∧ (v'.ownBlock = v.ownBlock ∨ v'.ownBlock = some w.heap.size) := by
  subst hn
  obtain ⟨i0, hi, hz, hs1, hb⟩ := parts_of hR.facts
  have hfew := hR.few
  rcases hA with rfl | ⟨b, o, rfl⟩
  · have hm0 : r = [] := by
      rcases hm with h | ⟨b, o, e, _⟩
      · exact h
      · cases e
    subst hm0
    refine ⟨v, w, ?_, by rw [List.append_nil]; exact hown, ⟨rfl, rfl, rfl, Nat.le_refl _, fun _ _ _ => rfl⟩, .inl rfl⟩
    rcases hown.2 with ⟨rfl, hn⟩ | ⟨g, cap, cur, rfl, _, _, hnc, _⟩
    · simp [Builtin.append_, run_underlying hR.und, sizeOf, typeInfo, hi, Builtin.lenOf, Builtin.firstCells]
    · simp [Builtin.append_, run_underlying hR.und, sizeOf, typeInfo, hi, Builtin.lenOf, Builtin.firstCells, loadCells, storeCells, hnc]
  · have hcells : ∀ j u, (R.cells r)[j]? = some u → w.cell? ⟨b, o + j, none⟩ = some u := by
      rcases hm with rfl | ⟨b', o', e, _, hc⟩
      · intro j u hu; simp [Rk.cells] at hu
      · injection e with e
        injection e with e1 e2
        subst e1; subst e2
        exact hc
    obtain ⟨v', w', h1, h2, h3, _, h5⟩ := run_append_own_at w base R.s ty R.e i0 R.z R.m R.b hR.und hi hz hs1 hb hR.zs hR.pos v l.length (R.cells l) hown ⟨b, o, none⟩ r.length c (R.cells r) (hR.length r) (fun j u hu => by rw [addr_add]; exact hcells j u hu) (hR.ones r) (by unfold maxLen; omega) (Nat.le_trans (Nat.mul_le_mul hlen hfew) (by decide)) hbase
    refine ⟨v', w', h1, ?_, h3, h5⟩
    unfold Rk.Own
    rw [List.length_append, Rk.cells_append]
    exact h2
theorem Rk.wpList_append {ops : Array Oper} {rest : List Oper} {o : Oper} {a : Act} {Q : Exit → Act → World → Prop} (hR : R.Ok) (hgd : o.guard = none) (s x : Operand)
    (ho : o.op = .call { callee := .builtin .append, args := #[s, x], argTypes := #[R.s, R.s] }) (base : Nat) (v : Value) (l r : List α) (hs : a.eval s = v) (hown : R.Own w base v l)
    (A : Option Addr) (n c : Nat) (hx : a.eval x = .slice A n c) (hm : R.At w A r) (hn : r.length = n) (hA : A = none ∨ ∃ b o, A = some ⟨b, o, none⟩) (hlen : l.length + r.length ≤ 100000000) (hbase : base ≤ w.heap.size)
    (h : ∀ v' w', R.Own w' base v' (l ++ r) → w.grownBy w' v.ownBlock → (v'.ownBlock = v.ownBlock ∨ v'.ownBlock = some w.heap.size) → wpList Tryz.prog ops Q rest (a.put o.dst v') w') : wpList Tryz.prog ops Q (o :: rest) a w := by
  refine wpList_plain hgd fun K hK => ?_
  obtain ⟨v', w', hr, h2, h3, h4⟩ := Rk.run_append (c := c) hR hown hm hn hA hlen hbase o.type
  unfold Oper.wp execOp
  simp only [ho, resolve, invoke, builtin, Sem.run_bind, Sem.run_pure, Result.andThen_ok, List.map_toArray, List.map_cons, List.map_nil, hs, hx, hr]
  exact hK _ _ (h v' w' h2 h3 h4)
theorem Rk.wp_append {o : Oper} {a : Act} {K : Act → World → Prop} {Q : Exit → Act → World → Prop} (hR : R.Ok) (s x : Operand)
    (ho : o.op = .call { callee := .builtin .append, args := #[s, x], argTypes := #[R.s, R.s] }) (base : Nat) (v : Value) (l r : List α) (hs : a.eval s = v) (hown : R.Own w base v l)
    (A : Option Addr) (n c : Nat) (hx : a.eval x = .slice A n c) (hm : R.At w A r) (hn : r.length = n) (hA : A = none ∨ ∃ b o, A = some ⟨b, o, none⟩) (hlen : l.length + r.length ≤ 100000000) (hbase : base ≤ w.heap.size)
    (h : ∀ v' w', R.Own w' base v' (l ++ r) → w.grownBy w' v.ownBlock → (v'.ownBlock = v.ownBlock ∨ v'.ownBlock = some w.heap.size) → K (a.put o.dst v') w') : o.wp Tryz.prog a w K Q := by
  obtain ⟨v', w', hr, h2, h3, h4⟩ := Rk.run_append (c := c) hR hown hm hn hA hlen hbase o.type
  unfold Oper.wp execOp
  simp only [ho, resolve, invoke, builtin, Sem.run_bind, Sem.run_pure, Result.andThen_ok, List.map_toArray, List.map_cons, List.map_nil, hs, hx, hr]
  exact h v' w' h2 h3 h4
/-- in a fence -/
theorem Rk.wpListIn_append {F : Fence} {nF : Nat} {ops : Array Oper} {rest : List Oper} {o : Oper} {a : Act} {Q : Exit → Act → World → Prop} (hR : R.Ok) (hgd : o.guard = none) (s x : Operand)
    (ho : o.op = .call { callee := .builtin .append, args := #[s, x], argTypes := #[R.s, R.s] }) (base : Nat) (v : Value) (l r : List α) (hs : a.eval s = v) (hown : R.Own w base v l)
    (A : Option Addr) (n c : Nat) (hx : a.eval x = .slice A n c) (hm : R.At w A r) (hn : r.length = n) (hA : A = none ∨ ∃ b o, A = some ⟨b, o, none⟩) (hlen : l.length + r.length ≤ 100000000) (hbase : base ≤ w.heap.size)
    (h : ∀ v' w', R.Own w' base v' (l ++ r) → w.grownBy w' v.ownBlock → (v'.ownBlock = v.ownBlock ∨ v'.ownBlock = some w.heap.size) → wpListIn F nF Tryz.prog ops Q rest (a.put o.dst v') w') : wpListIn F nF Tryz.prog ops Q (o :: rest) a w := by
  refine wpListIn_plain hgd fun K hK => ?_
  obtain ⟨v', w', hr, h2, h3, h4⟩ := Rk.run_append (c := c) hR hown hm hn hA hlen hbase o.type
  unfold Oper.wpIn
  refine ⟨by simp [Oper.about, ho, resolve, Target.leads, Sem.run_pure], ?_⟩
  rw [Oper.semAt_plain F _ _ (by rw [ho]; intro c hc'; cases hc')]
  simp [execOp, ho, resolve, invoke, builtin, hs, hx, hr, Result.andThen]
  exact hK _ _ (h v' w' h2 h3 h4)
/-- the one that a literal of one lays -/
theorem Rk.At.new (hR : R.Ok) (w : World) (x : α) (t : TypeId) : R.At (w.alloc (.cells (R.enc x).toArray t)) (some ⟨w.heap.size, 0, none⟩) [x] :=
  .inr ⟨w.heap.size, 0, rfl, by simp, fun j u hu => by
    have h : (R.enc x)[j]? = some u := by simpa [Rk.cells] using hu
    rw [Nat.zero_add, cell_new, ← h]; simp⟩

/-- the head of a row of the call's own: 'l[:k]' -/
theorem Rk.Own.cut (hR : R.Ok) {g n c : Nat} (h : R.Own w base (.slice (some ⟨g, 0, none⟩) n c) l) {k : Nat} (hk : k ≤ n) : R.Own w base (.slice (some ⟨g, 0, none⟩) k c) (l.take k) := by
  rcases h.2 with ⟨e, _⟩ | ⟨g', cap, cur, e, hg, hh, hnc, hcm, hcs, ht⟩
  · cases e
  · injection e with e1 e2 e3
    injection e1 with e1
    injection e1 with e1
    subst e1
    subst e3
    have hl : (l.take k).length = k := by rw [List.length_take]; omega
    refine ⟨by rw [hR.length], .inr ⟨g, c, cur, by rw [hl], hg, hh, by omega, hcm, hcs, ?_⟩⟩
    have hc : R.cells (l.take k) = (R.cells l).take (k * R.m) := by
      have e := List.take_append_drop k l
      conv => rhs; rw [← e, Rk.cells_append]
      rw [List.take_left' (by rw [hR.length, hl])]
    rw [hc, ← ht, List.take_take, hl, Nat.min_eq_left (Nat.mul_le_mul_right _ (by omega))]
end

/-- a block's cells -/
def Bk (W : World) (g : Nat) (cs : Array Value) (t : TypeId) : Prop := W.heap[g]? = some (.cells cs t (0, 0))
section
variable {W V : World} {g : Nat} {cs ds : Array Value} {t : TypeId}
theorem Bk.c (h : Bk W g cs t) (j : Nat) (v : Value) (hv : cs[j]? = some v) : W.cell? ⟨g, j, none⟩ = some v := (cell_of_row _ _ _ _ _ _ h).trans hv
theorem Bk.fr (h : Bk W g cs t) (j : Nat) : W.frozen? ⟨g, j, none⟩ = false := by
  have h' : W.heap[g]? = _ := h
  unfold World.frozen?
  simp only [h']
  simp
theorem Bk.lt (h : Bk W g cs t) : g < W.heap.size := lt_of_block h
theorem Bk.below (h : Bk W g cs t) (hb : Below W.heap.size W V) : Bk V g cs t := (hb.block g h.lt).trans h
theorem Bk.turn {S : Nat → Prop} (h : Bk W g cs t) (ht : Turn S W V) (hS : ¬ S g) : Bk V g cs t := (ht.block g h.lt hS).trans h
theorem Bk.far {r : Option Nat} (h : Bk W g cs t) (hg : W.grownBy V r) (hne : some g ≠ r) : Bk V g cs t := (hg.block g h.lt hne).trans h
theorem Bk.new (W : World) (cs : Array Value) (t : TypeId) : Bk (W.alloc (.cells cs t)) W.heap.size cs t := heap_alloc_new W _
theorem Bk.al (h : Bk W g cs t) (o : Obj) : Bk (W.alloc o) g cs t := h.far (World.grownBy_alloc W o none) (by simp)
end
end Go.Proofs.YtbokhhialfbjcaaGreat

namespace Go.Proofs.YtbokhhialfbjcaaGreat
set_option maxRecDepth 100000
set_option linter.unusedVariables false
open Go.RowKit Go.Shelf Go.Sort

def wnC (w : Wn) : List Value := [.int .i64 (w.x : Int), .int .i64 w.b, .int .i64 w.m]
def wnV (w : Wn) : Value := .agg #[.int .i64 (w.x : Int), .int .i64 w.b, .int .i64 w.m]
def RW : Rk Wn := ⟨52, 26, 3, 24, .agg #[.int .i64 0, .int .i64 0, .int .i64 0], wnC⟩
theorem rw_ok : RW.Ok := ⟨by decide, by decide, fun _ => rfl, fun x v hv => by simp [RW, wnC] at hv; rcases hv with rfl | rfl | rfl <;> rfl, Tryz.underlying26, by kernel_rfl, rfl⟩
/-- an edge -/
def RE : Rk (Nat × Nat) := ⟨61, 56, 2, 16, .agg #[.int .i64 0, .int .i64 0], fun e => [.int .i64 (e.1 : Int), .int .i64 (e.2 : Int)]⟩
theorem re_ok : RE.Ok := ⟨by decide, by decide, fun _ => rfl, fun x v hv => by simp [RE] at hv; rcases hv with rfl | rfl <;> rfl, Tryz.underlying56, by kernel_rfl, rfl⟩
/-- numbers -/
def RI : Rk Nat := ⟨3, 37, 1, 8, .int .i64 0, fun x => [.int .i64 (x : Int)]⟩
theorem ri_ok : RI.Ok := ⟨by decide, by decide, fun _ => rfl, fun x v hv => by simp [RI] at hv; subst hv; rfl, Tryz.underlying37, by kernel_rfl, rfl⟩
/-- a want, with whose are against it and whom it is outside of -/
structure St where
  w : Wn
  a : Option Addr
  na : Nat
  ca : Nat
  o : Option Addr
  no : Nat
  co : Nat
def stV (s : St) : Value := .agg #[.int .i64 (s.w.x : Int), .int .i64 s.w.b, .int .i64 s.w.m, .slice s.a s.na s.ca, .slice s.o s.no s.co]
def RS : Rk St := ⟨141, 143, 5, 72, .agg #[.int .i64 0, .int .i64 0, .int .i64 0, .slice none 0 0, .slice none 0 0], fun s => wnC s.w ++ [.slice s.a s.na s.ca, .slice s.o s.no s.co]⟩
theorem rs_ok : RS.Ok := ⟨by decide, by decide, fun _ => rfl, fun x v hv => by simp [RS, wnC] at hv; rcases hv with rfl | rfl | rfl | rfl | rfl <;> rfl, Tryz.underlying143, by kernel_rfl, rfl⟩
/-- a step of a walk: where it is, and what is left -/
structure Sp1 where
  n : Nat
  a : Option Addr
  k : Nat
  c : Nat
def RP : Rk Sp1 := ⟨124, 122, 2, 32, .agg #[.int .i64 0, .slice none 0 0], fun s => [.int .i64 (s.n : Int), .slice s.a s.k s.c]⟩
theorem rp_ok : RP.Ok := ⟨by decide, by decide, fun _ => rfl, fun x v hv => by simp [RP] at hv; rcases hv with rfl | rfl <;> rfl, Tryz.underlying122, by kernel_rfl, rfl⟩

theorem ri_cells : ∀ l : List Nat, idC l = RI.cells l
  | [] => rfl
  | x :: l => by
    have ih := ri_cells l
    unfold idC Rk.cells at ih ⊢
    rw [List.flatMap_cons, ← ih]; rfl
theorem OwnId.ri {w : World} {base : Nat} {v : Value} {l : List Nat} (h : OwnId w base v l) : RI.Own w base v l := by
  have e : idC l = RI.cells l := ri_cells l
  unfold Rk.Own
  rw [← e]
  exact h
theorem IdAt.ri {W : World} {A : Option Addr} {l : List Nat} (h : IdAt W A l) : RI.At W A l := by
  rcases h with ⟨_, h⟩ | ⟨b, e, hb, hc⟩
  · exact .inl h
  · refine .inr ⟨b, 0, e, hb, fun j u hu => ?_⟩
    have e2 : RI.cells l = idC l := (ri_cells l).symm
    rw [e2] at hu
    unfold idC at hu
    rw [List.getElem?_map] at hu
    cases hj : l[j]? with
    | none => rw [hj] at hu; cases hu
    | some x => rw [hj] at hu; simp at hu; subst hu; rw [Nat.zero_add]; exact hc j x hj

/-- may a want be? -/
structure MayW (w : Wn) : Prop where
  x : w.x < 64
  b : 0 ≤ w.b ∧ w.b < 256
  m : w.m = 1 ∨ w.m = 2

theorem amongw_yes (a b : Int) (h : 0 ≤ a ∧ a < b) (w : World) : Calls Tryz.prog 44 #[.int .i64 a, .int .i64 b] w fun e w' => e = .returned (.bool true) ∧ w' = w := by
  have h1 : decide (a < b) = true := decide_eq_true h.2
  have h2 : decide (0 ≤ a) = true := decide_eq_true h.1
  have h3 : decide (a ≥ 0) = true := decide_eq_true h.1
  go_enter Tryz.func44, Tryz.ntmps44
  go_wp2
  go_ret
  exact ⟨rfl, rfl⟩
theorem amongw_low (a b : Int) (h : a < 0) (w : World) : Calls Tryz.prog 44 #[.int .i64 a, .int .i64 b] w fun e w' => e = .returned (.bool false) ∧ w' = w := by
  have h3 : decide (a ≥ 0) = false := decide_eq_false (by omega)
  have h2 : decide (0 ≤ a) = false := decide_eq_false (by omega)
  go_enter Tryz.func44, Tryz.ntmps44
  go_wp2
  go_ret
  exact ⟨rfl, rfl⟩

theorem mayw_any (y : Wn) (hy : MayW y) (w : World) : Calls Tryz.prog 24 #[wnV y] w fun e w' => e = .returned (.bool true) ∧ Gr w w' := by
  have h1 : 0 ≤ (y.x : Int) ∧ (y.x : Int) < 64 := by have := hy.x; omega
  have h2 : 0 ≤ y.b ∧ y.b < 256 := hy.b
  have H1 := Lib.hid h1
  have H2 := Lib.hid h2
  have HG := Lib.hid (Gr.alloc w (.cells #[.int .i64 (y.x : Int), .int .i64 y.b, .int .i64 y.m] 52))
  unfold wnV
  have hm := hy.m
  clear hy h1 h2
  rcases hm with hm | hm
  · rw [hm] at HG ⊢
    clear hm
    go_enter Tryz.func24, Tryz.ntmps24
    go_wp2_with (first | (go_at_call 44; refine (amongw_yes _ _ (by first | exact H1.out | exact H2.out) _).mono ?_; rintro e w' ⟨rfl, hw'⟩; subst hw') | fail)
    go_ret
    exact ⟨rfl, HG.out⟩
  · rw [hm] at HG ⊢
    clear hm
    go_enter Tryz.func24, Tryz.ntmps24
    go_wp2_with (first | (go_at_call 44; refine (amongw_yes _ _ (by first | exact H1.out | exact H2.out) _).mono ?_; rintro e w' ⟨rfl, hw'⟩; subst hw') | fail)
    go_ret
    exact ⟨rfl, HG.out⟩
end Go.Proofs.YtbokhhialfbjcaaGreat
