/-
  Rows of any struct, that came in or of the call's own; a block's cells (out of layer 15's Ba).
-/
import Derived.Test.YtjpnihmijnpjcaaBase
import Derived.Test.YtjpnihmijnpjcaaSince
import Derived.WalkLawsBesides
import Derived.Laws.Tables
import Derived.Outline
import Derived.RegionTactic
import Derived.Deep.QuietTactic
import Derived.BigQuiet
import Derived.Deep.LoopGhost
import Derived.LoopTactic
import Derived.Deep.Draws
import Derived.Deep.RegionHeld
import Derived.Deep.CutRange
import Derived.Deep.CutBlock
import Derived.Laws.ResultCell
import Derived.Laws.BitsLemmas
import Derived.Lib.MinMax
import Derived.OwnWalkIn
import Derived.Maps.OwnIn
namespace Go.Proofs.Ytjpnihmijnpjcaa
set_option maxRecDepth 100000
set_option linter.unusedVariables false
open Go.RowKit

/-- what was there is as it was, but blocks of S -/
structure Turn (S : Nat → Prop) (w w' : World) : Prop where
  os : w'.os = w.os
  tape : w'.tape = w.tape
  output : w'.output = w.output
  size : w.heap.size ≤ w'.heap.size
  block : ∀ k, k < w.heap.size → ¬ S k → w'.heap[k]? = w.heap[k]?

section
variable {S S' : Nat → Prop} {w w' w'' : World}
theorem Turn.refl (S : Nat → Prop) (w : World) : Turn S w w := ⟨rfl, rfl, rfl, Nat.le_refl _, fun _ _ _ => rfl⟩
theorem Turn.trans (h : Turn S w w') (k : Turn S w' w'') : Turn S w w'' :=
  ⟨k.os.trans h.os, k.tape.trans h.tape, k.output.trans h.output, Nat.le_trans h.size k.size, fun i hi hs => (k.block i (Nat.lt_of_lt_of_le hi h.size) hs).trans (h.block i hi hs)⟩
theorem Turn.mono (h : Turn S w w') (hs : ∀ k, S k → S' k) : Turn S' w w' := ⟨h.os, h.tape, h.output, h.size, fun k hk hn => h.block k hk fun h' => hn (hs k h')⟩
theorem Turn.grown (h : Turn S w w') {row : Option Nat} (hg : w'.grownBy w'' row) (hr : ∀ j, row = some j → S j ∨ w.heap.size ≤ j) : Turn S w w'' :=
  ⟨hg.os.trans h.os, hg.tape.trans h.tape, hg.output.trans h.output, Nat.le_trans h.size hg.size, fun k hk hn =>
    (hg.block k (Nat.lt_of_lt_of_le hk h.size) (fun e => by rcases hr k e.symm with h1 | h1; exact hn h1; omega)).trans (h.block k hk hn)⟩
theorem Turn.alloc (h : Turn S w w') (o : Obj) : Turn S w (w'.alloc o) := h.grown (World.grownBy_alloc w' o none) (by simp)
theorem Turn.setCell (h : Turn S w w') (p : Addr) (v : Value) (hp : S p.block ∨ w.heap.size ≤ p.block) : Turn S w (w'.setCell p v) :=
  ⟨h.os, h.tape, h.output, by simpa [World.setCell] using h.size, fun k hk hn => by
    have hne : k ≠ p.block := fun e => by subst e; rcases hp with h1 | h1; exact hn h1; omega
    rw [Below.heap_setCell _ _ _ _ hne]
    exact h.block k hk hn⟩
theorem Turn.below (h : Turn S w w') {B : Nat} (hS : ∀ k, S k → B ≤ k) (hB : B ≤ w.heap.size) : Below B w w' :=
  ⟨h.os, h.tape, h.output, h.size, fun k hk => h.block k (by omega) fun h1 => by have := hS k h1; omega⟩
theorem Turn.ofBelow (h : Below w.heap.size w w') : Turn S w w' := ⟨h.os, h.tape, h.output, h.size, fun k hk _ => h.block k hk⟩
theorem Turn.cell {X : Nat → Prop} {w W : World} (h : Turn X w W) {a : Addr} {v : Value} (hc : w.cell? a = some v) (hx : ¬ X a.block) : W.cell? a = some v :=
  (World.cell?_of_block (h.block a.block (block_lt_of_cell hc) hx)).trans hc
end


theorem Turn.drew {S : Nat → Prop} {w w' : World} (h : Turn S w w') : Turn S w w'.drew := ⟨h.os, h.tape, h.output, h.size, h.block⟩

theorem parts_of {e : TypeId} {z : Option Value} {s b : Nat} (h : (Try.prog.info? e).map (fun i => (i.zero, i.size, i.bytes)) = some (z, s, b)) : ∃ i0, Try.prog.info? e = some i0 ∧ i0.zero = z ∧ i0.size = s ∧ i0.bytes = b := by
  cases hq : Try.prog.info? e with
  | none => rw [hq] at h; cases h
  | some i0 => rw [hq] at h; simp only [Option.map_some, Option.some.injEq, Prod.mk.injEq] at h; exact ⟨i0, rfl, h.1, h.2.1, h.2.2⟩
theorem cell_new (w : World) (cs : Array Value) (ty : TypeId) (j : Nat) : (w.alloc (.cells cs ty)).cell? ⟨w.heap.size, j, none⟩ = cs[j]? := cell_of_row _ _ _ _ _ _ (heap_alloc_new w _)
theorem results_cell_one {fn : Func} {p : Tmp} {ty : TypeId} (h : fn.results = #[.cell p ty]) (tmps : Array Value) (P : Program) (w : World) :
    (results fn tmps).run P w = ((asAddr (tmps.getD p undef)).run P w).andThen fun a w₁ => (loadVar ty a).run P w₁ := by
  simp only [results, h]
  simp [Sem.run_bind, Result.andThen]

/-- an element's type, its slice's, how many cells and bytes, its zero value, its cells -/
structure Rk (α : Type) where
  e : TypeId
  s : TypeId
  m : Nat
  b : Nat
  z : Value
  enc : α → List Value
structure Rk.Ok {α : Type} (R : Rk α) : Prop where
  pos : 0 < R.m
  few : R.b ≤ 1000
  len : ∀ x, (R.enc x).length = R.m
  one : ∀ x, ∀ v ∈ R.enc x, v.oneCell' = true
  und : Try.prog.underlying R.s = some (.slice R.e)
  facts : (Try.prog.info? R.e).map (fun i => (i.zero, i.size, i.bytes)) = some (some R.z, R.m, R.b)
  zs : R.z.cells.size = R.m

section
variable {α : Type} {R : Rk α}
def Rk.cells (R : Rk α) (l : List α) : List Value := l.flatMap R.enc
theorem Rk.Ok.length (h : R.Ok) : ∀ l : List α, (R.cells l).length = l.length * R.m
  | [] => by simp [Rk.cells]
  | x :: l => by
    have := h.length l
    unfold Rk.cells at this ⊢
    rw [List.flatMap_cons, List.length_append, this, h.len, List.length_cons, Nat.succ_mul, Nat.add_comm]
theorem Rk.cells_append (a b : List α) : R.cells (a ++ b) = R.cells a ++ R.cells b := by simp [Rk.cells]
theorem Rk.Ok.ones (h : R.Ok) (l : List α) : ∀ u ∈ R.cells l, u.oneCell' = true := by
  intro u hu
  unfold Rk.cells at hu
  rw [List.mem_flatMap] at hu
  obtain ⟨x, _, hx⟩ := hu
  exact h.one x u hx
theorem Rk.Ok.at (h : R.Ok) : ∀ (l : List α) (i : Nat) (x : α) (k : Nat), l[i]? = some x → k < R.m → (R.cells l)[i * R.m + k]? = (R.enc x)[k]?
  | [], i, x, k, hi, _ => by simp at hi
  | y :: l, 0, x, k, hi, hk => by
    simp at hi; subst hi
    unfold Rk.cells
    rw [List.flatMap_cons, Nat.zero_mul, Nat.zero_add, List.getElem?_append_left (by rw [h.len]; exact hk)]
  | y :: l, i + 1, x, k, hi, hk => by
    have ih := h.at l i x k (by simpa using hi) hk
    unfold Rk.cells at ih ⊢
    rw [List.flatMap_cons, List.getElem?_append_right (by rw [h.len, Nat.succ_mul]; omega), h.len, ← ih]
    congr 1
    rw [Nat.succ_mul]; omega

/-- they lie there -/
def Rk.At (R : Rk α) (W : World) (A : Option Addr) (l : List α) : Prop :=
  l = [] ∨ ∃ b o, A = some ⟨b, o, none⟩ ∧ b < W.heap.size ∧ ∀ j u, (R.cells l)[j]? = some u → W.cell? ⟨b, o + j, none⟩ = some u
variable {W V w w' : World} {A : Option Addr} {l r : List α} {S : Nat → Prop}
theorem Rk.At.nil (R : Rk α) (W : World) (A : Option Addr) : R.At W A [] := .inl rfl
theorem Rk.At.turn (h : R.At W A l) (ht : Turn S W V) (hS : ∀ b o, A = some ⟨b, o, none⟩ → l = [] ∨ ¬ S b) : R.At V A l := by
  rcases h with h | ⟨b, o, rfl, hb, hc⟩
  · exact .inl h
  · rcases hS b o rfl with h | h
    · exact .inl h
    · exact .inr ⟨b, o, rfl, Nat.lt_of_lt_of_le hb ht.size, fun j u hu => ht.cell (hc j u hu) h⟩
theorem Rk.At.below (h : R.At W A l) (hb : Below W.heap.size W V) : R.At V A l :=
  h.turn (S := fun _ => False) (Turn.ofBelow hb) (fun _ _ _ => .inr fun h => h)
theorem Rk.At.get (hR : R.Ok) (h : R.At W A l) {i : Nat} {x : α} (hx : l[i]? = some x) : ∃ b o, A = some ⟨b, o, none⟩ ∧ b < W.heap.size ∧ ∀ k u, (R.enc x)[k]? = some u → W.cell? ⟨b, o + (i * R.m + k), none⟩ = some u := by
  rcases h with rfl | ⟨b, o, e, hb, hc⟩
  · simp at hx
  · refine ⟨b, o, e, hb, fun k u hu => hc _ _ ?_⟩
    rw [hR.at l i x k hx (by rw [← hR.len x]; exact (List.getElem?_eq_some_iff.1 hu).1)]; exact hu
theorem Rk.At.left (h : R.At W A (l ++ r)) : R.At W A l := by
  rcases h with h | ⟨b, o, e, hb, hc⟩
  · exact .inl (List.append_eq_nil_iff.1 h).1
  · refine .inr ⟨b, o, e, hb, fun j u hu => hc j u ?_⟩
    rw [Rk.cells_append, List.getElem?_append_left (List.getElem?_eq_some_iff.1 hu).1]; exact hu
theorem Rk.At.take (h : R.At W A l) (n : Nat) : R.At W A (l.take n) := by
  have e := List.take_append_drop n l
  rw [← e] at h
  exact h.left
theorem Rk.At.right (hR : R.Ok) {b o n : Nat} (h : R.At W (some ⟨b, o, none⟩) (l ++ r)) (hn : l.length = n) : R.At W (some ⟨b, o + n * R.m, none⟩) r := by
  subst hn
  rcases h with h | ⟨b', o', e, hb, hc⟩
  · exact .inl (List.append_eq_nil_iff.1 h).2
  · injection e with e
    injection e with e1 e2
    subst e1; subst e2
    refine .inr ⟨b, _, rfl, hb, fun j u hu => ?_⟩
    rw [Nat.add_assoc]
    refine hc _ _ ?_
    rw [Rk.cells_append, List.getElem?_append_right (by rw [hR.length]; omega), hR.length, Nat.add_sub_cancel_left]; exact hu
theorem Rk.At.lt (h : R.At W A l) (b o : Nat) (e : A = some ⟨b, o, none⟩) : l = [] ∨ b < W.heap.size := by
  rcases h with h | ⟨b', o', e', hb, _⟩
  · exact .inl h
  · rw [e] at e'; injection e' with e'; injection e' with e1; exact .inr (by omega)

/-- a row of the call's own -/
def Rk.Own (R : Rk α) (w : World) (base : Nat) (v : Value) (l : List α) : Prop := w.ownsRow base R.e R.m v l.length (R.cells l)
variable {base : Nat} {v : Value}
theorem Rk.Own.nil (R : Rk α) (w : World) (base : Nat) : R.Own w base (.slice none 0 0) [] := World.ownsRow_nil _ _ _ _
theorem Rk.Own.form (hR : R.Ok) (h : R.Own w base v l) : ∃ A c, v = .slice A l.length c ∧ l.length ≤ c ∧ R.At w A l ∧ (A = none ∨ ∃ g, A = some ⟨g, 0, none⟩ ∧ base ≤ g ∧ g < w.heap.size) := by
  rcases h.2 with ⟨rfl, hn⟩ | ⟨g, cap, cur, rfl, hg, _, hnc, _⟩
  · have : l = [] := List.eq_nil_of_length_eq_zero hn
    subst this
    exact ⟨none, 0, rfl, Nat.le_refl _, .inl rfl, .inl rfl⟩
  · refine ⟨_, cap, rfl, hnc, .inr ⟨g, 0, rfl, (World.ownsRow.lt h g rfl).2, fun j u hu => ?_⟩, .inr ⟨g, rfl, hg, (World.ownsRow.lt h g rfl).2⟩⟩
    have hj : j < l.length * R.m := by rw [← hR.length]; exact (List.getElem?_eq_some_iff.1 hu).1
    rw [Nat.zero_add]
    exact (World.ownsRow.cellAt h j hj).trans hu
theorem Rk.Own.turn (h : R.Own w base v l) (ht : Turn S w w') (hS : ∀ k, v.ownBlock = some k → ¬ S k) : R.Own w' base v l := by
  refine ⟨h.1, ?_⟩
  rcases h.2 with h2 | ⟨g, c, cur, e, hg, hh, rest⟩
  · exact .inl h2
  · exact .inr ⟨g, c, cur, e, hg, (ht.block g (lt_of_block hh) (hS g (by rw [e]; rfl))).trans hh, rest⟩
theorem Rk.Own.below (h : R.Own w base v l) (hb : Below w.heap.size w w') : R.Own w' base v l := h.turn (S := fun _ => False) (Turn.ofBelow hb) (fun _ _ h => h)
theorem Rk.Own.lt (h : R.Own w base v l) : ∀ k, v.ownBlock = some k → base ≤ k ∧ k < w.heap.size := World.ownsRow.lt h
theorem Rk.Own.le (h : R.Own w base v l) {b : Nat} (hb : b ≤ base) : R.Own w b v l := by
  refine ⟨h.1, ?_⟩
  rcases h.2 with h2 | ⟨g, c, cur, e, hg, rest⟩
  · exact .inl h2
  · exact .inr ⟨g, c, cur, e, Nat.le_trans hb hg, rest⟩

/-- 'append(l, m...)' -/
theorem Rk.run_append (hR : R.Ok) {A : Option Addr} {n c : Nat} (hown : R.Own w base v l) (hm : R.At w A r) (hn : r.length = n) (hA : A = none ∨ ∃ b o, A = some ⟨b, o, none⟩) (hlen : l.length + r.length ≤ 100000000) (hbase : base ≤ w.heap.size) (ty : TypeId) :
    ∃ v' w', (Builtin.append_ #[R.s, R.s] ty #[v, .slice A n c]).run Try.prog w = .ok v' w' ∧ R.Own w' base v' (l ++ r) ∧ w.grownBy w' v.ownBlock ∧ (v'.ownBlock = v.ownBlock ∨ v'.ownBlock = some w.heap.size) := by
  subst hn
  obtain ⟨i0, hi, hz, hs1, hb⟩ := parts_of hR.facts
  have hfew := hR.few
  rcases hA with rfl | ⟨b, o, rfl⟩
  · have hm0 : r = [] := by
      rcases hm with h | ⟨b, o, e, _⟩
      · exact h
      · cases e
    subst hm0
    refine ⟨v, w, ?_, by rw [List.append_nil]; exact hown, ⟨rfl, rfl, rfl, Nat.le_refl _, fun _ _ _ => rfl⟩, .inl rfl⟩
    rcases hown.2 with ⟨rfl, hn⟩ | ⟨g, cap, cur, rfl, _, _, hnc, _⟩
    · simp [Builtin.append_, run_underlying hR.und, sizeOf, typeInfo, hi, Builtin.lenOf, Builtin.firstCells]
    · simp [Builtin.append_, run_underlying hR.und, sizeOf, typeInfo, hi, Builtin.lenOf, Builtin.firstCells, loadCells, storeCells, hnc]
  · have hcells : ∀ j u, (R.cells r)[j]? = some u → w.cell? ⟨b, o + j, none⟩ = some u := by
      rcases hm with rfl | ⟨b', o', e, _, hc⟩
      · intro j u hu; simp [Rk.cells] at hu
      · injection e with e
        injection e with e1 e2
        subst e1; subst e2
        exact hc
    obtain ⟨v', w', h1, h2, h3, _, h5⟩ := run_append_own_at w base R.s ty R.e i0 R.z R.m R.b hR.und hi hz hs1 hb hR.zs hR.pos v l.length (R.cells l) hown ⟨b, o, none⟩ r.length c (R.cells r) (hR.length r) (fun j u hu => by rw [addr_add]; exact hcells j u hu) (hR.ones r) (by unfold maxLen; omega) (Nat.le_trans (Nat.mul_le_mul hlen hfew) (by decide)) hbase
    refine ⟨v', w', h1, ?_, h3, h5⟩
    unfold Rk.Own
    rw [List.length_append, Rk.cells_append]
    exact h2
theorem Rk.wpList_append {ops : Array Oper} {rest : List Oper} {o : Oper} {a : Act} {Q : Exit → Act → World → Prop} (hR : R.Ok) (hgd : o.guard = none) (s x : Operand)
    (ho : o.op = .call { callee := .builtin .append, args := #[s, x], argTypes := #[R.s, R.s] }) (base : Nat) (v : Value) (l r : List α) (hs : a.eval s = v) (hown : R.Own w base v l)
    (A : Option Addr) (n c : Nat) (hx : a.eval x = .slice A n c) (hm : R.At w A r) (hn : r.length = n) (hA : A = none ∨ ∃ b o, A = some ⟨b, o, none⟩) (hlen : l.length + r.length ≤ 100000000) (hbase : base ≤ w.heap.size)
    (h : ∀ v' w', R.Own w' base v' (l ++ r) → w.grownBy w' v.ownBlock → (v'.ownBlock = v.ownBlock ∨ v'.ownBlock = some w.heap.size) → wpList Try.prog ops Q rest (a.put o.dst v') w') : wpList Try.prog ops Q (o :: rest) a w := by
  refine wpList_plain hgd fun K hK => ?_
  obtain ⟨v', w', hr, h2, h3, h4⟩ := Rk.run_append (c := c) hR hown hm hn hA hlen hbase o.type
  unfold Oper.wp execOp
  simp only [ho, resolve, invoke, builtin, Sem.run_bind, Sem.run_pure, Result.andThen_ok, List.map_toArray, List.map_cons, List.map_nil, hs, hx, hr]
  exact hK _ _ (h v' w' h2 h3 h4)
theorem Rk.wp_append {o : Oper} {a : Act} {K : Act → World → Prop} {Q : Exit → Act → World → Prop} (hR : R.Ok) (s x : Operand)
    (ho : o.op = .call { callee := .builtin .append, args := #[s, x], argTypes := #[R.s, R.s] }) (base : Nat) (v : Value) (l r : List α) (hs : a.eval s = v) (hown : R.Own w base v l)
    (A : Option Addr) (n c : Nat) (hx : a.eval x = .slice A n c) (hm : R.At w A r) (hn : r.length = n) (hA : A = none ∨ ∃ b o, A = some ⟨b, o, none⟩) (hlen : l.length + r.length ≤ 100000000) (hbase : base ≤ w.heap.size)
    (h : ∀ v' w', R.Own w' base v' (l ++ r) → w.grownBy w' v.ownBlock → (v'.ownBlock = v.ownBlock ∨ v'.ownBlock = some w.heap.size) → K (a.put o.dst v') w') : o.wp Try.prog a w K Q := by
  obtain ⟨v', w', hr, h2, h3, h4⟩ := Rk.run_append (c := c) hR hown hm hn hA hlen hbase o.type
  unfold Oper.wp execOp
  simp only [ho, resolve, invoke, builtin, Sem.run_bind, Sem.run_pure, Result.andThen_ok, List.map_toArray, List.map_cons, List.map_nil, hs, hx, hr]
  exact h v' w' h2 h3 h4
/-- in a fence -/
theorem Rk.wpListIn_append {F : Fence} {nF : Nat} {ops : Array Oper} {rest : List Oper} {o : Oper} {a : Act} {Q : Exit → Act → World → Prop} (hR : R.Ok) (hgd : o.guard = none) (s x : Operand)
    (ho : o.op = .call { callee := .builtin .append, args := #[s, x], argTypes := #[R.s, R.s] }) (base : Nat) (v : Value) (l r : List α) (hs : a.eval s = v) (hown : R.Own w base v l)
    (A : Option Addr) (n c : Nat) (hx : a.eval x = .slice A n c) (hm : R.At w A r) (hn : r.length = n) (hA : A = none ∨ ∃ b o, A = some ⟨b, o, none⟩) (hlen : l.length + r.length ≤ 100000000) (hbase : base ≤ w.heap.size)
    (h : ∀ v' w', R.Own w' base v' (l ++ r) → w.grownBy w' v.ownBlock → (v'.ownBlock = v.ownBlock ∨ v'.ownBlock = some w.heap.size) → wpListIn F nF Try.prog ops Q rest (a.put o.dst v') w') : wpListIn F nF Try.prog ops Q (o :: rest) a w := by
  refine wpListIn_plain hgd fun K hK => ?_
  obtain ⟨v', w', hr, h2, h3, h4⟩ := Rk.run_append (c := c) hR hown hm hn hA hlen hbase o.type
  unfold Oper.wpIn
  refine ⟨by simp [Oper.about, ho, resolve, Target.leads, Sem.run_pure], ?_⟩
  rw [Oper.semAt_plain F _ _ (by rw [ho]; intro c hc'; cases hc')]
  simp [execOp, ho, resolve, invoke, builtin, hs, hx, hr, Result.andThen]
  exact hK _ _ (h v' w' h2 h3 h4)
/-- the one that a literal of one lays -/
theorem Rk.At.new (hR : R.Ok) (w : World) (x : α) (t : TypeId) : R.At (w.alloc (.cells (R.enc x).toArray t)) (some ⟨w.heap.size, 0, none⟩) [x] :=
  .inr ⟨w.heap.size, 0, rfl, by simp, fun j u hu => by
    have h : (R.enc x)[j]? = some u := by simpa [Rk.cells] using hu
    rw [Nat.zero_add, cell_new, ← h]; simp⟩

/-- the head of a row of the call's own: 'l[:k]' -/
theorem Rk.Own.cut (hR : R.Ok) {g n c : Nat} (h : R.Own w base (.slice (some ⟨g, 0, none⟩) n c) l) {k : Nat} (hk : k ≤ n) : R.Own w base (.slice (some ⟨g, 0, none⟩) k c) (l.take k) := by
  rcases h.2 with ⟨e, _⟩ | ⟨g', cap, cur, e, hg, hh, hnc, hcm, hcs, ht⟩
  · cases e
  · injection e with e1 e2 e3
    injection e1 with e1
    injection e1 with e1
    subst e1
    subst e3
    have hl : (l.take k).length = k := by rw [List.length_take]; omega
    refine ⟨by rw [hR.length], .inr ⟨g, c, cur, by rw [hl], hg, hh, by omega, hcm, hcs, ?_⟩⟩
    have hc : R.cells (l.take k) = (R.cells l).take (k * R.m) := by
      have e := List.take_append_drop k l
      conv => rhs; rw [← e, Rk.cells_append]
      rw [List.take_left' (by rw [hR.length, hl])]
    rw [hc, ← ht, List.take_take, hl, Nat.min_eq_left (Nat.mul_le_mul_right _ (by omega))]
end

/-- a block's cells -/
def Bk (W : World) (g : Nat) (cs : Array Value) (t : TypeId) : Prop := W.heap[g]? = some (.cells cs t (0, 0))
section
variable {W V : World} {g : Nat} {cs ds : Array Value} {t : TypeId}
theorem Bk.c (h : Bk W g cs t) (j : Nat) (v : Value) (hv : cs[j]? = some v) : W.cell? ⟨g, j, none⟩ = some v := (cell_of_row _ _ _ _ _ _ h).trans hv
theorem Bk.fr (h : Bk W g cs t) (j : Nat) : W.frozen? ⟨g, j, none⟩ = false := by
  have h' : W.heap[g]? = _ := h
  unfold World.frozen?
  simp only [h']
  simp
theorem Bk.lt (h : Bk W g cs t) : g < W.heap.size := lt_of_block h
theorem Bk.below (h : Bk W g cs t) (hb : Below W.heap.size W V) : Bk V g cs t := (hb.block g h.lt).trans h
theorem Bk.turn {S : Nat → Prop} (h : Bk W g cs t) (ht : Turn S W V) (hS : ¬ S g) : Bk V g cs t := (ht.block g h.lt hS).trans h
theorem Bk.far {r : Option Nat} (h : Bk W g cs t) (hg : W.grownBy V r) (hne : some g ≠ r) : Bk V g cs t := (hg.block g h.lt hne).trans h
theorem Bk.new (W : World) (cs : Array Value) (t : TypeId) : Bk (W.alloc (.cells cs t)) W.heap.size cs t := heap_alloc_new W _
theorem Bk.al (h : Bk W g cs t) (o : Obj) : Bk (W.alloc o) g cs t := h.far (World.grownBy_alloc W o none) (by simp)
end
end Go.Proofs.Ytjpnihmijnpjcaa
