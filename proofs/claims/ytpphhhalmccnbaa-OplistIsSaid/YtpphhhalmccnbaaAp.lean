/-
  Appends of rows that came in, wherever they lie; an element of a row of the call's own written over; slices cut.
-/
import Derived.Test.YtpphhhalmccnbaaLh
namespace Go.Proofs.Ytpphhhalmccnbaa
set_option maxRecDepth 100000
set_option linter.unusedVariables false
open Go.RowKit

section
variable {α : Type} {R : Rk α} {w : World} {base : Nat} {v : Value} {l r : List α}
theorem Rk.run_append2 (hR : R.Ok) {A : Option Addr} {n c : Nat} (hown : R.Own w base v l) (hm : R.At w A r) (hn : r.length = n) (hA : r = [] ∨ Sp A) (hlen : l.length + r.length ≤ 100000000) (hbase : base ≤ w.heap.size) (ty : TypeId) :
    ∃ v' w', (Builtin.append_ #[R.s, R.s] ty #[v, .slice A n c]).run Try.prog w = .ok v' w' ∧ R.Own w' base v' (l ++ r) ∧ w.grownBy w' v.ownBlock ∧ (v'.ownBlock = v.ownBlock ∨ v'.ownBlock = some w.heap.size) := by
  rcases hA with rfl | hA
  · cases A with
    | none => exact Rk.run_append hR hown hm hn (.inl rfl) hlen hbase ty
    | some ad =>
      subst hn
      obtain ⟨i0, hi, hz, hs1, hb⟩ := parts_of hR.facts
      have hfew := hR.few
      obtain ⟨v', w', h1, h2, h3, _, h5⟩ := run_append_own_at w base R.s ty R.e i0 R.z R.m R.b hR.und hi hz hs1 hb hR.zs hR.pos v l.length (R.cells l) hown ad 0 c (R.cells []) (hR.length []) (fun j u hu => by simp [Rk.cells] at hu) (hR.ones []) (by unfold maxLen; simp at hlen; omega) (Nat.le_trans (Nat.mul_le_mul hlen hfew) (by decide)) hbase
      refine ⟨v', w', h1, ?_, h3, h5⟩
      unfold Rk.Own
      rw [List.length_append, Rk.cells_append]
      exact h2
  · exact Rk.run_append hR hown hm hn hA hlen hbase ty
theorem Rk.wpList_append2 {ops : Array Oper} {rest : List Oper} {o : Oper} {a : Act} {Q : Exit → Act → World → Prop} (hR : R.Ok) (hgd : o.guard = none) (s x : Operand)
    (ho : o.op = .call { callee := .builtin .append, args := #[s, x], argTypes := #[R.s, R.s] }) (base : Nat) (v : Value) (l r : List α) (hs : a.eval s = v) (hown : R.Own w base v l)
    (A : Option Addr) (n c : Nat) (hx : a.eval x = .slice A n c) (hm : R.At w A r) (hn : r.length = n) (hA : r = [] ∨ Sp A) (hlen : l.length + r.length ≤ 100000000) (hbase : base ≤ w.heap.size)
    (h : ∀ v' w', R.Own w' base v' (l ++ r) → w.grownBy w' v.ownBlock → (v'.ownBlock = v.ownBlock ∨ v'.ownBlock = some w.heap.size) → wpList Try.prog ops Q rest (a.put o.dst v') w') : wpList Try.prog ops Q (o :: rest) a w := by
  refine wpList_plain hgd fun K hK => ?_
  obtain ⟨v', w', hr, h2, h3, h4⟩ := Rk.run_append2 (c := c) hR hown hm hn hA hlen hbase o.type
  unfold Oper.wp execOp
  simp only [ho, resolve, invoke, builtin, Sem.run_bind, Sem.run_pure, Result.andThen_ok, List.map_toArray, List.map_cons, List.map_nil, hs, hx, hr]
  exact hK _ _ (h v' w' h2 h3 h4)
theorem Rk.wp_append2 {o : Oper} {a : Act} {K : Act → World → Prop} {Q : Exit → Act → World → Prop} (hR : R.Ok) (s x : Operand)
    (ho : o.op = .call { callee := .builtin .append, args := #[s, x], argTypes := #[R.s, R.s] }) (base : Nat) (v : Value) (l r : List α) (hs : a.eval s = v) (hown : R.Own w base v l)
    (A : Option Addr) (n c : Nat) (hx : a.eval x = .slice A n c) (hm : R.At w A r) (hn : r.length = n) (hA : r = [] ∨ Sp A) (hlen : l.length + r.length ≤ 100000000) (hbase : base ≤ w.heap.size)
    (h : ∀ v' w', R.Own w' base v' (l ++ r) → w.grownBy w' v.ownBlock → (v'.ownBlock = v.ownBlock ∨ v'.ownBlock = some w.heap.size) → K (a.put o.dst v') w') : o.wp Try.prog a w K Q := by
  obtain ⟨v', w', hr, h2, h3, h4⟩ := Rk.run_append2 (c := c) hR hown hm hn hA hlen hbase o.type
  unfold Oper.wp execOp
  simp only [ho, resolve, invoke, builtin, Sem.run_bind, Sem.run_pure, Result.andThen_ok, List.map_toArray, List.map_cons, List.map_nil, hs, hx, hr]
  exact h v' w' h2 h3 h4
end

theorem own_lit (w : World) (base : Nat) (h : base ≤ w.heap.size) : RI.Own (w.alloc (.cells #[] 3)) base (.slice (some ⟨w.heap.size, 0, none⟩) 0 0) [] :=
  World.ownsRow_lit w #[] 0 h (by simp [maxLen]) rfl

/-- a row in a block: its cells, as far as it goes -/
structure Rb (W : World) (g : Nat) (cs : Array Value) (p : List Int) : Prop where
  bk : Bk W g cs 3
  le : p.length ≤ cs.size
  eq : cs.toList.take p.length = p.map (Value.int .i64)
section
variable {W V : World} {g B : Nat} {cs : Array Value} {p : List Int} {x : Value}
theorem own_rb (h : RI.Own W B x p) (hp : p ≠ []) : ∃ g c cs, x = .slice (some ⟨g, 0, none⟩) p.length c ∧ B ≤ g ∧ Rb W g cs p := by
  rcases h.2 with ⟨_, hn⟩ | ⟨g, cap, cur, e, hg, hh, hnc, hcm, hcs, ht⟩
  · exact absurd (List.eq_nil_of_length_eq_zero hn) hp
  · have h1 : RI.m = 1 := rfl
    rw [h1, Nat.mul_one] at hcs ht
    rw [ri_cells] at ht
    exact ⟨g, cap, cur, e, hg, hh, by omega, ht⟩
theorem Rb.below (h : Rb W g cs p) (hb : Below W.heap.size W V) : Rb V g cs p := ⟨h.bk.below hb, h.le, h.eq⟩
theorem Rb.get (h : Rb W g cs p) {i : Nat} {z : Int} (hz : p[i]? = some z) : cs[i]? = some (.int .i64 z) := by
  have hi : i < p.length := (List.getElem?_eq_some_iff.1 hz).1
  have e : (cs.toList.take p.length)[i]? = (p.map (Value.int .i64))[i]? := by rw [h.eq]
  rw [List.getElem?_take, if_pos hi, List.getElem?_map, hz] at e
  simpa using e
theorem Rb.ls (h : Rb W g cs p) (hok : ∀ z ∈ p, okI z) : Ls W (some ⟨g, 0, none⟩) p.length p :=
  ⟨rfl, hok, .inr ⟨g, 0, rfl, h.bk.lt, fun j u hu => by
    rw [ri_cells, List.getElem?_map] at hu
    cases hz : p[j]? with
    | none => rw [hz] at hu; cases hu
    | some z =>
      rw [hz] at hu
      rw [Nat.zero_add]
      exact h.bk.c j _ ((h.get hz).trans (by simpa using hu))⟩⟩
/-- the last one, written over -/
theorem Rb.last {n : Nat} {l : List Int} {z u : Int} (h : Rb W g cs (l ++ [z])) (hn : l.length = n) : Rb (W.setCell ⟨g, n, none⟩ (.int .i64 u)) g (cs.setIfInBounds n (.int .i64 u)) (l ++ [u]) := by
  subst hn
  have hl := h.le
  have he := h.eq
  rw [List.length_append, List.length_singleton] at hl he
  refine ⟨heap_setCell_same W g l.length _ _ _ h.bk, by rw [List.length_append, List.length_singleton, Array.size_setIfInBounds]; exact hl, ?_⟩
  rw [List.length_append, List.length_singleton, Array.toList_setIfInBounds, List.take_set, he, List.map_append, List.map_append]
  rw [List.set_append_right _ _ (by simp)]
  simp
end
end Go.Proofs.Ytpphhhalmccnbaa
