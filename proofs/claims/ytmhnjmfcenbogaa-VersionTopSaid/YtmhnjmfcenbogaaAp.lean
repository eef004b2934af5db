/-
  Appends of rows that came in, wherever they lie; an element of a row of the call's own written over; slices cut.
-/
import Derived.Test.YtmhnjmfcenbogaaBa
namespace Go.Proofs.Ytmhnjmfcenbogaa
set_option maxRecDepth 100000
set_option linter.unusedVariables false
open Go.RowKit

def okI (x : Int) : Prop := -9223372036854775808 ≤ x ∧ x ≤ 9223372036854775807
instance (x : Int) : Decidable (okI x) := by unfold okI; infer_instance
def Sp (A : Option Addr) : Prop := A = none ∨ ∃ b o, A = some ⟨b, o, none⟩

section
variable {α : Type} {R : Rk α} {w : World} {base : Nat} {v : Value} {l r : List α}
theorem Rk.run_append2 (hR : R.Ok) {A : Option Addr} {n c : Nat} (hown : R.Own w base v l) (hm : R.At w A r) (hn : r.length = n) (hA : r = [] ∨ Sp A) (hlen : l.length + r.length ≤ 100000000) (hbase : base ≤ w.heap.size) (ty : TypeId) :
    ∃ v' w', (Builtin.append_ #[R.s, R.s] ty #[v, .slice A n c]).run Try.prog w = .ok v' w' ∧ R.Own w' base v' (l ++ r) ∧ w.grownBy w' v.ownBlock ∧ (v'.ownBlock = v.ownBlock ∨ v'.ownBlock = some w.heap.size) := by
  rcases hA with rfl | hA
  · cases A with
    | none => exact Rk.run_append hR hown hm hn (.inl rfl) hlen hbase ty
    | some ad =>
      subst hn
      obtain ⟨i0, hi, hz, hs1, hb⟩ := parts_of hR.facts
      have hfew := hR.few
      obtain ⟨v', w', h1, h2, h3, _, h5⟩ := run_append_own_at w base R.s ty R.e i0 R.z R.m R.b hR.und hi hz hs1 hb hR.zs hR.pos v l.length (R.cells l) hown ad 0 c (R.cells []) (hR.length []) (fun j u hu => by simp [Rk.cells] at hu) (hR.ones []) (by unfold maxLen; simp at hlen; omega) (Nat.le_trans (Nat.mul_le_mul hlen hfew) (by decide)) hbase
      refine ⟨v', w', h1, ?_, h3, h5⟩
      unfold Rk.Own
      rw [List.length_append, Rk.cells_append]
      exact h2
  · exact Rk.run_append hR hown hm hn hA hlen hbase ty
theorem Rk.wpList_append2 {ops : Array Oper} {rest : List Oper} {o : Oper} {a : Act} {Q : Exit → Act → World → Prop} (hR : R.Ok) (hgd : o.guard = none) (s x : Operand)
    (ho : o.op = .call { callee := .builtin .append, args := #[s, x], argTypes := #[R.s, R.s] }) (base : Nat) (v : Value) (l r : List α) (hs : a.eval s = v) (hown : R.Own w base v l)
    (A : Option Addr) (n c : Nat) (hx : a.eval x = .slice A n c) (hm : R.At w A r) (hn : r.length = n) (hA : r = [] ∨ Sp A) (hlen : l.length + r.length ≤ 100000000) (hbase : base ≤ w.heap.size)
    (h : ∀ v' w', R.Own w' base v' (l ++ r) → w.grownBy w' v.ownBlock → (v'.ownBlock = v.ownBlock ∨ v'.ownBlock = some w.heap.size) → wpList Try.prog ops Q rest (a.put o.dst v') w') : wpList Try.prog ops Q (o :: rest) a w := by
  refine wpList_plain hgd fun K hK => ?_
  obtain ⟨v', w', hr, h2, h3, h4⟩ := Rk.run_append2 (c := c) hR hown hm hn hA hlen hbase o.type
  unfold Oper.wp execOp
  simp only [ho, resolve, invoke, builtin, Sem.run_bind, Sem.run_pure, Result.andThen_ok, List.map_toArray, List.map_cons, List.map_nil, hs, hx, hr]
  exact hK _ _ (h v' w' h2 h3 h4)
theorem Rk.wp_append2 {o : Oper} {a : Act} {K : Act → World → Prop} {Q : Exit → Act → World → Prop} (hR : R.Ok) (s x : Operand)
    (ho : o.op = .call { callee := .builtin .append, args := #[s, x], argTypes := #[R.s, R.s] }) (base : Nat) (v : Value) (l r : List α) (hs : a.eval s = v) (hown : R.Own w base v l)
    (A : Option Addr) (n c : Nat) (hx : a.eval x = .slice A n c) (hm : R.At w A r) (hn : r.length = n) (hA : r = [] ∨ Sp A) (hlen : l.length + r.length ≤ 100000000) (hbase : base ≤ w.heap.size)
    (h : ∀ v' w', R.Own w' base v' (l ++ r) → w.grownBy w' v.ownBlock → (v'.ownBlock = v.ownBlock ∨ v'.ownBlock = some w.heap.size) → K (a.put o.dst v') w') : o.wp Try.prog a w K Q := by
  obtain ⟨v', w', hr, h2, h3, h4⟩ := Rk.run_append2 (c := c) hR hown hm hn hA hlen hbase o.type
  unfold Oper.wp execOp
  simp only [ho, resolve, invoke, builtin, Sem.run_bind, Sem.run_pure, Result.andThen_ok, List.map_toArray, List.map_cons, List.map_nil, hs, hx, hr]
  exact h v' w' h2 h3 h4
end

end Go.Proofs.Ytmhnjmfcenbogaa
