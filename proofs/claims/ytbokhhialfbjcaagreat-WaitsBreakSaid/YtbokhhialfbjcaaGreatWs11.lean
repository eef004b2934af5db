/-
  A struct stored to a field of the struct in a block.
-/
import Derived.Test.YtbokhhialfbjcaaGreatWd11
namespace Go.Proofs.YtbokhhialfbjcaaGreat
set_option maxRecDepth 100000
set_option linter.unusedVariables false
set_option linter.unusedSimpArgs false
open Go.RowKit Go.Shelf Go.Sort

theorem run_store_part1 {W : World} {p o : Nat} {cs : Array Value} {t ty : TypeId} {v : Value} (hb : Bk W p cs t) (ho : o < cs.size) (h1 : v.oneCell' = true) (hi : (Tryz.prog.info? ty).map (·.size) = some 1) :
    (storeVar ty ⟨p, o, none⟩ (.agg #[v])).run Tryz.prog W = .ok () (W.setRow p (cs.setIfInBounds o v)) := by
  have hcell : W.cell? ⟨p, o, none⟩ = some cs[o] := (cell_of_row _ _ _ _ _ _ hb).trans (Array.getElem?_eq_getElem ho)
  have hfro : W.frozen? ⟨p, o, none⟩ = false := hb.fr o
  have hadd : (⟨p, o, none⟩ : Addr).add 0 = ⟨p, o, none⟩ := by rw [addr_add]; rfl
  have hst : (store ((⟨p, o, none⟩ : Addr).add 0) v).run Tryz.prog W = .ok () (W.setRow p (cs.setIfInBounds o v)) := by
    rw [hadd, run_store Tryz.prog W _ v _ h1, hcell]
    simp [hfro, setCell_eq_setRow W p o cs t (0, 0) v hb]
  cases hq : Tryz.prog.info? ty with
  | none => simp [hq] at hi
  | some i =>
    have hs : i.size = 1 := by simp [hq] at hi; omega
    simp [storeVar, sizeOf, typeInfo, hq, Value.cells, hs, storeCells, hst, Result.andThen]
theorem run_store_part2 {W : World} {p o : Nat} {cs : Array Value} {t ty : TypeId} {u v : Value} (hb : Bk W p cs t) (ho : o + 1 < cs.size) (h0 : u.oneCell' = true) (h1 : v.oneCell' = true) (hi : (Tryz.prog.info? ty).map (·.size) = some 2) :
    (storeVar ty ⟨p, o, none⟩ (.agg #[u, v])).run Tryz.prog W = .ok () (W.setRow p ((cs.setIfInBounds o u).setIfInBounds (o + 1) v)) := by
  have hcell : W.cell? ⟨p, o, none⟩ = some cs[o] := (cell_of_row _ _ _ _ _ _ hb).trans (Array.getElem?_eq_getElem (by omega))
  have hfro : W.frozen? ⟨p, o, none⟩ = false := hb.fr o
  have hadd : (⟨p, o, none⟩ : Addr).add 0 = ⟨p, o, none⟩ := by rw [addr_add]; rfl
  have hst : (store ((⟨p, o, none⟩ : Addr).add 0) u).run Tryz.prog W = .ok () (W.setRow p (cs.setIfInBounds o u)) := by
    rw [hadd, run_store Tryz.prog W _ u _ h0, hcell]
    simp [hfro, setCell_eq_setRow W p o cs t (0, 0) u hb]
  have hb2 : Bk (W.setRow p (cs.setIfInBounds o u)) p (cs.setIfInBounds o u) t := setRow_heap _ _ _ _ _ _ hb
  have hcell2 : (W.setRow p (cs.setIfInBounds o u)).cell? ⟨p, o + 1, none⟩ = some ((cs.setIfInBounds o u)[o + 1]'(by simpa using ho)) := (cell_of_row _ _ _ _ _ _ hb2).trans (Array.getElem?_eq_getElem (by simpa using ho))
  have hadd2 : (⟨p, o, none⟩ : Addr).add (0 + 1) = ⟨p, o + 1, none⟩ := by rw [addr_add]
  have hst2 : (store ((⟨p, o, none⟩ : Addr).add (0 + 1)) v).run Tryz.prog (W.setRow p (cs.setIfInBounds o u)) = .ok () (W.setRow p ((cs.setIfInBounds o u).setIfInBounds (o + 1) v)) := by
    rw [hadd2, run_store Tryz.prog _ _ v _ h1, hcell2]
    simp [hb2.fr (o + 1), setCell_eq_setRow _ p (o + 1) _ t (0, 0) v hb2, setRow_setRow]
  have hst2' : (store ((⟨p, o, none⟩ : Addr).add 1) v).run Tryz.prog (W.setRow p (cs.setIfInBounds o u)) = .ok () (W.setRow p ((cs.setIfInBounds o u).setIfInBounds (o + 1) v)) := hst2
  cases hq : Tryz.prog.info? ty with
  | none => simp [hq] at hi
  | some i =>
    have hs : i.size = 2 := by simp [hq] at hi; omega
    simp [storeVar, sizeOf, typeInfo, hq, Value.cells, hs, storeCells, hst, hst2', Result.andThen]

section
variable {W V : World} {p : Nat} {A : Option Addr} {n k : Nat} {c : Int} {T : Tr} {B : Option Addr} {m kb : Nat} {L : List Lk} {C : Option Addr} {nq kq : Nat} {Q : List Wn}
abbrev Wc (W : World) (p : Nat) (A : Option Addr) (n k : Nat) (c : Int) (B : Option Addr) (m kb : Nat) (C : Option Addr) (nq kq : Nat) : Prop := Bk W p #[.slice A n k, .int .i64 c, .slice B m kb, .slice C nq kq] 36
theorem tree_two : (Tryz.prog.info? 31).map (·.size) = some 2 := by kernel_rfl
theorem table_one : (Tryz.prog.info? 34).map (·.size) = some 1 := by kernel_rfl
theorem queue_one : (Tryz.prog.info? 28).map (·.size) = some 1 := by kernel_rfl
theorem wpList_store_wx {A' : Option Addr} {n' k' : Nat} {c' : Int} {ops : Array Oper} {rest : List Oper} {o : Oper} {a : Act} {Q : Exit → Act → World → Prop} (hgd : o.guard = none) (x u : Operand) (ho : o.op = .store 31 x u) (hx : a.eval x = .pointer (some ⟨p, 0, none⟩)) (hy : a.eval u = .agg #[.slice A' n' k', .int .i64 c'])
    (hb : Wc W p A n k c B m kb C nq kq) (h : ∀ w', Wc w' p A' n' k' c' B m kb C nq kq → W.grownBy w' (some p) → wpList Tryz.prog ops Q rest (a.put o.dst undef) w') : wpList Tryz.prog ops Q (o :: rest) a W := by
  refine wpList_plain hgd fun K hK => ?_
  have e : (storeVar 31 ⟨p, 0, none⟩ (.agg #[.slice A' n' k', .int .i64 c'])).run Tryz.prog W = .ok () (W.setRow p #[.slice A' n' k', .int .i64 c', .slice B m kb, .slice C nq kq]) := run_store_part2 (o := 0) (u := .slice A' n' k') (v := .int .i64 c') hb (by simp) (by simp [Value.oneCell']) (by simp [Value.oneCell']) tree_two
  unfold Oper.wp execOp
  simp only [ho, hx, hy, Instr.storeAt, Instr.sureAddr, Sem.run_bind, Sem.run_pure, Result.andThen_ok, e]
  exact hK _ _ (h _ (setRow_heap _ _ _ _ _ _ hb) (setRow_grown _ _ _))
theorem wpList_store_wt {B' : Option Addr} {m' kb' : Nat} {ops : Array Oper} {rest : List Oper} {o : Oper} {a : Act} {Q : Exit → Act → World → Prop} (hgd : o.guard = none) (x u : Operand) (ho : o.op = .store 34 x u) (hx : a.eval x = .pointer (some ⟨p, 2, none⟩)) (hy : a.eval u = .agg #[.slice B' m' kb'])
    (hb : Wc W p A n k c B m kb C nq kq) (h : ∀ w', Wc w' p A n k c B' m' kb' C nq kq → W.grownBy w' (some p) → wpList Tryz.prog ops Q rest (a.put o.dst undef) w') : wpList Tryz.prog ops Q (o :: rest) a W := by
  refine wpList_plain hgd fun K hK => ?_
  have e : (storeVar 34 ⟨p, 2, none⟩ (.agg #[.slice B' m' kb'])).run Tryz.prog W = .ok () (W.setRow p #[.slice A n k, .int .i64 c, .slice B' m' kb', .slice C nq kq]) := run_store_part1 (o := 2) (v := .slice B' m' kb') hb (by simp) (by simp [Value.oneCell']) table_one
  unfold Oper.wp execOp
  simp only [ho, hx, hy, Instr.storeAt, Instr.sureAddr, Sem.run_bind, Sem.run_pure, Result.andThen_ok, e]
  exact hK _ _ (h _ (setRow_heap _ _ _ _ _ _ hb) (setRow_grown _ _ _))
theorem wpList_store_wq {C' : Option Addr} {nq' kq' : Nat} {ops : Array Oper} {rest : List Oper} {o : Oper} {a : Act} {Q : Exit → Act → World → Prop} (hgd : o.guard = none) (x u : Operand) (ho : o.op = .store 28 x u) (hx : a.eval x = .pointer (some ⟨p, 3, none⟩)) (hy : a.eval u = .agg #[.slice C' nq' kq'])
    (hb : Wc W p A n k c B m kb C nq kq) (h : ∀ w', Wc w' p A n k c B m kb C' nq' kq' → W.grownBy w' (some p) → wpList Tryz.prog ops Q rest (a.put o.dst undef) w') : wpList Tryz.prog ops Q (o :: rest) a W := by
  refine wpList_plain hgd fun K hK => ?_
  have e : (storeVar 28 ⟨p, 3, none⟩ (.agg #[.slice C' nq' kq'])).run Tryz.prog W = .ok () (W.setRow p #[.slice A n k, .int .i64 c, .slice B m kb, .slice C' nq' kq']) := run_store_part1 (o := 3) (v := .slice C' nq' kq') hb (by simp) (by simp [Value.oneCell']) queue_one
  unfold Oper.wp execOp
  simp only [ho, hx, hy, Instr.storeAt, Instr.sureAddr, Sem.run_bind, Sem.run_pure, Result.andThen_ok, e]
  exact hK _ _ (h _ (setRow_heap _ _ _ _ _ _ hb) (setRow_grown _ _ _))
end
end Go.Proofs.YtbokhhialfbjcaaGreat
