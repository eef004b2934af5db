/-
  A merged note's variable, whenever it is made: where its parts may not lie; blocks made and written in a region.
-/
import Derived.Test.YtjpnihmijnpjcaaNx
import Derived.Test.YtjpnihmijnpjcaaNu
import Derived.Test.YtjpnihmijnpjcaaNh
namespace Go.Proofs.Ytjpnihmijnpjcaa
set_option maxRecDepth 100000
set_option linter.unusedVariables false
open Go.RowKit Wm Nn

theorem wp_store_bk {P : Program} {o : Oper} {a : Act} {w : World} {K : Act → World → Prop} {Q : Exit → Act → World → Prop} (ty : TypeId) (x y : Operand) (ho : o.op = .store ty x y)
    (g : Nat) (cs : Array Value) (hx : a.eval x = .pointer (some ⟨g, 0, none⟩)) (hy : a.eval y = .agg cs) (t : TypeId) (old : Array Value) (hg : w.heap[g]? = some (.cells old t (0, 0)))
    (hi : (P.info? ty).map (·.size) = some cs.size) (hold : old.size = cs.size) (h1 : cs.all (·.oneCell') = true)
    (h : ∀ w' : World, w'.heap[g]? = some (.cells cs t (0, 0)) → w.grownBy w' (some g) → K (a.put o.dst undef) w') : o.wp P a w K Q := by
  refine wp_store_row ty x y ho g cs hx hy t old hg hi hold h1 (h _ (setRow_heap _ _ _ _ _ _ hg) ?_)
  exact ⟨rfl, rfl, rfl, by rw [setRow_size]; exact Nat.le_refl _, fun j _ hj => setRow_other w g j _ (fun e => hj (by rw [e]))⟩

/-- a block made -/
theorem wp_alloc_bk {P : Program} {o : Oper} {a : Act} {w : World} {K : Act → World → Prop} {Q : Exit → Act → World → Prop} (ty : TypeId) (ho : o.op = .alloc ty) (C : Array Value)
    (hi : ((P.info? ty).map (fun i => i.zero.map (·.cells))) = some (some C))
    (h : ∀ (w' : World) (g : Nat), w'.heap[g]? = some (.cells C ty (0, 0)) → Below w.heap.size w w' → w.heap.size ≤ g → K (a.put o.dst (.pointer (some ⟨g, 0, none⟩))) w') : o.wp P a w K Q := by
  have h2 := h (w.alloc (.cells C ty)) w.heap.size (heap_alloc_new w _) (below_new _ _) (Nat.le_refl _)
  clear h
  cases hq : P.info? ty with
  | none => simp [hq] at hi
  | some i =>
    cases hz : i.zero with
    | none => simp [hq, hz] at hi
    | some z =>
      have hc : z.cells = C := by simpa [hq, hz] using hi
      subst hc
      unfold Oper.wp
      simp [execOp, ho, Instr.alloc, zeroValue, typeInfo, hq, hz, newVar, newRow, Result.andThen]
      exact h2

/-- the zero of a note -/
abbrev ntZ : Array Value := ntC Nt.zero nr0

section
variable {w0 w W V : World} {x y m : Nt} {r q p : Nr} {z lo hi : Nat} {E : Int}
theorem off_at {α : Type} {R : Rk α} {A : Option Addr} {n : Nat} {l : List α} (h : R.At w A l) (hn : l.length = n) (hz : w.heap.size ≤ z) : off A n z := fun b o e => by
  rcases h with h | ⟨b', o', e', hb, _⟩
  · left; rw [← hn, h]; rfl
  · right
    rw [e] at e'
    injection e' with e'
    injection e' with e1
    omega
/-- nothing of it lies in a block that is newer -/
theorem NtAt.offNew (h : NtAt w x r) (hz : w.heap.size ≤ z) : r.Off z := by
  obtain ⟨hi, ho, _, _⟩ := h
  refine ⟨off_at hi.row hi.rl hz, off_at ho.row ho.ll hz, fun s hs b o e => ?_⟩
  obtain ⟨i, hi2⟩ := List.mem_iff_getElem?.1 hs
  obtain ⟨t, ht⟩ : ∃ t, x.im[i]? = some t := ⟨_, List.getElem?_eq_getElem (by have := (List.getElem?_eq_some_iff.1 hi2).1; have := hi.rl; have := hi.ll; omega)⟩
  obtain ⟨_, hl, _⟩ := hi.each i s t hi2 ht
  rcases hl.rd with h | ⟨b', o', e', hb, _⟩
  · left; rw [← hl.len, h]; rfl
  · right
    rw [e] at e'
    injection e' with e'
    injection e' with e1
    omega
/-- a note that a call made: no block between w0 and lo, or from hi on, holds a part of it -/
structure Got (w0 : World) (lo hi : Nat) (V : World) (m : Nt) (p : Nr) : Prop where
  at_ : NtAt V m p
  off : ∀ z, w0.heap.size ≤ z → (z < lo ∨ hi ≤ z) → p.Off z
  top : hi ≤ V.heap.size
theorem Got.below (h : Got w0 lo hi V m p) (hb : Below V.heap.size V W) : Got w0 lo hi W m p := ⟨h.at_.below hb, h.off, Nat.le_trans h.top hb.size⟩
theorem merged (hS : Since w0 W) (hx : NtAt w0 x r) (hy : NtAt w0 y q) {e : Ending} (h : MergeOut W m E r q e V) : ∃ p, e = .returned (.tuple #[ntV m p, .int .i64 E]) ∧ Got w0 W.heap.size V.heap.size V m p ∧ Below W.heap.size W V := by
  obtain ⟨p, he, ha, hb, ho⟩ := h
  refine ⟨p, he, ⟨ha, fun z h0 hz => ?_, Nat.le_refl _⟩, hb⟩
  rcases hz with h1 | h1
  · exact ho z h1 (hx.offNew h0) (hy.offNew h0)
  · exact ha.offNew h1
end

theorem few_small {x : Nt} {m : Nat} (h : Few x m) (hm : m ≤ 1000) : SmallN x := ⟨by have := h.1; omega, by have := h.2.1; omega, fun i y hy => by have := h.2.2 i y hy; omega⟩
/-- two notes' variables, boxed one behind the other -/
theorem two_boxed (w : World) (x y : Nt) (r q : Nr) (hx : NtAt w x r) (hy : NtAt w y q) (ty : TypeId) : Hid (NtB ((w.alloc (.cells (ntC x r) ty)).alloc (.cells (ntC y q) ty)) w.heap.size ty x r) ∧ Hid (NtB ((w.alloc (.cells (ntC x r) ty)).alloc (.cells (ntC y q) ty)) (w.heap.size + 1) ty y q) ∧
    Hid (Below w.heap.size w ((w.alloc (.cells (ntC x r) ty)).alloc (.cells (ntC y q) ty))) ∧ Hid (NtAt ((w.alloc (.cells (ntC x r) ty)).alloc (.cells (ntC y q) ty)) x r) ∧ Hid (NtAt ((w.alloc (.cells (ntC x r) ty)).alloc (.cells (ntC y q) ty)) y q) := by
  have hb := two_below w (ntC x r) (ntC y q) ty ty
  have h2 : NtB ((w.alloc (.cells (ntC x r) ty)).alloc (.cells (ntC y q) ty)) (w.heap.size + 1) ty y q := by
    have h := NtB.new (w.alloc (.cells (ntC x r) ty)) ty y q
    have hz : (w.alloc (.cells (ntC x r) ty)).heap.size = w.heap.size + 1 := by simp
    rw [hz] at h
    exact h
  exact ⟨Lib.hid ((NtB.new w ty x r).below (below_new _ _)), Lib.hid h2, Lib.hid hb, Lib.hid (hx.below hb), Lib.hid (hy.below hb)⟩
theorem merE_san {x y : Nt} (h : merE x y = 0) : (San x ∧ San y ∧ x.kind = 1 ∧ y.kind = 1) ∧ San (mer x y) ∧ merN x y = mer x y := by
  by_cases h1 : San x ∧ San y ∧ x.kind = 1 ∧ y.kind = 1
  · by_cases h2 : San (mer x y)
    · exact ⟨h1, h2, (merE_zero h1 h2).2⟩
    · rw [(merE_much h1 h2).1] at h; cases h
  · rw [(merE_no h1).1] at h; cases h
theorem merE_zeroN {x y : Nt} (h : merE x y ≠ 0) : merN x y = Nt.zero := by unfold merN; rw [if_neg h]

end Go.Proofs.Ytjpnihmijnpjcaa
