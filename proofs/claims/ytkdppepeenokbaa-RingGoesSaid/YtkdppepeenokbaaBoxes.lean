/-
  A ring's box made, and written, inside a region that draws its order; a ring written over in its own box.
-/
import Derived.Test.YtkdppepeenokbaaApartWalk
import Derived.Test.YtkdppepeenokbaaTakes
namespace Go.Proofs.Ytkdppepeenokbaa
open Go.RowKit

/-- w' is as w but for block g, and new blocks -/
structure But (g : Nat) (w w' : World) : Prop where
  os : w'.os = w.os
  tape : w'.tape = w.tape
  output : w'.output = w.output
  size : w.heap.size ≤ w'.heap.size
  block : ∀ k, k < w.heap.size → k ≠ g → w'.heap[k]? = w.heap[k]?

theorem But.below {g B : Nat} {w0 w w' : World} (h : But g w w') (hb : Below B w0 w) (hB : B ≤ w.heap.size) (hg : B ≤ g) : Below B w0 w' :=
  ⟨h.os.trans hb.os, h.tape.trans hb.tape, h.output.trans hb.output, Nat.le_trans hb.size h.size, fun k hk => (h.block k (by omega) (by omega)).trans (hb.block k hk)⟩

/-- a ring is written over in its own box -/
theorem bx_four {w : World} {g : Nat} {r : Rg} {t : TypeId} (h : Bx w g r t) (q : Rg) :
    Bx ((((w.setCell ⟨g, 0, none⟩ (.int .i64 q.F)).setCell ⟨g, 1, none⟩ (.int .i64 q.S)).setCell ⟨g, 2, none⟩ (.int .i64 q.H)).setCell ⟨g, 3, none⟩ (.int .i64 q.T)) g q t ∧
    But g w ((((w.setCell ⟨g, 0, none⟩ (.int .i64 q.F)).setCell ⟨g, 1, none⟩ (.int .i64 q.S)).setCell ⟨g, 2, none⟩ (.int .i64 q.H)).setCell ⟨g, 3, none⟩ (.int .i64 q.T)) := by
  have h1 := heap_setCell_same w g 0 _ _ (.int .i64 q.F) h
  have h2 := heap_setCell_same _ g 1 _ _ (.int .i64 q.S) h1
  have h3 := heap_setCell_same _ g 2 _ _ (.int .i64 q.H) h2
  have h4 := heap_setCell_same _ g 3 _ _ (.int .i64 q.T) h3
  refine ⟨h4, rfl, rfl, rfl, by simp [World.setCell], fun k _ hk => ?_⟩
  rw [heap_setCell_other _ _ _ _ (by exact hk), heap_setCell_other _ _ _ _ (by exact hk), heap_setCell_other _ _ _ _ (by exact hk), heap_setCell_other _ _ _ _ (by exact hk)]

theorem wp_alloc_ring {o : Oper} {a : Act} {w : World} {K : Act → World → Prop} {Q : Exit → Act → World → Prop} (ho : o.op = .alloc 25)
    (h : ∀ w' g, Bx w' g Rg.zero 25 → Below w.heap.size w w' → w.heap.size ≤ g → K (a.put o.dst (.pointer (some ⟨g, 0, none⟩))) w') : o.wp Try.prog a w K Q := by
  have h2 := h (w.alloc (.cells (rgC Rg.zero) 25)) w.heap.size (Bx.new _ _ _) (below_new _ _) (Nat.le_refl _)
  clear h
  unfold Oper.wp execOp
  simp only [ho]
  go_simp
  exact h2

theorem wp_store_ring {o : Oper} {a : Act} {w : World} {K : Act → World → Prop} {Q : Exit → Act → World → Prop} {g : Nat} {r q : Rg} (x y : Operand) (ho : o.op = .store 25 x y) (hx : a.eval x = .pointer (some ⟨g, 0, none⟩)) (hy : a.eval y = rgV q)
    (hb : Bx w g r 25) (h : ∀ w', Bx w' g q 25 → But g w w' → K (a.put o.dst undef) w') : o.wp Try.prog a w K Q := by
  obtain ⟨b1, b2⟩ := bx_four hb q
  have h2 := h _ b1 b2
  have x0 := hb.c0
  have x1 := hb.c1
  have x2 := hb.c2
  have x3 := hb.c3
  have f0 := hb.fr 0
  have f1 := hb.fr 1
  have f2 := hb.fr 2
  have f3 := hb.fr 3
  clear h hb b1 b2
  unfold Oper.wp execOp
  simp only [ho, hx, hy]
  go_simp
  exact h2

end Go.Proofs.Ytkdppepeenokbaa
