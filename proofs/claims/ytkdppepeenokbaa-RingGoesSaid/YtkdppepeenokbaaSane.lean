/-
  Whether a ring may be: the program's Sane and the document's say what the plain one says.
-/
import Derived.Test.YtkdppepeenokbaaNum
import Derived.Test.YtkdppepeenokbaaRg
namespace Go.Proofs.Ytkdppepeenokbaa
open Go.RowKit

/-- a ring as Go has it -/
abbrev rgC (r : Rg) : Array Value := #[.int .i64 r.F, .int .i64 r.S, .int .i64 r.H, .int .i64 r.T]
abbrev rgV (r : Rg) : Value := .agg (rgC r)

theorem rises3 (x y z : Int) : rises [x, y, z] = (decide (x ≤ y) && decide (y ≤ z)) := by simp [rises]
theorem rises4 (x y z u : Int) : rises [x, y, z, u] = (decide (x ≤ y) && (decide (y ≤ z) && decide (z ≤ u))) := by simp [rises]

/-- a ring lies in block g -/
def Bx (w : World) (g : Nat) (r : Rg) (t : TypeId) : Prop := w.heap[g]? = some (.cells (rgC r) t (0, 0))
section
variable {w w' : World} {g : Nat} {r : Rg} {t : TypeId}
theorem Bx.c0 (h : Bx w g r t) : w.cell? ⟨g, 0, none⟩ = some (.int .i64 r.F) := by rw [cell_of_row _ _ _ _ _ _ h]; rfl
theorem Bx.c1 (h : Bx w g r t) : w.cell? ⟨g, 1, none⟩ = some (.int .i64 r.S) := by rw [cell_of_row _ _ _ _ _ _ h]; rfl
theorem Bx.c2 (h : Bx w g r t) : w.cell? ⟨g, 2, none⟩ = some (.int .i64 r.H) := by rw [cell_of_row _ _ _ _ _ _ h]; rfl
theorem Bx.c3 (h : Bx w g r t) : w.cell? ⟨g, 3, none⟩ = some (.int .i64 r.T) := by rw [cell_of_row _ _ _ _ _ _ h]; rfl
theorem Bx.lt (h : Bx w g r t) : g < w.heap.size := lt_of_block h
theorem Bx.fr (h : Bx w g r t) (i : Nat) : w.frozen? ⟨g, i, none⟩ = false := frozen_of_row _ _ _ _ _ h
theorem Bx.below (h : Bx w g r t) (hb : Below w.heap.size w w') : Bx w' g r t := (hb.block g h.lt).trans h
theorem Bx.new (w : World) (r : Rg) (t : TypeId) : Bx (w.alloc (.cells (rgC r) t)) w.heap.size r t := heap_alloc_new w _
end
theorem below_new (w : World) (o : Obj) : Below w.heap.size w (w.alloc o) := (Below.refl _ _).alloc (Nat.le_refl _) o
theorem below_two {a b c : World} (h : Below a.heap.size a b) (k : Below b.heap.size b c) : Below a.heap.size a c := h.trans (k.mono h.size)

set_option maxHeartbeats 1000000 in
set_option maxRecDepth 100000 in
theorem sane_any (r : Rg) : Says 15 #[rgV r] (.bool r.sane) := by
  intro w
  have hE : r.sane = (rises [0, r.F, 4096] && (rises [1, r.S, 4096] && (rises [0, r.H, r.T, 1099511627776] && decide (r.T - r.H ≤ r.S)))) := by
    rw [rises3, rises3, rises4]
    unfold Rg.sane
    simp only [Bool.and_assoc]
  have hw : rises [0, r.H, r.T, 1099511627776] = true → IntKind.i64.wrap (r.T - r.H) = r.T - r.H := by
    rw [rises4]
    simp only [Bool.and_eq_true, decide_eq_true_eq]
    intro h
    rw [IntKind.wrap_i64]
    omega
  have HX := Lib.hid (Bx.new w r 25)
  have HB := Lib.hid (below_new w (.cells (rgC r) 25))
  have HE := Lib.hid hE
  have HW := Lib.hid hw
  clear hE hw
  obtain ⟨F, S, H, T⟩ := r
  go_enter Try.func15, Try.ntmps15
  go_wp2_with fail
  refine (rising3 0 F 4096 _ _ (by simp)).mono ?_
  rintro e w1 ⟨rfl, hb1⟩
  have HX1 := Lib.hid (HX.out.below hb1)
  have HB1 := Lib.hid (below_two HB.out hb1)
  clear hb1 HX HB
  have c1 := HX1.out.c1
  generalize rises [0, F, 4096] = r1 at *
  cases r1 with
  | false =>
    go_wp2_with fail
    go_ret
    exact ⟨by rw [HE.out]; rfl, HB1.out⟩
  | true =>
    go_wp2_with fail
    refine (rising3 1 S 4096 _ _ (by simp)).mono ?_
    rintro e w2 ⟨rfl, hb2⟩
    have HX2 := Lib.hid (HX1.out.below hb2)
    have HB2 := Lib.hid (below_two HB1.out hb2)
    clear hb2 HX1 HB1 c1
    have c2 := HX2.out.c2
    have c3 := HX2.out.c3
    generalize rises [1, S, 4096] = r2 at *
    cases r2 with
    | false =>
      go_wp2_with fail
      go_ret
      exact ⟨by rw [HE.out]; rfl, HB2.out⟩
    | true =>
      go_wp2_with fail
      refine (rising4 0 H T 1099511627776 _ _ (by simp)).mono ?_
      rintro e w3 ⟨rfl, hb3⟩
      have HX3 := Lib.hid (HX2.out.below hb3)
      have HB3 := Lib.hid (below_two HB2.out hb3)
      clear hb3 HX2 HB2 c2 c3
      have c1 := HX3.out.c1
      have c2 := HX3.out.c2
      have c3 := HX3.out.c3
      replace HW : Hid (rises [0, H, T, 1099511627776] = true → IntKind.i64.wrap (T - H) = T - H) := HW
      generalize rises [0, H, T, 1099511627776] = r3 at *
      cases r3 with
      | false =>
        go_wp2_with fail
        go_ret
        exact ⟨by rw [HE.out]; rfl, HB3.out⟩
      | true =>
        have hw := HW.out rfl
        go_wp2_with fail
        go_ret
        exact ⟨by rw [HE.out]; rfl, HB3.out⟩

set_option maxHeartbeats 1000000 in
set_option maxRecDepth 100000 in
theorem refsane_any (r : Rg) : Says 16 #[rgV r] (.bool r.sane) := by
  intro w
  have HX := Lib.hid (Bx.new w r 23)
  have HB := Lib.hid (below_new w (.cells (rgC r) 23))
  have c0 := HX.out.c0
  have c1 := HX.out.c1
  have c2 := HX.out.c2
  have c3 := HX.out.c3
  obtain ⟨F, S, H, T⟩ := r
  go_enter Try.func16, Try.ntmps16
  go_wp2_with fail
  all_goals
    go_ret
    refine ⟨congrArg (fun b => Ending.returned (.bool b)) ?_, HB.out⟩
    clear c0 c1 c2 c3 HX HB
    unfold Rg.sane
    simp only []
    first
      | (rw [decide_eq_true (p := 0 ≤ F) (by omega), decide_eq_true (p := F ≤ 4096) (by omega), decide_eq_true (p := 1 ≤ S) (by omega), decide_eq_true (p := S ≤ 4096) (by omega), decide_eq_true (p := 0 ≤ H) (by omega), decide_eq_true (p := H ≤ T) (by omega), decide_eq_true (p := T ≤ 1099511627776) (by omega)]; rfl)
      | (symm; simp; intros; omega)

end Go.Proofs.Ytkdppepeenokbaa
