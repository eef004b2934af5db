/-
  Which of two locks stands first: the comparison.
-/
import Derived.Test.YtohnfjneghbceaaLk
import Derived.Test.YtohnfjneghbceaaAbort
import Derived.Lib.RowBridge
import Derived.Lib.SortBridge
namespace Go.Proofs.Ytohnfjneghbceaa
set_option maxRecDepth 100000
set_option linter.unusedVariables false
open Go.RowKit Go.Shelf Go.Sort

theorem or_any (g : Nat) (x y : Int) (w : World) (hx : w.cell? ⟨g, 0, none⟩ = some (.int .i64 x)) (hy : w.cell? ⟨g, 1, none⟩ = some (.int .i64 y)) :
    Calls Try.prog 60 #[.slice (some ⟨g, 0, none⟩) 2 2] w fun e w' => e = .returned (.int .i64 (if x = 0 then y else x)) ∧ w' = w := by
  go_enter Try.func60, Try.ntmps60
  go_wp2_with fail
  go_loopw [8] (fun iv wr => ∃ j : Nat, iv = .int .i64 (j : Int) ∧ wr = w ∧ (j = 0 ∨ (j = 1 ∧ x = 0) ∨ (j = 2 ∧ x = 0 ∧ y = 0))) (fun iv _ => 2 - (intOf iv).toNat)
  case atStart => exact ⟨0, rfl, rfl, .inl rfl⟩
  case round =>
    obtain ⟨j, rfl, hwr, h⟩ := hrel
    replace hwr := hwr.symm
    subst hwr
    rcases h with rfl | ⟨rfl, h1⟩ | ⟨rfl, h1, h2⟩
    · by_cases h0 : x = 0
      · have hb : (x == 0) = true := by simpa using h0
        have H0 := Lib.hid h0
        clear h0
        go_wp2
        go_roundw
        case rel => exact ⟨1, by simp, by trivial, .inr (.inl ⟨rfl, H0.out⟩)⟩
        case measure => simp [intOf]
      · have hb : (x == 0) = false := by simpa using h0
        have H0 := Lib.hid h0
        clear h0
        go_wp2
        go_ret
        exact ⟨by first | rfl | (rw [if_neg H0.out]; rfl), rfl⟩
    · by_cases h0 : y = 0
      · have hb : (y == 0) = true := by simpa using h0
        have H0 := Lib.hid h0
        have H1 := Lib.hid h1
        clear h0 h1
        go_wp2
        go_roundw
        case rel => exact ⟨2, by simp, by trivial, .inr (.inr ⟨rfl, H1.out, H0.out⟩)⟩
        case measure => simp [intOf]
      · have hb : (y == 0) = false := by simpa using h0
        have H0 := Lib.hid h0
        have H1 := Lib.hid h1
        clear h0 h1
        go_wp2
        go_ret
        exact ⟨by first | rfl | (rw [if_pos H1.out]; rfl), rfl⟩
    · have H1 := Lib.hid h1
      have H2 := Lib.hid h2
      clear h1 h2
      go_wp2
      go_ret
      exact ⟨by first | (have h2 := H2.out; subst h2; first | rfl | (rw [if_pos H1.out]; rfl)) | (rw [if_pos H1.out, H2.out]; rfl), rfl⟩

theorem below_grow (w : World) (q : Nat) (os : Array Obj) : Below w.heap.size w (grow (w.drewN q) os) :=
  ⟨rfl, rfl, rfl, by show w.heap.size ≤ (w.heap ++ os).size; simp, fun k hk => by show (w.heap ++ os)[k]? = _; rw [Array.getElem?_append_left hk]⟩

/-- some draws, and new blocks -/
def Gr (w w' : World) : Prop := ∃ q os, w' = grow (w.drewN q) os
theorem Gr.refl (w : World) : Gr w w := ⟨0, #[], by rw [grow_empty]; rfl⟩
theorem Gr.trans {a b c : World} (h : Gr a b) (k : Gr b c) : Gr a c := by
  obtain ⟨q, os, rfl⟩ := h
  obtain ⟨q', os', rfl⟩ := k
  exact ⟨q + q', os ++ os', by show grow (grow ((a.drewN q).drewN q') os) os' = _; rw [grow_grow, World.drewN_drewN]⟩
theorem Gr.alloc (w : World) (o : Obj) : Gr w (w.alloc o) := ⟨0, #[o], by rw [alloc_eq_grow]; rfl⟩
theorem Gr.below {w w' : World} (h : Gr w w') : Below w.heap.size w w' := by
  obtain ⟨q, os, rfl⟩ := h
  exact below_grow w q os

def Lk.v (y : Lk) : Value := .agg #[.int .i64 y.b, .int .i64 y.x, .int .i64 y.h, .int .i64 y.k]
/-- what the comparison answers -/
def cmpI (y z : Lk) : Int := if Lib.compareInt y.b z.b = 0 then Lib.compareInt y.x z.x else Lib.compareInt y.b z.b
theorem cmpI_facts (y z : Lk) (hy : 0 ≤ y.x ∧ y.x ≤ 63) (hz : 0 ≤ z.x ∧ z.x ≤ 63) : (cmpI y z < 0 ↔ y.q < z.q) ∧ (cmpI y z = 0 ↔ y.q = z.q) ∧ (0 ≤ cmpI y z ↔ z.q ≤ y.q) := by
  unfold cmpI Lib.compareInt Lk.q
  (repeat' split) <;> omega

/-- a lock's cells in a block -/
structure LB (W : World) (g : Nat) (y : Lk) : Prop where
  b : W.cell? ⟨g, 0, none⟩ = some (.int .i64 y.b)
  x : W.cell? ⟨g, 1, none⟩ = some (.int .i64 y.x)
  h : W.cell? ⟨g, 2, none⟩ = some (.int .i64 y.h)
  k : W.cell? ⟨g, 3, none⟩ = some (.int .i64 y.k)
theorem LB.lt {W : World} {g : Nat} {y : Lk} (h : LB W g y) : g < W.heap.size := block_lt_of_cell (a := ⟨g, 0, none⟩) h.b
theorem LB.below {W V : World} {g : Nat} {y : Lk} (h : LB W g y) (hb : Below W.heap.size W V) : LB V g y :=
  ⟨(hb.cell (p := ⟨g, 0, none⟩) h.lt).trans h.b, (hb.cell (p := ⟨g, 1, none⟩) h.lt).trans h.x, (hb.cell (p := ⟨g, 2, none⟩) h.lt).trans h.h, (hb.cell (p := ⟨g, 3, none⟩) h.lt).trans h.k⟩
theorem LB.new (w : World) (y : Lk) (t : TypeId) : LB (w.alloc (.cells #[.int .i64 y.b, .int .i64 y.x, .int .i64 y.h, .int .i64 y.k] t)) w.heap.size y :=
  ⟨(cell_new w _ _ 0).trans rfl, (cell_new w _ _ 1).trans rfl, (cell_new w _ _ 2).trans rfl, (cell_new w _ _ 3).trans rfl⟩

set_option maxHeartbeats 2000000 in
theorem compare_any (y z : Lk) (w : World) : Calls Try.prog 47 #[.agg #[.int .i64 y.b, .int .i64 y.x, .int .i64 y.h, .int .i64 y.k], .agg #[.int .i64 z.b, .int .i64 z.x, .int .i64 z.h, .int .i64 z.k]] w fun e w' => e = .returned (.int .i64 (cmpI y z)) ∧ Gr w w' := by
  obtain ⟨E1, hE1⟩ : ∃ q, q = Lib.compareInt y.b z.b := ⟨_, rfl⟩
  obtain ⟨E2, hE2⟩ : ∃ q, q = Lib.compareInt y.x z.x := ⟨_, rfl⟩
  have HCF := Lib.hid (show cmpI y z = if E1 = 0 then E2 else E1 by unfold cmpI; rw [hE1, hE2])
  have hc1 : ∀ V, Calls Try.prog 61 #[.int .i64 y.b, .int .i64 z.b] V fun e w' => e = .returned (.int .i64 E1) ∧ w' = V := fun V => by rw [hE1]; exact AnyG.cmp_Compare_int (P := Try.prog) (ρ := Try.cmpL_ren) Try.cmpL y.b z.b V
  have hc2 : ∀ V, Calls Try.prog 61 #[.int .i64 y.x, .int .i64 z.x] V fun e w' => e = .returned (.int .i64 E2) ∧ w' = V := fun V => by rw [hE2]; exact AnyG.cmp_Compare_int (P := Try.prog) (ρ := Try.cmpL_ren) Try.cmpL y.x z.x V
  have HC1 := Lib.hid hc1
  have HC2 := Lib.hid hc2
  obtain ⟨wx, hw0⟩ : ∃ wx, wx = w.alloc (.cells #[.int .i64 y.b, .int .i64 y.x, .int .i64 y.h, .int .i64 y.k] 53) := ⟨_, rfl⟩
  obtain ⟨w1, hw1⟩ : ∃ wy, wy = wx.alloc (.cells #[.int .i64 z.b, .int .i64 z.x, .int .i64 z.h, .int .i64 z.k] 53) := ⟨_, rfl⟩
  have hg : Gr w w1 := by rw [hw1, hw0]; exact (Gr.alloc w _).trans (Gr.alloc _ _)
  have hs : wx.heap.size = w.heap.size + 1 := by rw [hw0]; simp
  have b1 : LB w1 w.heap.size y := by rw [hw1, hw0]; exact (LB.new w y _).below (below_new _ _)
  have b2 : LB w1 (w.heap.size + 1) z := by rw [hw1, ← hs]; exact LB.new wx z _
  have HG := Lib.hid hg
  have H1 := Lib.hid b1
  have H2 := Lib.hid b2
  clear hc1 hc2 hE1 hE2 hg b1 b2
  go_enter Try.func47, Try.ntmps47
  go_upto_region 1 with fail
  rw [← hw0, ← hw1]
  clear hw0 hw1 hs wx
  have k0 : ∀ V, (∃ os, V = grow (w1.drewN 1) os) → V.cell? ⟨w.heap.size, 0, none⟩ = some (.int .i64 y.b) := fun V ⟨os, e⟩ => by rw [e]; exact (H1.out.below (below_grow w1 1 os)).b
  have k1 : ∀ V, (∃ os, V = grow (w1.drewN 1) os) → V.cell? ⟨w.heap.size, 1, none⟩ = some (.int .i64 y.x) := fun V ⟨os, e⟩ => by rw [e]; exact (H1.out.below (below_grow w1 1 os)).x
  have k2 : ∀ V, (∃ os, V = grow (w1.drewN 1) os) → V.cell? ⟨w.heap.size + 1, 0, none⟩ = some (.int .i64 z.b) := fun V ⟨os, e⟩ => by rw [e]; exact (H2.out.below (below_grow w1 1 os)).b
  have k3 : ∀ V, (∃ os, V = grow (w1.drewN 1) os) → V.cell? ⟨w.heap.size + 1, 1, none⟩ = some (.int .i64 z.x) := fun V ⟨os, e⟩ => by rw [e]; exact (H2.out.below (below_grow w1 1 os)).x
  refine wp_region_held_drew (S := (fun V => ∃ os, V = grow (w1.drewN 1) os)) (by kernel_rfl) (⟨#[], by rw [grow_empty]; rfl⟩) (fun _ => ?_)
  have hS : ((fun V => ∃ os, V = grow (w1.drewN 1) os)) (World.drew w1) := ⟨#[], by rw [grow_empty]; rfl⟩
  refine wpAnyH_take (i := 0) (oi := ⟨some 5, _, _, _, _, _⟩) (v := ?_) rfl (by kernel_rfl) (by kernel_rfl) (by kernel_rfl) (fun _ _ _ h => h) (Or.inl ⟨by rfl, ?_⟩) hS ?_
  rotate_left
  · intro W hW; go_simp; with_reducible rfl
  try simp only [Act.put, List.setIfInBounds_toArray, List.set_cons_zero, List.set_cons_succ]
  refine wpAnyH_take (i := 1) (oi := ⟨some 6, _, _, _, _, _⟩) (v := ?_) rfl (by kernel_rfl) (by kernel_rfl) (by kernel_rfl) (fun _ _ _ h => h) (Or.inl ⟨by rfl, ?_⟩) hS ?_
  rotate_left
  · intro W hW; go_simp; with_reducible rfl
  try simp only [Act.put, List.setIfInBounds_toArray, List.set_cons_zero, List.set_cons_succ]
  refine wpAnyH_take (i := 2) (oi := ⟨some 7, _, _, _, _, _⟩) (v := ?_) rfl (by kernel_rfl) (by kernel_rfl) (by kernel_rfl) (fun _ _ _ h => h) (Or.inl ⟨by rfl, ?_⟩) hS ?_
  rotate_left
  · intro W hW; go_simp; with_reducible rfl
  try simp only [Act.put, List.setIfInBounds_toArray, List.set_cons_zero, List.set_cons_succ]
  refine wpAnyH_take (i := 3) (oi := ⟨some 8, _, _, _, _, _⟩) (v := ?_) rfl (by kernel_rfl) (by kernel_rfl) (by kernel_rfl) (fun _ _ _ h => h) (Or.inl ⟨by rfl, ?_⟩) hS ?_
  rotate_left
  · intro W hW; go_simp; with_reducible rfl
  try simp only [Act.put, List.setIfInBounds_toArray, List.set_cons_zero, List.set_cons_succ]
  refine wpAnyH_take (i := 5) (oi := ⟨some 10, _, _, _, _, _⟩) (v := ?_) rfl (by kernel_rfl) (by kernel_rfl) (by kernel_rfl) (fun _ _ _ h => h) (Or.inl ⟨by rfl, ?_⟩) hS ?_
  rotate_left
  · intro W hW; go_simp; with_reducible rfl
  try simp only [Act.put, List.setIfInBounds_toArray, List.set_cons_zero, List.set_cons_succ]
  refine wpAnyH_take (i := 6) (oi := ⟨some 11, _, _, _, _, _⟩) (v := ?_) rfl (by kernel_rfl) (by kernel_rfl) (by kernel_rfl) (fun _ _ _ h => h) (Or.inl ⟨by rfl, ?_⟩) hS ?_
  rotate_left
  · intro W hW; go_simp; with_reducible rfl
  try simp only [Act.put, List.setIfInBounds_toArray, List.set_cons_zero, List.set_cons_succ]
  refine wpAnyH_take (i := 7) (oi := ⟨some 12, _, _, _, _, _⟩) (v := ?_) rfl (by kernel_rfl) (by kernel_rfl) (by kernel_rfl) (fun _ _ _ h => h) (Or.inl ⟨by rfl, ?_⟩) hS ?_
  rotate_left
  · intro W hW; go_simp; with_reducible rfl
  try simp only [Act.put, List.setIfInBounds_toArray, List.set_cons_zero, List.set_cons_succ]
  refine wpAnyH_take (i := 8) (oi := ⟨some 13, _, _, _, _, _⟩) (v := ?_) rfl (by kernel_rfl) (by kernel_rfl) (by kernel_rfl) (fun _ _ _ h => h) (Or.inl ⟨by rfl, ?_⟩) hS ?_
  rotate_left
  · intro W hW; go_simp; with_reducible rfl
  try simp only [Act.put, List.setIfInBounds_toArray, List.set_cons_zero, List.set_cons_succ]
  refine wpAnyH_ready (rs := [4]) (by kernel_rfl) (by simp) ?_
  refine AllReadyH.cons (o := ⟨some 9, _, _, _, _, _⟩) rfl (fun Kr hKr => ?_) AllReadyH.nil
  -- operation 4: a call
  go_simp
  refine (HC1.out _).mono ?_
  rintro e V0 ⟨rfl, hv⟩
  subst hv
  show Kr _ _
  refine hKr.out _ _ ?_ (fun _ => ?_)
  · exact hS
  clear hKr Kr
  try simp only [Act.put, List.setIfInBounds_toArray, List.set_cons_zero, List.set_cons_succ]
  refine wpAnyH_ready (rs := [9]) (by kernel_rfl) (by simp) ?_
  refine AllReadyH.cons (o := ⟨some 14, _, _, _, _, _⟩) rfl (fun Kr hKr => ?_) AllReadyH.nil
  -- operation 9: a call
  go_simp
  refine (HC2.out _).mono ?_
  rintro e V0 ⟨rfl, hv⟩
  subst hv
  show Kr _ _
  refine hKr.out _ _ ?_ (fun _ => ?_)
  · exact hS
  clear hKr Kr
  try simp only [Act.put, List.setIfInBounds_toArray, List.set_cons_zero, List.set_cons_succ]
  refine wpAnyH_ready (rs := [10]) (by kernel_rfl) (by simp) ?_
  refine AllReadyH.cons (o := ⟨some 15, _, _, _, _, _⟩) rfl (fun Kr hKr => ?_) AllReadyH.nil
  -- operation 10: a step
  go_simp
  show Kr _ _
  refine hKr.out _ _ ?_ (fun _ => ?_)
  · exact ⟨_, (show World.drew (w1.alloc (.cells #[.int .i64 E1, .int .i64 E2] 3)) = (w1.drewN 1).alloc (.cells #[.int .i64 E1, .int .i64 E2] 3) from rfl).trans (alloc_eq_grow _ _)⟩
  clear hKr Kr
  replace hS : ((fun V => ∃ os, V = grow (w1.drewN 1) os)) ((World.drew w1).alloc (.cells #[.int .i64 E1, .int .i64 E2] 3)) := ⟨_, (show World.drew (w1.alloc (.cells #[.int .i64 E1, .int .i64 E2] 3)) = (w1.drewN 1).alloc (.cells #[.int .i64 E1, .int .i64 E2] 3) from rfl).trans (alloc_eq_grow _ _)⟩
  try simp only [Act.put, List.setIfInBounds_toArray, List.set_cons_zero, List.set_cons_succ]
  refine wpAnyH_ready (rs := [11]) (by kernel_rfl) (by simp) ?_
  refine AllReadyH.cons (o := ⟨some 16, _, _, _, _, _⟩) rfl (fun Kr hKr => ?_) AllReadyH.nil
  -- operation 11: a call
  go_simp
  refine (or_any w1.heap.size E1 E2 _ ((cell_new (World.drew w1) #[.int .i64 E1, .int .i64 E2] 3 0).trans rfl) ((cell_new (World.drew w1) #[.int .i64 E1, .int .i64 E2] 3 1).trans rfl)).mono ?_
  rintro e V0 ⟨rfl, hv⟩
  subst hv
  show Kr _ _
  refine hKr.out _ _ ?_ (fun _ => ?_)
  · exact hS
  clear hKr Kr
  try simp only [Act.put, List.setIfInBounds_toArray, List.set_cons_zero, List.set_cons_succ]
  refine wpAnyH_take (i := 12) (oi := ⟨some 4, _, _, _, _, _⟩) (v := ?_) rfl (by kernel_rfl) (by kernel_rfl) (by kernel_rfl) (fun _ _ _ h => h) (Or.inl ⟨by rfl, ?_⟩) hS ?_
  rotate_left
  · intro W hW; go_simp; with_reducible rfl
  try simp only [Act.put, List.setIfInBounds_toArray, List.set_cons_zero, List.set_cons_succ]
  refine wpAnyH_done (by kernel_rfl) ?_ _
  obtain ⟨os, hfin⟩ := hS
  rw [← HCF.out]
  go_wp2
  go_ret
  exact ⟨rfl, HG.out.trans ⟨1, os, hfin⟩⟩
end Go.Proofs.Ytohnfjneghbceaa
