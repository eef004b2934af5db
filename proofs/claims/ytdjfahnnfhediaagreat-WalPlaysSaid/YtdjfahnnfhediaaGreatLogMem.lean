/-
  The program's log in memory, and its small calls: made, works, Head, Tail, Safe, Free, heed; of no log too.
-/
import Derived.Test.YtdjfahnnfhediaaGreatLg
import Derived.Test.YtdjfahnnfhediaaGreatRingA
import Derived.Test.YtdjfahnnfhediaaGreatDevB
namespace Go.Proofs.YtdjfahnnfhediaaGreat
set_option maxRecDepth 100000
open Go.RowKit

/-- the program's log lies in block q, its device in block p -/
def IsLog (w : World) (q p : Nat) (G : Lg) : Prop :=
  w.heap[q]? = some (.cells #[.int .i64 G.R.F, .int .i64 G.R.S, .int .i64 G.R.H, .int .i64 G.R.T, ptr p, .int .i64 G.E, .int .i64 G.safe, .bool G.broken] 77 (0, 0))

section
variable {w w' : World} {q p : Nat} {G : Lg}
theorem IsLog.c0 (h : IsLog w q p G) : w.cell? ⟨q, 0, none⟩ = some (.int .i64 G.R.F) := by rw [cell_of_row _ _ _ _ _ _ h]; rfl
theorem IsLog.c1 (h : IsLog w q p G) : w.cell? ⟨q, 1, none⟩ = some (.int .i64 G.R.S) := by rw [cell_of_row _ _ _ _ _ _ h]; rfl
theorem IsLog.c2 (h : IsLog w q p G) : w.cell? ⟨q, 2, none⟩ = some (.int .i64 G.R.H) := by rw [cell_of_row _ _ _ _ _ _ h]; rfl
theorem IsLog.c3 (h : IsLog w q p G) : w.cell? ⟨q, 3, none⟩ = some (.int .i64 G.R.T) := by rw [cell_of_row _ _ _ _ _ _ h]; rfl
theorem IsLog.c4 (h : IsLog w q p G) : w.cell? ⟨q, 4, none⟩ = some (ptr p) := by rw [cell_of_row _ _ _ _ _ _ h]; rfl
theorem IsLog.c5 (h : IsLog w q p G) : w.cell? ⟨q, 5, none⟩ = some (.int .i64 G.E) := by rw [cell_of_row _ _ _ _ _ _ h]; rfl
theorem IsLog.c6 (h : IsLog w q p G) : w.cell? ⟨q, 6, none⟩ = some (.int .i64 G.safe) := by rw [cell_of_row _ _ _ _ _ _ h]; rfl
theorem IsLog.c7 (h : IsLog w q p G) : w.cell? ⟨q, 7, none⟩ = some (.bool G.broken) := by rw [cell_of_row _ _ _ _ _ _ h]; rfl
theorem IsLog.fr (h : IsLog w q p G) (i : Nat) : w.frozen? ⟨q, i, none⟩ = false := frozen_of_row _ _ _ _ _ h
theorem IsLog.lt (h : IsLog w q p G) : q < w.heap.size := lt_of_block h
theorem IsLog.turn (h : IsLog w q p G) {S : Nat → Prop} (ht : Turn S w w') (hq : ¬ S q) : IsLog w' q p G := (ht.block q h.lt hq).trans h
theorem IsLog.below (h : IsLog w q p G) (hb : Below w.heap.size w w') : IsLog w' q p G := (hb.block q h.lt).trans h
theorem IsLog.broke (h : IsLog w q p G) : IsLog (w.setCell ⟨q, 7, none⟩ (.bool true)) q p { G with broken := true } := heap_setCell_same _ _ _ _ _ _ h
theorem IsLog.safed (h : IsLog w q p G) (t : Int) : IsLog (w.setCell ⟨q, 6, none⟩ (.int .i64 t)) q p { G with safe := t } := heap_setCell_same _ _ _ _ _ _ h
theorem IsLog.ring (h : IsLog w q p G) (R : Rg) : IsLog ((((w.setCell ⟨q, 0, none⟩ (.int .i64 R.F)).setCell ⟨q, 1, none⟩ (.int .i64 R.S)).setCell ⟨q, 2, none⟩ (.int .i64 R.H)).setCell ⟨q, 3, none⟩ (.int .i64 R.T)) q p { G with R := R } := by
  have h1 := heap_setCell_same w q 0 _ _ (.int .i64 R.F) h
  have h2 := heap_setCell_same _ q 1 _ _ (.int .i64 R.S) h1
  have h3 := heap_setCell_same _ q 2 _ _ (.int .i64 R.H) h2
  exact heap_setCell_same _ q 3 _ _ (.int .i64 R.T) h3
end

section
variable {w : World} {q p : Nat} {G : Lg}
theorem lmade_any (h : IsLog w q p G) : Calls Tryz.prog 55 #[ptr q] w fun e w' => e = .returned (.bool true) ∧ w' = w := by
  have c4 := h.c4
  clear h
  go_enter Tryz.func55, Tryz.ntmps55
  go_wp2_with fail
  go_ret
  exact ⟨rfl, rfl⟩
theorem lmade_nil (w : World) : Calls Tryz.prog 55 #[.pointer none] w fun e w' => e = .returned (.bool false) ∧ w' = w := by
  go_enter Tryz.func55, Tryz.ntmps55
  go_wp2_with fail
  go_ret
  exact ⟨rfl, rfl⟩
theorem works_any (h : IsLog w q p G) : Calls Tryz.prog 38 #[ptr q] w fun e w' => e = .returned (.bool (!G.broken)) ∧ w' = w := by
  have hm := lmade_any h
  have c7 := h.c7
  clear h
  generalize G.broken = b at *
  go_enter Tryz.func38, Tryz.ntmps38
  go_wp2_with (go_at_call 55; refine hm.mono ?_; rintro e w' ⟨rfl, hw⟩; replace hw := hw.symm; subst hw)
  go_ret
  exact ⟨rfl, rfl⟩
theorem works_nil (w : World) : Calls Tryz.prog 38 #[.pointer none] w fun e w' => e = .returned (.bool false) ∧ w' = w := by
  go_enter Tryz.func38, Tryz.ntmps38
  go_wp2_with (go_at_call 55; refine (lmade_nil w).mono ?_; rintro e w' ⟨rfl, hw⟩; replace hw := hw.symm; subst hw)
  go_ret
  exact ⟨rfl, rfl⟩
theorem lhead_any (h : IsLog w q p G) : Calls Tryz.prog 27 #[ptr q] w fun e w' => e = .returned (.int .i64 G.R.H) ∧ w' = w := by
  have hm := lmade_any h
  have c := h.c2
  clear h
  generalize G.R.H = z at *
  go_enter Tryz.func27, Tryz.ntmps27
  go_wp2_with (go_at_call 55; refine hm.mono ?_; rintro e w' ⟨rfl, hw⟩; replace hw := hw.symm; subst hw)
  go_ret
  exact ⟨rfl, rfl⟩
theorem lhead_nil (w : World) : Calls Tryz.prog 27 #[.pointer none] w fun e w' => e = .returned (.int .i64 0) ∧ w' = w := by
  go_enter Tryz.func27, Tryz.ntmps27
  go_wp2_with (go_at_call 55; refine (lmade_nil w).mono ?_; rintro e w' ⟨rfl, hw⟩; replace hw := hw.symm; subst hw)
  go_ret
  exact ⟨rfl, rfl⟩
theorem ltail_any (h : IsLog w q p G) : Calls Tryz.prog 32 #[ptr q] w fun e w' => e = .returned (.int .i64 G.R.T) ∧ w' = w := by
  have hm := lmade_any h
  have c := h.c3
  clear h
  generalize G.R.T = z at *
  go_enter Tryz.func32, Tryz.ntmps32
  go_wp2_with (go_at_call 55; refine hm.mono ?_; rintro e w' ⟨rfl, hw⟩; replace hw := hw.symm; subst hw)
  go_ret
  exact ⟨rfl, rfl⟩
theorem ltail_nil (w : World) : Calls Tryz.prog 32 #[.pointer none] w fun e w' => e = .returned (.int .i64 0) ∧ w' = w := by
  go_enter Tryz.func32, Tryz.ntmps32
  go_wp2_with (go_at_call 55; refine (lmade_nil w).mono ?_; rintro e w' ⟨rfl, hw⟩; replace hw := hw.symm; subst hw)
  go_ret
  exact ⟨rfl, rfl⟩
theorem lsafe_any (h : IsLog w q p G) : Calls Tryz.prog 33 #[ptr q] w fun e w' => e = .returned (.int .i64 G.safe) ∧ w' = w := by
  have hm := lmade_any h
  have c := h.c6
  clear h
  generalize G.safe = z at *
  go_enter Tryz.func33, Tryz.ntmps33
  go_wp2_with (go_at_call 55; refine hm.mono ?_; rintro e w' ⟨rfl, hw⟩; replace hw := hw.symm; subst hw)
  go_ret
  exact ⟨rfl, rfl⟩
theorem lsafe_nil (w : World) : Calls Tryz.prog 33 #[.pointer none] w fun e w' => e = .returned (.int .i64 0) ∧ w' = w := by
  go_enter Tryz.func33, Tryz.ntmps33
  go_wp2_with (go_at_call 55; refine (lmade_nil w).mono ?_; rintro e w' ⟨rfl, hw⟩; replace hw := hw.symm; subst hw)
  go_ret
  exact ⟨rfl, rfl⟩
theorem lfree_any (h : IsLog w q p G) : Calls Tryz.prog 34 #[ptr q] w fun e w' => e = .returned (.int .i64 G.R.free) ∧ Below w.heap.size w w' := by
  have hm := lmade_any h
  have hf := free_any G.R
  have c0 := h.c0
  have c1 := h.c1
  have c2 := h.c2
  have c3 := h.c3
  clear h
  generalize G.R = R at *
  obtain ⟨F, S, H, T⟩ := R
  go_enter Tryz.func34, Tryz.ntmps34
  go_wp2_with (go_at_call 55; refine hm.mono ?_; rintro e w' ⟨rfl, hw⟩; replace hw := hw.symm; subst hw)
  refine (hf _).mono ?_
  rintro e w2 ⟨rfl, hb⟩
  go_wp2_with fail
  go_ret
  exact ⟨rfl, hb⟩
theorem lfree_nil (w : World) : Calls Tryz.prog 34 #[.pointer none] w fun e w' => e = .returned (.int .i64 0) ∧ w' = w := by
  go_enter Tryz.func34, Tryz.ntmps34
  go_wp2_with (go_at_call 55; refine (lmade_nil w).mono ?_; rintro e w' ⟨rfl, hw⟩; replace hw := hw.symm; subst hw)
  go_ret
  exact ⟨rfl, rfl⟩
theorem heed_ok (w : World) (v : Value) : Calls Tryz.prog 41 #[v, .int .i64 0] w fun e w' => e = .returned (.int .i64 0) ∧ w' = w := by
  go_enter Tryz.func41, Tryz.ntmps41
  go_wp2_with fail
  go_ret
  exact ⟨rfl, rfl⟩
theorem heed_no (h : IsLog w q p G) (E : Int) (hE : (E == 0) = false) : Calls Tryz.prog 41 #[ptr q, .int .i64 E] w fun e w' => e = .returned (.int .i64 E) ∧ w' = w.setCell ⟨q, 7, none⟩ (.bool true) := by
  have c7 := h.c7
  have f7 := h.fr 7
  clear h
  go_enter Tryz.func41, Tryz.ntmps41
  go_wp2_with fail
  go_ret
  exact ⟨rfl, rfl⟩
end

end Go.Proofs.YtdjfahnnfhediaaGreat
