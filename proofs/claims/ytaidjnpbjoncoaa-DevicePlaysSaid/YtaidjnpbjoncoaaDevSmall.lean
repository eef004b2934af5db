/-
  The device's small calls: made, Size, Gone, Spent, has, Budget, spend; of no device too.
-/
import Derived.Test.YtaidjnpbjoncoaaDevMem
import Derived.Laws.Cover3
namespace Go.Proofs.Ytaidjnpbjoncoaa
open Go.RowKit

/-- the pointer to a device in block p -/
abbrev ptr (p : Nat) : Value := .pointer (some ⟨p, 0, none⟩)

section
variable {w : World} {p L M : Nat} {D : Dv}
theorem IsDev.c0 (h : IsDev w p L M D) : w.cell? ⟨p, 0, none⟩ = some (.slice (some ⟨L, 0, none⟩) D.n D.n) := by obtain ⟨c, _, _, hb⟩ := h.own; rw [cell_of_row _ _ _ _ _ _ hb]; rfl
theorem IsDev.c1 (h : IsDev w p L M D) : w.cell? ⟨p, 1, none⟩ = some (.map (some M)) := by obtain ⟨c, _, _, hb⟩ := h.own; rw [cell_of_row _ _ _ _ _ _ hb]; rfl
theorem IsDev.c3 (h : IsDev w p L M D) : w.cell? ⟨p, 3, none⟩ = some (.bool D.gone) := by obtain ⟨c, _, _, hb⟩ := h.own; rw [cell_of_row _ _ _ _ _ _ hb]; rfl
theorem IsDev.c4 (h : IsDev w p L M D) : w.cell? ⟨p, 4, none⟩ = some (.int .i64 (D.spent : Int)) := by obtain ⟨c, _, _, hb⟩ := h.own; rw [cell_of_row _ _ _ _ _ _ hb]; rfl
theorem IsDev.fr (h : IsDev w p L M D) (i : Nat) : w.frozen? ⟨p, i, none⟩ = false := by obtain ⟨c, _, _, hb⟩ := h.own; exact frozen_of_row _ _ _ _ _ hb
end

theorem made_any {w : World} {p L M : Nat} {D : Dv} (h : IsDev w p L M D) : Calls Try.prog 33 #[ptr p] w fun e w' => e = .returned (.bool true) ∧ w' = w := by
  have c0 := h.c0
  have hn := h.ok.pos
  clear h
  generalize D.n = n at *
  have hq : (binOp .neq 55 (.slice (some ⟨L, 0, none⟩) n n) (.slice none 0 0)).run Try.prog w = .ok (.bool true) w := run_neq_slice_nil w 55 60 (some ⟨L, 0, none⟩) n n Try.underlying55
  go_enter Try.func33, Try.ntmps33
  go_wp2_with fail
  go_ret
  exact ⟨rfl, rfl⟩

theorem made_nil (w : World) : Calls Try.prog 33 #[.pointer none] w fun e w' => e = .returned (.bool false) ∧ w' = w := by
  go_enter Try.func33, Try.ntmps33
  go_wp2_with fail
  go_ret
  exact ⟨rfl, rfl⟩

theorem size_any {w : World} {p L M : Nat} {D : Dv} (h : IsDev w p L M D) : Calls Try.prog 28 #[ptr p] w fun e w' => e = .returned (.int .i64 (D.n : Int)) ∧ w' = w := by
  have hm := made_any h
  have c0 := h.c0
  clear h
  generalize D.n = n at *
  go_enter Try.func28, Try.ntmps28
  go_wp2_with (go_at_call 33; refine hm.mono ?_; rintro e w' ⟨rfl, rfl⟩)
  go_ret
  exact ⟨rfl, rfl⟩

theorem size_nil (w : World) : Calls Try.prog 28 #[.pointer none] w fun e w' => e = .returned (.int .i64 0) ∧ w' = w := by
  go_enter Try.func28, Try.ntmps28
  go_wp2_with (go_at_call 33; refine (made_nil w).mono ?_; rintro e w' ⟨rfl, rfl⟩)
  go_ret
  exact ⟨rfl, rfl⟩

theorem gone_any {w : World} {p L M : Nat} {D : Dv} (h : IsDev w p L M D) : Calls Try.prog 23 #[ptr p] w fun e w' => e = .returned (.bool D.gone) ∧ w' = w := by
  have hm := made_any h
  have c3 := h.c3
  clear h
  generalize D.gone = g at *
  go_enter Try.func23, Try.ntmps23
  go_wp2_with (go_at_call 33; refine hm.mono ?_; rintro e w' ⟨rfl, rfl⟩)
  go_ret
  exact ⟨rfl, rfl⟩

theorem gone_nil (w : World) : Calls Try.prog 23 #[.pointer none] w fun e w' => e = .returned (.bool true) ∧ w' = w := by
  go_enter Try.func23, Try.ntmps23
  go_wp2_with (go_at_call 33; refine (made_nil w).mono ?_; rintro e w' ⟨rfl, rfl⟩)
  go_ret
  exact ⟨rfl, rfl⟩

theorem spent_any {w : World} {p L M : Nat} {D : Dv} (h : IsDev w p L M D) : Calls Try.prog 24 #[ptr p] w fun e w' => e = .returned (.int .i64 (D.spent : Int)) ∧ w' = w := by
  have hm := made_any h
  have c4 := h.c4
  clear h
  generalize D.spent = s at *
  go_enter Try.func24, Try.ntmps24
  go_wp2_with (go_at_call 33; refine hm.mono ?_; rintro e w' ⟨rfl, rfl⟩)
  go_ret
  exact ⟨rfl, rfl⟩

theorem spent_nil (w : World) : Calls Try.prog 24 #[.pointer none] w fun e w' => e = .returned (.int .i64 0) ∧ w' = w := by
  go_enter Try.func24, Try.ntmps24
  go_wp2_with (go_at_call 33; refine (made_nil w).mono ?_; rintro e w' ⟨rfl, rfl⟩)
  go_ret
  exact ⟨rfl, rfl⟩

theorem has_any {w : World} {p L M : Nat} {D : Dv} (h : IsDev w p L M D) (at_ : Int) : Calls Try.prog 29 #[ptr p, .int .i64 at_] w fun e w' => e = .returned (.bool (D.has at_)) ∧ w' = w := by
  have hs := size_any h
  unfold Dv.has
  clear h
  generalize D.n = n at *
  by_cases h0 : 0 ≤ at_
  · have d0 : decide (0 ≤ at_) = true := decide_eq_true h0
    rw [d0]
    go_enter Try.func29, Try.ntmps29
    go_wp2_with (go_at_call 28; refine hs.mono ?_; rintro e w' ⟨rfl, rfl⟩)
    go_ret
    exact ⟨by simp, rfl⟩
  · have d0 : decide (0 ≤ at_) = false := decide_eq_false h0
    rw [d0]
    go_enter Try.func29, Try.ntmps29
    go_wp2_with (go_at_call 28; refine hs.mono ?_; rintro e w' ⟨rfl, rfl⟩)
    go_ret
    exact ⟨rfl, rfl⟩

/-- a cell of the struct is written -/
theorem IsDev.left_ {w : World} {p L M : Nat} {D : Dv} (h : IsDev w p L M D) (k : Int) (hk : -9223372036854775808 ≤ k ∧ k < 9223372036854775808) : IsDev (w.setCell ⟨p, 2, none⟩ (.int .i64 k)) p L M (D.budget k) := by
  have hl := h.lt
  have nm := h.nm
  obtain ⟨ok, ne, ⟨c, h1, h2, h3⟩, h4, h5⟩ := h
  exact ⟨ok.budget k hk.2, ne, ⟨k, rfl, hk.1, heap_setCell_same _ _ _ _ _ _ h3⟩, by rw [heap_setCell_other _ _ _ _ (Ne.symm nm.1)]; exact h4, h5.same (heap_setCell_other _ _ _ _ (Ne.symm nm.2.1))⟩

theorem budget_any {w : World} {p L M : Nat} {D : Dv} (h : IsDev w p L M D) (k : Int) (hk : -9223372036854775808 ≤ k ∧ k < 9223372036854775808) : Calls Try.prog 17 #[ptr p, .int .i64 k] w fun e w' => e = .returned (.tuple #[]) ∧ IsDev w' p L M (D.budget k) ∧ Turn (DS p L M) w w' := by
  have hm := made_any h
  have hr := Lib.hid (h.left_ k hk)
  have ht : Hid (Turn (DS p L M) w (w.setCell ⟨p, 2, none⟩ (.int .i64 k))) := (Turn.refl _ _).setCell _ _ (.inl (.inl rfl))
  obtain ⟨c, _, _, hb⟩ := h.own
  have c2 : w.cell? ⟨p, 2, none⟩ = some (.int .i64 c) := by rw [cell_of_row _ _ _ _ _ _ hb]; rfl
  have f2 := frozen_of_row w p 2 _ _ hb
  clear h hb
  go_enter Try.func17, Try.ntmps17
  go_wp2_with (go_at_call 33; refine hm.mono ?_; rintro e w' ⟨rfl, rfl⟩)
  go_end0
  exact ⟨rfl, hr.out, ht.out⟩

theorem budget_nil (w : World) (k : Int) : Calls Try.prog 17 #[.pointer none, .int .i64 k] w fun e w' => e = .returned (.tuple #[]) ∧ w' = w := by
  go_enter Try.func17, Try.ntmps17
  go_wp2_with (go_at_call 33; refine (made_nil w).mono ?_; rintro e w' ⟨rfl, rfl⟩)
  go_end0
  exact ⟨rfl, rfl⟩

end Go.Proofs.Ytaidjnpbjoncoaa
