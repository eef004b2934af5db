/-
  The document's device in memory: two rows of strings behind a struct; its small calls.
-/
import Derived.Test.YtaidjnpbjoncoaaDevCrash
namespace Go.Proofs.Ytaidjnpbjoncoaa
open Go.RowKit

def strV (l : List UInt8) : Value := .string ⟨l.toArray⟩

/-- n strings in a row, and maybe more room -/
def StrRow (w : World) (g n : Nat) (F : Nat → List UInt8) : Prop :=
  ∃ cs : Array Value, w.heap[g]? = some (.cells cs 9 (0, 0)) ∧ n ≤ cs.size ∧ ∀ i, i < n → cs[i]? = some (strV (F i))

section
variable {w w' : World} {g n : Nat} {F G : Nat → List UInt8}
theorem StrRow.same (h : StrRow w g n F) (e : w'.heap[g]? = w.heap[g]?) : StrRow w' g n F := by
  obtain ⟨cs, hg, r⟩ := h
  exact ⟨cs, e.trans hg, r⟩
theorem StrRow.lt (h : StrRow w g n F) : g < w.heap.size := by obtain ⟨cs, hg, _⟩ := h; exact lt_of_block hg
theorem StrRow.cell (h : StrRow w g n F) {i : Nat} (hi : i < n) : w.cell? ⟨g, i, none⟩ = some (strV (F i)) := by
  obtain ⟨cs, hg, _, hc⟩ := h
  rw [cell_of_row _ _ _ _ _ _ hg]
  exact hc i hi
theorem StrRow.fr (h : StrRow w g n F) (i : Nat) : w.frozen? ⟨g, i, none⟩ = false := by obtain ⟨cs, hg, _⟩ := h; exact frozen_of_row _ _ _ _ _ hg
theorem StrRow.set (h : StrRow w g n F) (i : Nat) (s : List UInt8) (hG : ∀ j, j < n → G j = if j = i then s else F j) : StrRow (w.setCell ⟨g, i, none⟩ (strV s)) g n G := by
  obtain ⟨cs, hg, hn, hc⟩ := h
  refine ⟨_, heap_setCell_same _ _ _ _ _ _ hg, by simpa using hn, fun j hj => ?_⟩
  rw [Array.getElem?_setIfInBounds, hG j hj]
  by_cases e : i = j
  · subst e
    rw [if_pos rfl, if_pos (by omega), if_pos rfl]
  · rw [if_neg e, if_neg (fun h => e h.symm)]
    exact hc j hj
theorem StrRow.eq (h : StrRow w g n F) (hG : ∀ j, j < n → F j = G j) : StrRow w g n G := by
  obtain ⟨cs, hg, hn, hc⟩ := h
  exact ⟨cs, hg, hn, fun i hi => by rw [← hG i hi]; exact hc i hi⟩
end

/-- the document's device in memory: its struct in block q, its strings in blocks a and b -/
structure IsRef (w : World) (q a b c : Nat) (D : Dv) : Prop where
  ok : D.Ok
  ne : q ≠ a ∧ q ≠ b ∧ a ≠ b
  own : w.heap[q]? = some (.cells #[.slice (some ⟨a, 0, none⟩) D.n c, .slice (some ⟨b, 0, none⟩) D.n D.n, .int .i64 D.left, .bool D.gone, .int .i64 (D.spent : Int)] 44 (0, 0))
  laid : StrRow w a D.n D.laid
  late : StrRow w b D.n fun i => (D.late i).getD []

section
variable {w w' : World} {q a b c : Nat} {D : Dv}
theorem IsRef.turn (h : IsRef w q a b c D) {S : Nat → Prop} (ht : Turn S w w') (hq : ¬ S q) (ha : ¬ S a) (hb : ¬ S b) : IsRef w' q a b c D :=
  ⟨h.ok, h.ne, (ht.block q (lt_of_block h.own) hq).trans h.own, h.laid.same (ht.block a h.laid.lt ha), h.late.same (ht.block b h.late.lt hb)⟩
theorem IsRef.lt (h : IsRef w q a b c D) : q < w.heap.size ∧ a < w.heap.size ∧ b < w.heap.size := ⟨lt_of_block h.own, h.laid.lt, h.late.lt⟩
theorem IsRef.c0 (h : IsRef w q a b c D) : w.cell? ⟨q, 0, none⟩ = some (.slice (some ⟨a, 0, none⟩) D.n c) := by rw [cell_of_row _ _ _ _ _ _ h.own]; rfl
theorem IsRef.c1 (h : IsRef w q a b c D) : w.cell? ⟨q, 1, none⟩ = some (.slice (some ⟨b, 0, none⟩) D.n D.n) := by rw [cell_of_row _ _ _ _ _ _ h.own]; rfl
theorem IsRef.c2 (h : IsRef w q a b c D) : w.cell? ⟨q, 2, none⟩ = some (.int .i64 D.left) := by rw [cell_of_row _ _ _ _ _ _ h.own]; rfl
theorem IsRef.c3 (h : IsRef w q a b c D) : w.cell? ⟨q, 3, none⟩ = some (.bool D.gone) := by rw [cell_of_row _ _ _ _ _ _ h.own]; rfl
theorem IsRef.c4 (h : IsRef w q a b c D) : w.cell? ⟨q, 4, none⟩ = some (.int .i64 (D.spent : Int)) := by rw [cell_of_row _ _ _ _ _ _ h.own]; rfl
theorem IsRef.fr (h : IsRef w q a b c D) (i : Nat) : w.frozen? ⟨q, i, none⟩ = false := frozen_of_row _ _ _ _ _ h.own
theorem IsRef.left_ (h : IsRef w q a b c D) (k : Int) (hk : k < 9223372036854775808) : IsRef (w.setCell ⟨q, 2, none⟩ (.int .i64 (max k (-1)))) q a b c (D.budget k) := by
  refine ⟨h.ok.budget k hk, h.ne, heap_setCell_same _ _ _ _ _ _ h.own, h.laid.same (heap_setCell_other _ _ _ _ (Ne.symm h.ne.1)), h.late.same (heap_setCell_other _ _ _ _ (Ne.symm h.ne.2.1))⟩
theorem IsRef.die_ (h : IsRef w q a b c D) : IsRef (w.setCell ⟨q, 3, none⟩ (.bool true)) q a b c D.die :=
  ⟨h.ok.die, h.ne, heap_setCell_same _ _ _ _ _ _ h.own, h.laid.same (heap_setCell_other _ _ _ _ (Ne.symm h.ne.1)), h.late.same (heap_setCell_other _ _ _ _ (Ne.symm h.ne.2.1))⟩
theorem IsRef.more_ (h : IsRef w q a b c D) : IsRef ((w.setCell ⟨q, 2, none⟩ (.int .i64 (max (D.left - 1) (-1)))).setCell ⟨q, 4, none⟩ (.int .i64 (D.spent + 1 : Int))) q a b c D.more :=
  ⟨h.ok.more, h.ne, heap_setCell_same _ _ _ _ _ _ (heap_setCell_same _ _ _ _ _ _ h.own), h.laid.same ((heap_setCell_other _ _ _ _ (Ne.symm h.ne.1)).trans (heap_setCell_other _ _ _ _ (Ne.symm h.ne.1))),
    h.late.same ((heap_setCell_other _ _ _ _ (Ne.symm h.ne.2.1)).trans (heap_setCell_other _ _ _ _ (Ne.symm h.ne.2.1)))⟩
end

theorem refbudget_any {w : World} {q a b c : Nat} {D : Dv} (h : IsRef w q a b c D) (k : Int) (hk : -9223372036854775808 ≤ k ∧ k < 9223372036854775808) : Calls Try.prog 18 #[ptr q, .int .i64 k] w fun e w' => e = .returned (.tuple #[]) ∧ IsRef w' q a b c (D.budget k) ∧ Turn (DS q a b) w w' := by
  have hr := Lib.hid (h.left_ k hk.2)
  have ht : Hid (Turn (DS q a b) w (w.setCell ⟨q, 2, none⟩ (.int .i64 (max k (-1))))) := (Turn.refl _ _).setCell _ _ (.inl (.inl rfl))
  have c2 := h.c2
  have f2 := h.fr 2
  clear h
  go_enter Try.func18, Try.ntmps18
  go_wp2_with fail
  go_end0
  exact ⟨rfl, hr.out, ht.out⟩

/-- what 'spend' tells -/
theorem refspend_any {w : World} {q a b c : Nat} {D : Dv} (h : IsRef w q a b c D) (hf : D.spent ≤ 1000000) : Calls Try.prog 31 #[ptr q] w fun e w' => e = .returned (.bool (!decide (D.left = 0))) ∧ IsRef w' q a b c D.spend ∧ Turn (· = q) w w' := by
  have hd := h.die_
  have hm := h.more_
  have c2 := h.c2
  have c4 := h.c4
  have f2 := h.fr 2
  have f3 := h.fr 3
  have f4 := h.fr 4
  have c3 := h.c3
  have hl := h.ok.left
  have hl' := h.ok.left'
  unfold Dv.spend
  by_cases h0 : D.left = 0
  · rw [if_pos h0, decide_eq_true h0]
    have HD := Lib.hid hd
    rw [h0] at c2
    clear hd hm h hf hl hl' h0
    go_enter Try.func31, Try.ntmps31
    go_wp2_with fail
    go_ret
    exact ⟨rfl, HD.out, (Turn.refl (· = q) w).setCell ⟨q, 3, none⟩ _ (.inl rfl)⟩
  · rw [if_neg h0, decide_eq_false h0]
    have HM := Lib.hid hm
    generalize D.left = x at *
    generalize D.spent = s at *
    have e0 : (x == 0) = false := by simp; exact h0
    clear hd hm h
    go_enter Try.func31, Try.ntmps31
    go_wp2_with fail
    go_ret
    exact ⟨rfl, HM.out, ((Turn.refl (· = q) w).setCell ⟨q, 2, none⟩ _ (.inl rfl)).setCell ⟨q, 4, none⟩ _ (.inl rfl)⟩

end Go.Proofs.Ytaidjnpbjoncoaa
