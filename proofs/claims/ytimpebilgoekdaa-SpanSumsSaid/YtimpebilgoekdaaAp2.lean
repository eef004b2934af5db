/-
  Slices of ints, cut: 'l[k:]', 'l[:k]', in every world.
-/
import Derived.Test.YtimpebilgoekdaaAp
namespace Go.Proofs.Ytimpebilgoekdaa
set_option maxRecDepth 100000
set_option linter.unusedVariables false
open Go.RowKit

/-- 'l[k:]' of ints, in every world -/
theorem run_cut_from {W : World} {A : Option Addr} {n c k : Nat} {l : List Int} (hl : Ls W A n l) (hc : n ≤ c) (hs : c = 0 ∨ Sp A) (hk : k ≤ n) :
    ∃ A' n' c', (∀ V, Below W.heap.size W V → Ls V A' n' (l.drop k)) ∧ (l.drop k = [] ∨ Sp A') ∧
      (∀ V : World, (Instr.slice 22 (.slice A n c) (some (.int .i64 (k : Int))) none none).run Try.prog V = .ok (.slice A' n' c') V) ∧
      (∀ V : World, (Instr.sliceAt 22 (.slice A n c) (some (.int .i64 (k : Int))) none none).run Try.prog V = .ok (.slice A' n' c') V) := by
  have hsz : ∀ V : World, (Go.sizeOf (Try.prog.elem 22)).run Try.prog V = .ok 1 V := fun V => Try.sizeOf3 V
  have hrun : ∀ V : World, (Instr.slice 22 (.slice A n c) (some (.int .i64 (k : Int))) none none).run Try.prog V = .ok (sliced A k n c 1) V := fun V => by
    rw [run_slice_l V 22 A n c Try.underlying22 .i64 (k : Int) (by omega) (by omega), hsz V]
    simp [Result.andThen]
  have hlen : (l.drop k).length = n - k := by rw [List.length_drop, hl.len]
  have hok : ∀ x ∈ l.drop k, okI x := fun x hx => hl.ok x (List.mem_of_mem_drop hx)
  obtain ⟨A', hA1, hA2, hA3⟩ : ∃ A', RI.At W A' (l.drop k) ∧ (l.drop k = [] ∨ Sp A') ∧ sliced A k n c 1 = .slice A' (n - k) (c - k) := by
    unfold sliced
    by_cases e : c = k
    · have h0 : l.drop k = [] := List.eq_nil_of_length_eq_zero (by omega)
      exact ⟨A, .inl h0, .inl h0, by rw [if_pos e]⟩
    · rcases hs with h | h
      · omega
      · rcases h with rfl | ⟨b, o, rfl⟩
        · refine ⟨none, ?_, .inr (.inl rfl), by rw [if_neg e]; rfl⟩
          rcases hl.at_ with h | ⟨b, o, e, _⟩
          · rw [h]; exact .inl (by simp)
          · cases e
        · refine ⟨some ⟨b, o + k, none⟩, ?_, .inr (.inr ⟨_, _, rfl⟩), by rw [if_neg e, Nat.mul_one, Option.map_some, addr_add]⟩
          have h1 := hl.at_
          rw [← List.take_append_drop k l] at h1
          have h2 := h1.right ri_ok (n := k) (by rw [List.length_take, hl.len]; omega)
          rw [show k * RI.m = k from by show k * 1 = k; omega] at h2
          exact h2
  refine ⟨A', n - k, c - k, fun V hV => ⟨hlen, hok, hA1.below hV⟩, hA2, fun V => by rw [hrun V, hA3], fun V => ?_⟩
  rw [run_sliceAt_slice V 22 _ _ _ _ Try.underlying22, hrun V, hA3]
/-- 'l[:k]' -/
theorem run_cut_to {W : World} {A : Option Addr} {n c k : Nat} {l : List Int} (hl : Ls W A n l) (hc : n ≤ c) (hs : c = 0 ∨ Sp A) (hk : k ≤ n) :
    ∃ A', (∀ V, Below W.heap.size W V → Ls V A' k (l.take k)) ∧ (l.take k = [] ∨ Sp A') ∧
      (∀ V : World, (Instr.slice 22 (.slice A n c) none (some (.int .i64 (k : Int))) none).run Try.prog V = .ok (.slice A' k c) V) ∧
      (∀ V : World, (Instr.sliceAt 22 (.slice A n c) none (some (.int .i64 (k : Int))) none).run Try.prog V = .ok (.slice A' k c) V) := by
  have hsz : ∀ V : World, (Go.sizeOf (Try.prog.elem 22)).run Try.prog V = .ok 1 V := fun V => Try.sizeOf3 V
  have hrun : ∀ V : World, (Instr.slice 22 (.slice A n c) none (some (.int .i64 (k : Int))) none).run Try.prog V = .ok (sliced A 0 k c 1) V := fun V => by
    rw [run_slice_h V 22 A n c Try.underlying22 .i64 (k : Int) (by omega) (by omega), hsz V]
    simp [Result.andThen]
  have hlen : (l.take k).length = k := by rw [List.length_take, hl.len]; omega
  have hok : ∀ x ∈ l.take k, okI x := fun x hx => hl.ok x (List.mem_of_mem_take hx)
  obtain ⟨A', hA1, hA2, hA3⟩ : ∃ A', RI.At W A' (l.take k) ∧ (l.take k = [] ∨ Sp A') ∧ sliced A 0 k c 1 = .slice A' k c := by
    unfold sliced
    by_cases e : c = 0
    · have h0 : l.take k = [] := List.eq_nil_of_length_eq_zero (by omega)
      exact ⟨A, .inl h0, .inl h0, by rw [if_pos e]; rfl⟩
    · rcases hs with h | h
      · omega
      · refine ⟨A, hl.at_.take k, .inr h, ?_⟩
        rw [if_neg e]
        rcases h with rfl | ⟨b, o, rfl⟩
        · rfl
        · rw [Nat.zero_mul, Option.map_some, addr_add]; rfl
  refine ⟨A', fun V hV => ⟨hlen, hok, hA1.below hV⟩, hA2, fun V => by rw [hrun V, hA3], fun V => ?_⟩
  rw [run_sliceAt_slice V 22 _ _ _ _ Try.underlying22, hrun V, hA3]

end Go.Proofs.Ytimpebilgoekdaa
