/-
  So many top ones, begun one behind the other. Strings of bytes.
-/
import Derived.Test.YtmhnjmfcenbogaaAw14
namespace Go.Proofs.Ytmhnjmfcenbogaa
set_option maxRecDepth 100000
set_option linter.unusedVariables false
set_option linter.unusedSimpArgs false
open Go.RowKit Go.Shelf

theorem VtAt.vk {R : Rk Vr} {W : World} {A B : Option Addr} {n a m b : Nat} {t : Vt} (h : VtAt R W A n a B m b t) : t.L.length = m := by
  obtain ⟨vs, h⟩ := h.vers
  exact h.k
def topT : Nat → Tr
  | 0 => ⟨[], 0⟩
  | i + 1 => (topT i).begun (-1)
theorem top_len' (i : Nat) : (topT i).l.length = i := by
  induction i with
  | zero => rfl
  | succ i ih => show ((topT i).begun _).l.length = _; rw [len_begun, ih]
theorem top_c (i : Nat) : (topT i).c = (i : Int) := by
  induction i with
  | zero => rfl
  | succ i ih => show (topT i).c + 1 = _; rw [ih]; omega
theorem top_may (i : Nat) (hi : i < 60) : MayBegin (topT i) (-1) := ⟨.inl rfl, by rw [top_len']; omega, by rw [Tr.way_none (.inl (by decide))]; simp⟩
theorem top_good (i : Nat) (hi : i ≤ 60) : Good (topT i) := by
  induction i with
  | zero => exact good_nil
  | succ i ih => exact (ih (by omega)).begun (top_may i (by omega))
theorem top_tx (n : Nat) : ∀ j, j < n → ((topT n).tx j).p = -1 ∧ ((topT n).tx j).s = 1 := by
  induction n with
  | zero => intro j hj; omega
  | succ n ih =>
    intro j hj
    rcases Nat.lt_or_ge j n with h | h
    · have e : (topT (n + 1)).tx j = (topT n).tx j := by
        show ((topT n).begun _).tx j = _
        rw [tx_begun (by rw [top_len']; exact h)]
      rw [e]; exact ih j h
    · obtain rfl : j = n := by omega
      have h1 := tx_begun_new (T := topT j) (p := -1)
      rw [top_len'] at h1
      have e : (topT (j + 1)).tx j = _ := h1
      rw [e]; exact ⟨rfl, rfl⟩
theorem top_way (n j : Nat) (hj : j < n) : (topT n).way (j : Int) = [j] := by
  rw [Tr.way_nat (by rw [top_len']; exact hj), wayN_top (by unfold Tr.par; rw [(top_tx n j hj).1]; decide)]
theorem top_begin (A : Option Addr) (i k : Nat) (hi : i < 8) (w : World) (hT : TxAt w A (topT i).l) : Calls Try.prog 14 #[.agg #[.slice A i k, .int .i64 (i : Int)], .int .i64 (-1)] w fun e w' => ∃ A k, e = .returned (.tuple #[.agg #[.slice A (i + 1) k, .int .i64 ((i : Int) + 1)], .int .i64 (i : Int), .int .i64 0]) ∧ TxAt w' A (topT (i + 1)).l ∧ i + 1 ≤ k ∧ Below w.heap.size w w' := by
  refine (begin_any A (topT i) i k (i : Int) (-1) (top_len' i) (top_good i (by omega)) (top_c i) (by omega) w hT).mono ?_
  rintro e w1 ⟨hb, ⟨_, A, k, n, hn, rfl, htx, hnk⟩ | ⟨_, _, hno, _⟩⟩
  · exact ⟨A, k, by rw [hn, top_len', show ((topT i).begun (-1)).c = (i : Int) + 1 by show (topT i).c + 1 = _; rw [top_c]], htx, by rw [hn, top_len'] at hnk; exact hnk, hb⟩
  · exact absurd (top_may i (by omega)) hno.1
end Go.Proofs.Ytmhnjmfcenbogaa
