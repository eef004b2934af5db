/-
  How many digits of two a number has, as the document's own loop counts them.
-/
import Derived.Test.YtbdhmjgnklkopaaRef
import Derived.Test.YtbdhmjgnklkopaaWhole
namespace Go.Proofs.Ytbdhmjgnklkopaa
open Go.RowKit Fm

def dgt (n : Nat) : Nat := if n = 0 then 0 else n.log2 + 1

theorem dgt_zero : dgt 0 = 0 := rfl
theorem dgt_half (n : Nat) (h : n ≠ 0) : dgt n = dgt (n / 2) + 1 := by
  unfold dgt
  rw [if_neg h, Nat.log2_def]
  by_cases h2 : 2 ≤ n
  · rw [if_pos h2, if_neg (by omega)]
  · rw [if_neg h2, if_pos (by omega)]
theorem dgt_le (n : Nat) (h : n < 18446744073709551616) : dgt n ≤ 64 := by
  unfold dgt
  split
  · omega
  · next h0 => have := log2_le (m := n) (k := 63) h0 h; omega

set_option maxHeartbeats 400000 in
theorem digits_any (n : Nat) (hn : n < 18446744073709551616) : Says 45 #[.int .u64 (n : Int)] (.int .i64 ((dgt n : Nat) : Int)) := by
  intro w
  have hd := dgt_le n hn
  go_enter Try.func45, Try.ntmps45
  go_wp2_with fail
  go_loopw [0, 3] (fun x k wr => ∃ (j y : Nat), x = .int .u64 (y : Int) ∧ k = .int .i64 (j : Int) ∧ y ≤ 18446744073709551615 ∧ Hid (j + dgt y = dgt n) ∧ j ≤ 64 ∧ wr = w)
    (fun x _ _ => (intOf x).toNat)
  case atStart => exact ⟨0, n, rfl, rfl, by omega, Lib.hid (by omega), by omega, rfl⟩
  case round =>
    obtain ⟨j, y, rfl, rfl, hy, HJ, hj, rfl⟩ := hrel
    by_cases h : y = 0
    · subst h
      go_wp2_with fail
      go_ret
      refine ⟨?_, rfl⟩
      have := HJ.out
      rw [dgt_zero, Nat.add_zero] at this
      rw [← this]
      rfl
    · have HY := Lib.hid (dgt_half y h)
      have h1 : 1 ≤ y := by omega
      clear h
      go_wp2_with fail
      go_roundw
      case rel => exact ⟨j + 1, y / 2, by go_num, by go_num, by omega, Lib.hid (by have := HJ.out; have := HY.out; omega), by have := HJ.out; have := HY.out; omega, by first | rfl | trivial⟩
      case measure => simp [intOf]; omega

end Go.Proofs.Ytbdhmjgnklkopaa
