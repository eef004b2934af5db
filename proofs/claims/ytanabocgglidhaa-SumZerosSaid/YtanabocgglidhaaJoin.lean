/-
  Joins: the program's own, of any numbers.
-/
import Derived.Test.YtanabocgglidhaaTimes
namespace Go.Proofs.Ytanabocgglidhaa
open Go.RowKit Crc

theorem ofInt64_toNat (n : Int) : ((BitVec.ofInt 64 n).toNat : Int) = n % 18446744073709551616 := by
  rw [BitVec.toNat_ofInt]
  have : (0 : Int) ≤ n % ((2 : Nat) ^ 64 : Nat) := Int.emod_nonneg _ (by decide)
  rw [Int.toNat_of_nonneg this]
  rfl

/-- 'n & 1' -/
theorem and1 (n : Int) : bits .and .i64 n 1 = n % 2 := by
  show IntKind.i64.wrap ((BitVec.ofInt 64 n &&& BitVec.ofInt 64 1).toNat : Int) = _
  have h := ofInt64_toNat n
  rw [BitVec.toNat_and, show (BitVec.ofInt 64 1).toNat = 1 from rfl, nat_mask1]
  rw [IntWalk.i64_in _ ⟨by omega, by omega⟩]
  omega

theorem join_power : word (halfs (8 * 1) one) = 8388608 := by decide
theorem join_twice (p : Nat) : times (halfs (8 * p) one) (halfs (8 * p) one) = halfs (8 * (2 * p)) one := by
  rw [times_halfs, ← halfs_add]
  congr 1
  omega
theorem join_once (c p : Nat) (a : BitVec 32) : times (halfs (8 * c) a) (halfs (8 * p) one) = halfs (8 * (c + p)) a := by
  rw [times_halfs, ← halfs_add]
  congr 1
  omega

set_option maxHeartbeats 400000 in
theorem join_any (a b : BitVec 32) (n : Int) (hn : n ≤ 9223372036854775807) : Says 19 #[.int .u32 (word a), .int .u32 (word b), .int .i64 n] (.int .u32 (word (joinB a b n))) := by
  intro w
  have hw := join_power
  generalize hP : halfs (8 * 1) one = p0 at hw
  have HP0 := Lib.hid hP
  have hw' := hw.symm
  clear hP hw
  go_enter Try.func19, Try.ntmps19
  go_wp2_with fail
  go_loopw [0, 2, 7] (fun x m y wr => ∃ (k c p : Nat) (r q : BitVec 32), x = .int .u32 (word r) ∧ (m = .int .i64 (k : Int) ∨ (m = .int .i64 n ∧ n < 0 ∧ k = 0)) ∧ y = .int .u32 (word q) ∧ Hid (r = halfs (8 * c) a) ∧ Hid (q = halfs (8 * p) one) ∧ k ≤ 9223372036854775807 ∧ Hid (c + p * k = n.toNat) ∧ wr = w)
    (fun _ m _ _ => (intOf m).toNat)
  case atStart =>
    rcases Int.lt_or_le n 0 with h | h
    · exact ⟨0, 0, 1, a, p0, rfl, .inr ⟨rfl, h, rfl⟩, by rw [hw'], rfl, HP0.out.symm, by omega, Lib.hid (by omega), rfl⟩
    · exact ⟨n.toNat, 0, 1, a, p0, rfl, .inl (by rw [Int.toNat_of_nonneg h]), by rw [hw'], rfl, HP0.out.symm, by omega, Lib.hid (by omega), rfl⟩
  case round =>
    clear HP0 hw'
    obtain ⟨k, c, p, r, q, rfl, hm, rfl, HR, HQ, hk, HC, rfl⟩ := hrel
    obtain ⟨hr0, hr1⟩ := word_bd r
    obtain ⟨hq0, hq1⟩ := word_bd q
    have last : (k = 0) → r ^^^ b = joinB a b n := fun h0 => by
      subst h0
      unfold joinB
      have := HC.out
      rw [Nat.mul_zero, Nat.add_zero] at this
      rw [← this, ← HR.out]
    rcases hm with rfl | ⟨rfl, hneg, hk0⟩
    · rcases Nat.eq_zero_or_pos k with hz | hz
      · have hx := word_xor r b
        have HL := Lib.hid (last hz)
        subst hz
        clear last
        go_wp2_with fail
        go_ret
        exact ⟨ret_u32 HL.out, rfl⟩
      · clear last
        have ha := and1 (k : Int)
        rcases Nat.mod_two_eq_zero_or_one k with h2 | h2
        · have h3 : (k : Int) % 2 = 0 := by omega
          rw [h3] at ha
          have H2 := Lib.hid h2
          clear h2 h3
          go_wp2_with (go_at_call 27; refine (times_any q q _).mono ?_; rintro e w' ⟨rfl, rfl⟩)
          go_roundw
          case rel =>
            refine ⟨k / 2, c, 2 * p, r, times q q, rfl, .inl (by go_num), rfl, HR, ?_, by omega, ?_, by trivial⟩
            · show _ = _
              rw [HQ.out, join_twice]
            · show _ = _
              rw [← HC.out]
              have := H2.out
              obtain ⟨j, rfl⟩ : ∃ j, k = 2 * j := ⟨k / 2, by omega⟩
              rw [show 2 * j / 2 = j from by omega, Nat.mul_comm 2 p, Nat.mul_assoc]
          case measure => simp [intOf]; omega
        · have h3 : (k : Int) % 2 = 1 := by omega
          rw [h3] at ha
          have H2 := Lib.hid h2
          clear h2 h3
          go_wp2_with (go_at_call 27; refine (times_any _ q _).mono ?_; rintro e w' ⟨rfl, rfl⟩)
          go_roundw
          case rel =>
            refine ⟨k / 2, c + p, 2 * p, times r q, times q q, rfl, .inl (by go_num), rfl, ?_, ?_, by omega, ?_, by trivial⟩
            · show _ = _
              rw [HR.out, HQ.out, join_once]
            · show _ = _
              rw [HQ.out, join_twice]
            · show _ = _
              rw [← HC.out]
              have := H2.out
              obtain ⟨j, rfl⟩ : ∃ j, k = 2 * j + 1 := ⟨k / 2, by omega⟩
              rw [show (2 * j + 1) / 2 = j from by omega, Nat.mul_add, Nat.mul_one, Nat.mul_comm 2 p, Nat.mul_assoc]
              omega
          case measure => simp [intOf]; omega
    · have hx := word_xor r b
      have HL := Lib.hid (last hk0)
      clear last hk0
      go_wp2_with fail
      go_ret
      exact ⟨ret_u32 HL.out, rfl⟩

end Go.Proofs.Ytanabocgglidhaa
