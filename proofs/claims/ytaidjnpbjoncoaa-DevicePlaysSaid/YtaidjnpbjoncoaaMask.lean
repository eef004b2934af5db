/-
  The low bits of a number; one byte out of a number.
-/
import Derived.Laws.BitsLemmas
import Derived.Test.YtaidjnpbjoncoaaLawWake
namespace Go.Proofs.Ytaidjnpbjoncoaa
open Go.RowKit

theorem and_mask (n : Int) (m : Int) (k : Nat) (hm : (BitVec.ofInt 64 m).toNat = 2 ^ k - 1) (hk : k ≤ 4) : bits .and .i64 n m = n % ((2 ^ k : Nat) : Int) := by
  have key : (BitVec.ofInt 64 n &&& BitVec.ofInt 64 m).toNat = (n % ((2 ^ 64 : Nat) : Int)).toNat % 2 ^ k := by
    rw [BitVec.toNat_and, BitVec.toNat_ofInt, hm, Nat.and_two_pow_sub_one_eq_mod]
  show IntKind.i64.wrap ((BitVec.ofInt 64 n &&& BitVec.ofInt 64 m).toNat : Nat) = _
  rw [key, IntKind.wrap_i64]
  rcases k with _ | _ | _ | _ | _ | k
  all_goals omega
theorem and1 (n : Int) : bits .and .i64 n 1 = n % 2 := and_mask n 1 1 (by decide) (by omega)
theorem and3 (n : Int) : bits .and .i64 n 3 = n % 4 := and_mask n 3 2 (by decide) (by omega)
theorem and7 (n : Int) : bits .and .i64 n 7 = n % 8 := and_mask n 7 3 (by decide) (by omega)
theorem and15 (n : Int) : bits .and .i64 n 15 = n % 16 := and_mask n 15 4 (by decide) (by omega)

/-- a number's low bits, named -/
theorem low1 (n : Int) : ∃ k : Nat, k < 2 ∧ bits .and .i64 n 1 = (k : Int) := ⟨(n % 2).toNat, by omega, by rw [and1]; omega⟩
theorem low3 (n : Int) : ∃ k : Nat, k < 4 ∧ bits .and .i64 n 3 = (k : Int) := ⟨(n % 4).toNat, by omega, by rw [and3]; omega⟩
theorem low7 (n : Int) : ∃ k : Nat, k < 8 ∧ bits .and .i64 n 7 = (k : Int) := ⟨(n % 8).toNat, by omega, by rw [and7]; omega⟩
theorem low15 (n : Int) : ∃ k : Nat, k < 16 ∧ bits .and .i64 n 15 = (k : Int) := ⟨(n % 16).toNat, by omega, by rw [and15]; omega⟩

end Go.Proofs.Ytaidjnpbjoncoaa
