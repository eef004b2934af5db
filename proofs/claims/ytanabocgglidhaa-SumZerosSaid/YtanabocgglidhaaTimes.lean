/-
  Two numbers multiplied, and joins: the program's own, for any numbers.
-/
import Derived.Test.YtanabocgglidhaaHalf
import Derived.Deep.LoopGhost
namespace Go.Proofs.Ytanabocgglidhaa
open Go.RowKit Crc

theorem top_and (v : BitVec 32) : bits .and .u32 (word v) 2147483648 = if v.getLsbD 31 then 2147483648 else 0 := by
  have h := u32_and_nat v.toNat 2147483648 v.isLt (by decide)
  refine h.trans ?_
  rw [show (2147483648 : Nat) = 2 ^ 31 from by decide, nat_bit, ← BitVec.testBit_toNat, Nat.testBit_eq_decide_div_mod_eq]
  by_cases h1 : v.toNat / 2 ^ 31 % 2 = 1
  · rw [if_pos (by simpa using h1), h1]; rfl
  · rw [if_neg (by simpa using h1), show v.toNat / 2 ^ 31 % 2 = 0 from by omega]; rfl

theorem word_zero (v : BitVec 32) (h : v ≠ 0#32) : (word v != 0) = true := by
  rw [bne_iff_ne]
  intro e
  exact h (word_inj (b := 0#32) e)
theorem word_of_zero : (word 0#32 != 0) = false := rfl

theorem word_shl (v : BitVec 32) : IntKind.u32.wrap (word v * 2) = word (v <<< (1 : Nat)) := by
  rw [IntKind.wrap_u32']
  unfold word
  rw [BitVec.toNat_shiftLeft, Nat.shiftLeft_eq]
  have := v.isLt
  omega

set_option maxHeartbeats 400000 in
theorem times_any (a b : BitVec 32) : Says 27 #[.int .u32 (word a), .int .u32 (word b)] (.int .u32 (word (times a b))) := by
  intro w
  obtain ⟨ha0, ha1⟩ := word_bd a
  obtain ⟨hb0, hb1⟩ := word_bd b
  go_enter Try.func27, Try.ntmps27
  go_wp2_with fail
  go_loopg [0, 1, 5] 32 (fun k x y o wr => ∃ (p q r : BitVec 32), x = .int .u32 (word p) ∧ y = .int .u32 (word q) ∧ o = .int .u32 (word r) ∧ k ≤ 32 ∧ Hid (p <<< k = 0#32) ∧ Hid (r ^^^ tim k q p = times a b) ∧ wr = w)
  case atStart => exact ⟨a, b, 0#32, rfl, rfl, rfl, by omega, shl_all a, BitVec.zero_xor, rfl⟩
  case round =>
    obtain ⟨p, q, r, rfl, rfl, rfl, hk, HP, HR, rfl⟩ := hrel
    obtain ⟨hp0, hp1⟩ := word_bd p
    have hs := word_shl p
    by_cases hz : p = 0#32
    · have e1 := word_of_zero
      rw [← hz] at e1
      have HZ := Lib.hid hz
      clear hz hs
      go_wp2_with fail
      all_goals
        go_ret
        refine ⟨ret_u32 ?_, rfl⟩
        have h := HR.out
        rw [HZ.out, tim_zero, BitVec.xor_zero] at h
        exact h
    · have e1 := word_zero p hz
      have HK : Hid (gk ≠ 0) := fun h => hz (by have := HP.out; subst h; simpa using this)
      have ht := top_and p
      cases hv : p.getLsbD 31
      all_goals
        rw [hv] at ht
        have HV := Lib.hid hv
        have HZ := Lib.hid hz
        clear hv hz
      · simp only [Bool.false_eq_true, if_false] at ht
        go_wp2_with (go_at_call 23; refine (halved_any q _).mono ?_; rintro e w' ⟨rfl, rfl⟩)
        all_goals
          have hk0 := HK.out
          have hkk : gk = (gk - 1) + 1 := by omega
          go_roundg (gk - 1)
          case measure => omega
          case rel =>
            refine ⟨p <<< (1 : Nat), half q, r, rfl, rfl, rfl, by omega, ?_, ?_, rfl⟩
            · show _ = _
              rw [← BitVec.shiftLeft_add, Nat.add_comm, ← hkk]
              exact HP.out
            · show _ = _
              rw [← HR.out]
              congr 1
              conv => rhs; rw [hkk]
              rw [tim, HV.out]
              simp
      · simp only [if_true] at ht
        have hx := word_xor r q
        go_wp2_with (go_at_call 23; refine (halved_any q _).mono ?_; rintro e w' ⟨rfl, rfl⟩)
        all_goals
          have hk0 := HK.out
          have hkk : gk = (gk - 1) + 1 := by omega
          go_roundg (gk - 1)
          case measure => omega
          case rel =>
            refine ⟨p <<< (1 : Nat), half q, r ^^^ q, rfl, rfl, rfl, by omega, ?_, ?_, rfl⟩
            · show _ = _
              rw [← BitVec.shiftLeft_add, Nat.add_comm, ← hkk]
              exact HP.out
            · show _ = _
              rw [← HR.out, BitVec.xor_assoc]
              congr 1
              conv => rhs; rw [hkk]
              rw [tim, HV.out]
              simp

end Go.Proofs.Ytanabocgglidhaa
