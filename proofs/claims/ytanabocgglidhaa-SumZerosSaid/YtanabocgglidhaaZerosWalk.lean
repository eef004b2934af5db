/-
  SumZeros: the walk: nothing has the sum 0; a lot of nothing behind bytes is a join with the sum of nothing.
-/
import Derived.Test.YtanabocgglidhaaLies
import Derived.Test.YtanabocgglidhaaJoin
namespace Go.Proofs.Ytanabocgglidhaa
open Go.RowKit Crc Wm

/-- 'n & 511' -/
theorem and511 (n : Int) : bits .and .i64 n 511 = n % 512 := by
  show IntKind.i64.wrap ((BitVec.ofInt 64 n &&& BitVec.ofInt 64 511).toNat : Int) = _
  have h := ofInt64_toNat n
  rw [BitVec.toNat_and, show (BitVec.ofInt 64 511).toNat = 2 ^ 9 - 1 from rfl, Nat.and_two_pow_sub_one_eq_mod]
  rw [IntWalk.i64_in _ ⟨by omega, by omega⟩]
  omega

theorem of_nil (w : World) : Calls Try.prog 15 #[.slice none 0 0] w fun e w' => e = .returned (.int .u32 0) ∧ Below w.heap.size w w' := by
  have h := of_any none 0 0 [] rfl w (Rd.nil _ _ _) (by omega)
  rw [ofB_nil, show word 0#32 = 0 from rfl] at h
  exact h
theorem more_nil7 (w : World) : Calls Try.prog 13 #[.int .u32 7, .slice none 0 0] w fun e w' => e = .returned (.int .u32 7) ∧ Below w.heap.size w w' := by
  have h := more_any 7#32 none 0 0 [] rfl w (Rd.nil _ _ _) (by omega)
  rw [more_nil, show word 7#32 = 7 from rfl] at h
  exact h

set_option maxHeartbeats 2000000 in
theorem zeros_walk (A : Option Addr) (c L : Nat) (l : List UInt8) (HL : Hid (l.length = L)) (n : Int) (w : World) (hr : Rd w w.heap.size A l) (hl : L ≤ c) :
    Calls Try.prog 7 #[.slice A L c, .int .i64 n] w fun e w' => e = .returned (.bool true) ∧ Below w.heap.size w w' := by
  by_cases hlen : L ≤ 1000
  · obtain ⟨k, hk⟩ : ∃ k : Nat, (k : Int) = n % 512 := ⟨(n % 512).toNat, by omega⟩
    have hk7 : k ≤ 511 := by omega
    have hand : bits .and .i64 n 511 = (k : Int) := by rw [and511, hk]
    clear hk
    go_enter Try.func7, Try.ntmps7
    go_wp2_with fail
    refine (awake_any w).mono ?_
    rintro e w0 ⟨rfl, hb0⟩
    have hB0 := hb0.size
    obtain ⟨i0, hi, hz0, hz1, hz2⟩ := info_parts byte_facts
    go_wp2_with (refine wpList_make_full _ rfl _ _ _ rfl w.heap.size 5 i0 _ 1 Try.underlying22 hi hz0 hz1 _ _ _ _ k rfl rfl rfl rfl (by rw [hz2]; omega) (by unfold maxLen; omega) hB0 ?_; intro w1 hown1 hg1)
    have ho1 := made_zeros hown1
    have HB1 := Lib.hid (hb0.grown hg1 hB0 (by simp))
    have lz := ho1.lies
    have lb : Lies w1 A c L l := ⟨hr.up HB1.out, HL.out, hl⟩
    have HLB := Lib.hid lb
    have HLZ := Lib.hid lz
    have HR : Hid ((List.replicate k (0 : UInt8)).length = k) := Lib.hid (by simp)
    have HJ := Lib.hid (more_zeros (ofB l) k)
    generalize List.replicate k (0 : UInt8) = z at ho1 lz HLZ HR HJ
    have HJ2 : Hid (more (ofB l) z = joinB (ofB l) (ofB z) (k : Int)) := Lib.hid (by rw [HJ.out]; rfl)
    have HJ3 : Hid (joinB (ofB l) 0#32 0 = ofB l) := Lib.hid (by unfold joinB; simp [halfs])
    have hb1 := hb0.grown hg1 hB0 (by simp)
    have hS : Since w1 w1 := Below.refl _ _
    clear hb0 hown1 hg1 ho1 lb lz hB0 hand hi hz0 hz1 hz2 HJ HB1
    have HB1 := Lib.hid hb1
    clear hb1
    refine (of_nil w1).mono ?_
    rintro e w2 ⟨rfl, hb2⟩
    have HS2 : Hid (Since w1 w2) := hb2
    clear hb2 hS
    go_wp2_with fail
    refine (more_nil7 w2).mono ?_
    rintro e w3 ⟨rfl, hb3⟩
    have HS3 := Lib.hid (since_trans HS2.out hb3)
    clear hb3 HS2
    go_wp2_with fail
    refine (of_since HLB.out (by omega) HS3.out).mono ?_
    rintro e w4 ⟨rfl, hs4, _⟩
    have HS4 := Lib.hid hs4
    clear hs4 HS3
    go_wp2_with fail
    refine (of_since HLZ.out (by omega) HS4.out).mono ?_
    rintro e w5 ⟨rfl, hs5, _⟩
    have HS5 := Lib.hid hs5
    clear hs5 HS4
    go_wp2_with fail
    refine (join_any _ _ (k : Int) (by omega) w5).mono ?_
    rintro e w6 ⟨rfl, rfl⟩
    go_wp2_with fail
    refine (of_since HLB.out (by omega) HS5.out).mono ?_
    rintro e w7 ⟨rfl, hs7, _⟩
    have HS7 := Lib.hid hs7
    clear hs7 HS5
    go_wp2_with fail
    refine (more_since _ HLZ.out (by omega) HS7.out).mono ?_
    rw [HJ2.out]
    rintro e w8 ⟨rfl, hs8, _⟩
    have HS8 := Lib.hid hs8
    clear hs8 HS7
    go_wp2_with fail
    refine (of_since HLB.out (by omega) HS8.out).mono ?_
    rintro e w9 ⟨rfl, hs9, _⟩
    have HS9 := Lib.hid hs9
    clear hs9 HS8
    go_wp2_with fail
    refine (show Calls Try.prog 19 #[.int .u32 (word (ofB l)), .int .u32 0, .int .i64 0] w9 _ from join_any (ofB l) 0#32 0 (by omega) w9).mono ?_
    rw [HJ3.out]
    rintro e w10 ⟨rfl, rfl⟩
    go_wp2_with fail
    refine (of_since HLB.out (by omega) HS9.out).mono ?_
    rintro e w11 ⟨rfl, hs11, _⟩
    have HS11 := Lib.hid hs11
    clear hs11 HS9
    go_wp2_with fail
    go_ret
    exact ⟨rfl, HB1.out.trans (Below.mono HS11.out HB1.out.size)⟩
  · go_enter Try.func7, Try.ntmps7
    go_wp2_with fail
    refine (awake_any w).mono ?_
    rintro e w0 ⟨rfl, hb0⟩
    go_wp2_with fail
    go_ret
    exact ⟨rfl, hb0⟩

end Go.Proofs.Ytanabocgglidhaa
