/-
  WireStays: the walk: with an error the place stays, and a reader that was never made has nothing.
-/
import Derived.Test.YtgmnhaohbpclkaaReader
import Derived.Test.YtgmnhaohbpclkaaAwake
namespace Go.Proofs.Ytgmnhaohbpclkaa
open Go.RowKit Wm

theorem ofInt64_toNat (n : Int) : ((BitVec.ofInt 64 n).toNat : Int) = n % 18446744073709551616 := by
  rw [BitVec.toNat_ofInt]
  have : (0 : Int) ≤ n % ((2 : Nat) ^ 64 : Nat) := Int.emod_nonneg _ (by decide)
  rw [Int.toNat_of_nonneg this]
  rfl

/-- 'n & 255' -/
theorem and255 (n : Int) : bits .and .i64 n 255 = n % 256 := by
  show IntKind.i64.wrap ((BitVec.ofInt 64 n &&& BitVec.ofInt 64 255).toNat : Int) = _
  have h := ofInt64_toNat n
  rw [BitVec.toNat_and, show (BitVec.ofInt 64 255).toNat = 255 from rfl, nat_mask8]
  rw [IntWalk.i64_in _ ⟨by omega, by omega⟩]
  omega
/-- 'n & 7' -/
theorem and7 (n : Int) : bits .and .i64 n 7 = n % 8 := by
  show IntKind.i64.wrap ((BitVec.ofInt 64 n &&& BitVec.ofInt 64 7).toNat : Int) = _
  have h := ofInt64_toNat n
  rw [BitVec.toNat_and, show (BitVec.ofInt 64 7).toNat = 7 from rfl, nat_mask3]
  rw [IntWalk.i64_in _ ⟨by omega, by omega⟩]
  omega

theorem rlist_neg {w : World} {r cap n k : Nat} {A : Option Addr} {l : List UInt8} (h : Cur w r 57 A cap n k l) :
    ∃ E : Int, 2 ≤ E ∧ E ≤ 3 ∧ Calls Try.prog 21 #[.pointer (some ⟨r, 0, none⟩), .int .i64 (-1)] w fun e w' => e = .returned (.tuple #[.slice none 0 0, .int .i64 E]) ∧ Below w.heap.size w w' := by
  rcases Nat.lt_or_ge (n - k) 2 with h2 | h2
  · exact ⟨2, by omega, by omega, rlist_short h (-1) h2⟩
  · exact ⟨3, by omega, by omega, rlist_most h (-1) h2 (by omega)⟩

theorem rend_val {w : World} {r cap n : Nat} {A : Option Addr} {l : List UInt8} (h : Cur w r 57 A cap n 0 l) :
    ∃ E : Int, (E == 0) = ((n : Int) == 0) ∧ Calls Try.prog 25 #[.pointer (some ⟨r, 0, none⟩)] w fun e w' => e = .returned (.int .i64 E) ∧ Below w.heap.size w w' := by
  rcases Nat.eq_zero_or_pos n with h2 | h2
  · exact ⟨0, by simp [h2], rend_done h (by omega)⟩
  · exact ⟨3, by rw [beq_eq_false_iff_ne.2 (by omega : (n : Int) ≠ 0)]; rfl, rend_more h h2⟩

set_option maxHeartbeats 2000000 in
theorem stays_walk (A : Option Addr) (c L : Nat) (l : List UInt8) (HL : Hid (l.length = L)) (n : Int) (w : World) (hr : Rd w w.heap.size A l) (hl : L ≤ c) :
    Calls Try.prog 6 #[.slice A L c, .int .i64 n] w fun e w' => e = .returned (.bool true) ∧ Below w.heap.size w w' := by
  by_cases hlen : L ≤ 1000
  · obtain ⟨x, hx⟩ : ∃ x, x = n % 256 := ⟨_, rfl⟩
    have hx0 : 0 ≤ x ∧ x ≤ 255 := by omega
    obtain ⟨hx1, hx2⟩ := hx0
    have hand : bits .and .i64 n 255 = x := by rw [and255, hx]
    clear hx
    go_enter Try.func6, Try.ntmps6
    go_wp2_with fail
    refine (awake_any w).mono ?_
    rintro e w0 ⟨rfl, hb0⟩
    go_wp2_with fail
    refine (new_any HL hl (by omega) (hr.up hb0)).mono ?_
    rintro e w1 ⟨r, rfl, hcur1, hb1, _⟩
    have B1 := hide2 (hb0.trans (hb1.mono hb0.size))
    clear hb0 hb1
    go_wp2_with fail
    refine (get_arg _ _ w1 (by right; omega)).mono ?_
    rintro e w2 ⟨rfl, rfl⟩
    go_wp2_with fail
    refine (get_arg _ _ w1 (by left; omega)).mono ?_
    rintro e w2 ⟨rfl, rfl⟩
    go_wp2_with fail
    refine (rleft_any hcur1).mono ?_
    rintro e w2 ⟨rfl, hb2⟩
    have hcur2 := hcur1.below hb2
    have B2 := hide2 (B1.out.trans (hb2.mono B1.out.size))
    clear hcur1 hb2 B1
    go_wp2_with fail
    obtain ⟨E, hE1, hE2, hE⟩ := rlist_neg hcur2
    refine hE.mono ?_
    rintro e w3 ⟨rfl, hb3⟩
    have hcur3 := hcur2.below hb3
    have B3 := hide2 (B2.out.trans (hb3.mono B2.out.size))
    have hE0 : (E != 0) = true := by rw [bne_iff_ne]; omega
    clear hcur2 hb3 B2 hE
    go_wp2_with fail
    refine (get_nil 1 w3 (by omega) (by omega)).mono ?_
    rintro e w4 ⟨rfl, hb4⟩
    have hcur4 := hcur3.below hb4
    have B4 := hide2 (B3.out.trans (hb4.mono B3.out.size))
    clear hcur3 hb4 B3
    go_wp2_with fail
    refine (rsigned_nil w4).mono ?_
    rintro e w5 ⟨rfl, hb5⟩
    have hcur5 := hcur4.below hb5
    have B5 := hide2 (B4.out.trans (hb5.mono B4.out.size))
    clear hcur4 hb5 B4
    go_wp2_with fail
    refine (rlist_nil 5 w5).mono ?_
    rintro e w6 ⟨rfl, hb6⟩
    have hcur6 := hcur5.below hb6
    have B6 := hide2 (B5.out.trans (hb6.mono B5.out.size))
    clear hcur5 hb6 B5
    go_wp2_with fail
    refine (rleft_any hcur6).mono ?_
    rintro e w7 ⟨rfl, hb7⟩
    have hcur7 := hcur6.below hb7
    have B7 := hide2 (B6.out.trans (hb7.mono B6.out.size))
    clear hcur6 hb7 B6
    go_wp2_with fail
    refine (rleft_nil w7).mono ?_
    rintro e w8 ⟨rfl, hb8⟩
    have hcur8 := hcur7.below hb8
    have B8 := hide2 (B7.out.trans (hb8.mono B7.out.size))
    clear hcur7 hb8 B7
    go_wp2_with fail
    refine (rend_nil w8).mono ?_
    rintro e w9 ⟨rfl, hb9⟩
    have hcur9 := hcur8.below hb9
    have B9 := hide2 (B8.out.trans (hb9.mono B8.out.size))
    clear hcur8 hb9 B8
    go_wp2_with fail
    obtain ⟨F, hF1, hF⟩ := rend_val hcur9
    refine hF.mono ?_
    rintro e w10 ⟨rfl, hb10⟩
    have B10 := hide2 (B9.out.trans (hb10.mono B9.out.size))
    clear hcur9 hb10 B9 hF
    go_wp2_with fail
    go_ret
    exact ⟨rfl, B10.out⟩
  · go_enter Try.func6, Try.ntmps6
    go_wp2_with fail
    refine (awake_any w).mono ?_
    rintro e w0 ⟨rfl, hb0⟩
    go_wp2_with fail
    go_ret
    exact ⟨rfl, hb0⟩
end Go.Proofs.Ytgmnhaohbpclkaa
