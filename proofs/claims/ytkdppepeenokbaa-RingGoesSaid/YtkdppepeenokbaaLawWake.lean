/-
  The document's example, as the statements' own first look has it: it is always so. The low bits of a number.
-/
import Derived.Test.YtkdppepeenokbaaSame
import Derived.Laws.BitsLemmas
namespace Go.Proofs.Ytkdppepeenokbaa
open Go.RowKit

set_option maxHeartbeats 1000000 in
theorem awake_any (w : World) : Calls Try.prog 9 #[] w fun e w' => e = .returned (.bool true) ∧ Below w.heap.size w w' := by
  have HS : Hid ((Rg.mk 2 4 6 9).spans 6 3 = [(4, 2), (2, 1)]) := by show _ = _; decide
  have HB := Lib.hid (below_new w (.cells (rgC ⟨2, 4, 6, 9⟩) 25))
  have HX := Lib.hid (Bx.new w ⟨2, 4, 6, 9⟩ 25)
  have q1 := run_pair_eql 4 2 4 2
  have q2 := run_pair_eql 2 1 2 1
  go_enter Try.func9, Try.ntmps9
  go_wp2_with fail
  refine (spans_any ⟨2, 4, 6, 9⟩ 6 3 _).mono ?_
  rintro e w1 ⟨A, n, c, rfl, hn, hl, hb⟩
  rw [HS.out] at hn hl
  obtain rfl : n = 2 := hn
  have HX1 := Lib.hid (HX.out.below hb)
  have HB1 := Lib.hid (below_two HB.out hb)
  have HL1 := Lib.hid hl
  clear hb hl HX HB HS
  have x0 := HX1.out.c0
  have x1 := HX1.out.c1
  have x2 := HX1.out.c2
  have x3 := HX1.out.c3
  go_wp2_with fail
  refine (sane_any ⟨2, 4, 6, 9⟩ _).mono ?_
  rintro e w2 ⟨rfl, hb⟩
  rw [show (Rg.mk 2 4 6 9).sane = true from by decide]
  have HX2 := Lib.hid (HX1.out.below hb)
  have HB2 := Lib.hid (below_two HB1.out hb)
  have HL2 := Lib.hid (HL1.out.up hb)
  clear hb HX1 HB1 HL1 x0 x1 x2 x3
  have x0 := HX2.out.c0
  have x1 := HX2.out.c1
  have x2 := HX2.out.c2
  have x3 := HX2.out.c3
  go_wp2_with fail
  refine (sector_any ⟨2, 4, 6, 9⟩ 7 _).mono ?_
  rintro e w3 ⟨rfl, hb⟩
  rw [show (Rg.mk 2 4 6 9).sector 7 = 5 from by decide]
  have HB3 := Lib.hid (below_two HB2.out hb)
  have HL3 := HL2.out.up hb
  clear hb HX2 HB2 HL2 x0 x1 x2 x3
  rcases HL3 with h0 | ⟨g, rfl, hg, hc⟩
  · cases h0
  have k0 := (hc 0 _ rfl).1
  have k1 := (hc 0 _ rfl).2
  have k2 := (hc 1 _ rfl).1
  have k3 := (hc 1 _ rfl).2
  clear hc hg
  go_wp2_with fail
  go_ret
  exact ⟨rfl, HB3.out⟩

theorem and_mask (n : Int) (m : Int) (k : Nat) (hm : (BitVec.ofInt 64 m).toNat = 2 ^ k - 1) (hk : k ≤ 32) : bits .and .i64 n m = n % ((2 ^ k : Nat) : Int) := by
  have key : (BitVec.ofInt 64 n &&& BitVec.ofInt 64 m).toNat = (n % ((2 ^ 64 : Nat) : Int)).toNat % 2 ^ k := by
    rw [BitVec.toNat_and, BitVec.toNat_ofInt, hm, Nat.and_two_pow_sub_one_eq_mod]
  show IntKind.i64.wrap ((BitVec.ofInt 64 n &&& BitVec.ofInt 64 m).toNat : Nat) = _
  have hp : (2 ^ k : Nat) ∣ 2 ^ 64 := Nat.pow_dvd_pow 2 (by omega)
  have hpos : 0 < 2 ^ k := Nat.two_pow_pos k
  have hle : 2 ^ k ≤ 2 ^ 32 := Nat.pow_le_pow_right (by omega) hk
  have h64 : n % ((2 ^ 64 : Nat) : Int) % ((2 ^ k : Nat) : Int) = n % ((2 ^ k : Nat) : Int) := Int.emod_emod_of_dvd n (by exact_mod_cast hp)
  rw [key, IntKind.wrap_i64]
  generalize 2 ^ k = K at *
  have g0 : 0 ≤ n % ((2 ^ 64 : Nat) : Int) := Int.emod_nonneg n (by decide)
  have e1 : (((n % ((2 ^ 64 : Nat) : Int)).toNat % K : Nat) : Int) = n % (K : Int) := by
    rw [Int.natCast_emod, Int.toNat_of_nonneg g0, h64]
  rw [e1]
  have g1 := Int.emod_nonneg n (b := (K : Int)) (by omega)
  have g2 := Int.emod_lt_of_pos n (b := (K : Int)) (by omega)
  omega

/-- a number's low bits, named -/
theorem low (n m : Int) (k : Nat) (hm : (BitVec.ofInt 64 m).toNat = 2 ^ k - 1) (hk : k ≤ 32) : ∃ x : Nat, x < 2 ^ k ∧ bits .and .i64 n m = (x : Int) := by
  have hpos : 0 < 2 ^ k := Nat.two_pow_pos k
  have g1 := Int.emod_nonneg n (b := ((2 ^ k : Nat) : Int)) (by omega)
  have g2 := Int.emod_lt_of_pos n (b := ((2 ^ k : Nat) : Int)) (by omega)
  exact ⟨(n % ((2 ^ k : Nat) : Int)).toNat, by omega, by rw [and_mask n m k hm hk]; omega⟩

end Go.Proofs.Ytkdppepeenokbaa
