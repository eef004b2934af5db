/-
  PagePlaces: the walk, over the words.
-/
import Derived.Test.YtknjkihcpcimpaaWd
namespace Go.Proofs.Ytknjkihcpcimpaa
set_option maxRecDepth 100000
set_option linter.unusedVariables false
open Go.RowKit Crc Wm Pg

theorem and_mask (n : Int) (m : Int) (k : Nat) (hm : (BitVec.ofInt 64 m).toNat = 2 ^ k - 1) (hk : k ≤ 62) : bits .and .i64 n m = n % ((2 ^ k : Nat) : Int) := by
  have key : (BitVec.ofInt 64 n &&& BitVec.ofInt 64 m).toNat = (n % ((2 ^ 64 : Nat) : Int)).toNat % 2 ^ k := by
    rw [BitVec.toNat_and, BitVec.toNat_ofInt, hm, Nat.and_two_pow_sub_one_eq_mod]
  show IntKind.i64.wrap ((BitVec.ofInt 64 n &&& BitVec.ofInt 64 m).toNat : Nat) = _
  have hp : (2 ^ k : Nat) ∣ 2 ^ 64 := Nat.pow_dvd_pow 2 (by omega)
  have hpos : 0 < 2 ^ k := Nat.two_pow_pos k
  have hle : 2 ^ k ≤ 2 ^ 62 := Nat.pow_le_pow_right (by omega) hk
  have h64 : n % ((2 ^ 64 : Nat) : Int) % ((2 ^ k : Nat) : Int) = n % ((2 ^ k : Nat) : Int) := Int.emod_emod_of_dvd n (by exact_mod_cast hp)
  rw [key, IntKind.wrap_i64]
  generalize 2 ^ k = K at *
  have g0 : 0 ≤ n % ((2 ^ 64 : Nat) : Int) := Int.emod_nonneg n (by decide)
  have e1 : (((n % ((2 ^ 64 : Nat) : Int)).toNat % K : Nat) : Int) = n % (K : Int) := by
    rw [Int.natCast_emod, Int.toNat_of_nonneg g0, h64]
  rw [e1]
  have g1 := Int.emod_nonneg n (b := (K : Int)) (by omega)
  have g2 := Int.emod_lt_of_pos n (b := (K : Int)) (by omega)
  omega
theorem low (n m : Int) (k : Nat) (hm : (BitVec.ofInt 64 m).toNat = 2 ^ k - 1) (hk : k ≤ 62) : ∃ x : Nat, x < 2 ^ k ∧ bits .and .i64 n m = (x : Int) := by
  have hpos : 0 < 2 ^ k := Nat.two_pow_pos k
  have g1 := Int.emod_nonneg n (b := ((2 ^ k : Nat) : Int)) (by omega)
  have g2 := Int.emod_lt_of_pos n (b := ((2 ^ k : Nat) : Int)) (by omega)
  exact ⟨(n % ((2 ^ k : Nat) : Int)).toNat, by omega, by rw [and_mask n m k hm hk]; omega⟩


theorem place_nat (x : Nat) : ∃ s c : Nat, 3 * s + c = x ∧ c < 3 ∧ plS (x : Int) = (s : Int) ∧ plC (x : Int) = (c : Int) := by
  refine ⟨x / 3, x % 3, by omega, by omega, ?_, ?_⟩
  · unfold plS; rw [if_neg (by omega)]; omega
  · unfold plC; rw [if_neg (by omega)]; omega

set_option maxHeartbeats 1000000 in
theorem places_walk (P : PageOk) (a b : Int) (w : World) : Calls Try.prog 6 #[.int .i64 a, .int .i64 b] w fun e w' => e = .returned (.bool true) ∧ Below w.heap.size w w' := by
  have HP := Lib.hid P
  clear P
  obtain ⟨x, hx, ha⟩ := low a 65535 16 (by decide) (by omega)
  obtain ⟨y, hy, hb⟩ := low b 65535 16 (by decide) (by omega)
  obtain ⟨s, c, hsc, hc3, hps, hpc⟩ := place_nat x
  obtain ⟨t, d, htd, hd3, hpt, hpd⟩ := place_nat y
  have HX := Lib.hid (fun W => HP.out.place (x : Int) W ⟨by omega, by omega⟩)
  have HY := Lib.hid (fun W => HP.out.place (y : Int) W ⟨by omega, by omega⟩)
  rw [hps, hpc] at HX
  rw [hpt, hpd] at HY
  have hs : s ≤ 30000 := by omega
  have he : decide ((3 : Int) * (s : Int) + (c : Int) = (x : Int)) = true := decide_eq_true (by omega)
  have he2 : ((3 : Int) * (s : Int) + (c : Int) == (x : Int)) = true := by rw [beq_iff_eq]; omega
  have HXY := Lib.hid (And.intro hsc htd)
  have HC := Lib.hid (And.intro hc3 hd3)
  have hc' : decide ((c : Int) < 3) = true := decide_eq_true (by omega)
  clear hps hpc hpt hpd hsc htd hy hx hd3
  go_enter Try.func6, Try.ntmps6
  go_wp2_with fail
  refine (awake_any HP.out w).mono ?_
  rintro e w1 ⟨rfl, hb1⟩
  have HB1 := Lib.hid hb1
  clear hb1
  go_wp2_with fail
  refine (HX.out w1).mono ?_
  rintro e w2 ⟨rfl, hb2⟩
  have HB2 := Lib.hid (HB1.out.trans (hb2.mono HB1.out.size))
  clear hb2
  go_wp2_with fail
  refine (HY.out w2).mono ?_
  rintro e w3 ⟨rfl, hb3⟩
  have HB3 := Lib.hid (HB2.out.trans (hb3.mono HB2.out.size))
  clear hb3 HX HY HP ha hb
  by_cases h1 : s = t
  · by_cases h2 : c = d
    · have h3 : x = y := by have := HXY.out; omega
      subst h1; subst h2; subst h3
      clear HXY
      go_wp2_with fail
      go_ret
      exact ⟨rfl, HB3.out⟩
    · have h3 : x ≠ y := by have := HXY.out; have := HC.out; omega
      subst h1
      have e1 : ((c : Int) == (d : Int)) = false := by rw [beq_eq_false_iff_ne]; omega
      have e2 : ((x : Int) == (y : Int)) = false := by rw [beq_eq_false_iff_ne]; omega
      clear HXY h2 h3
      go_wp2_with fail
      go_ret
      exact ⟨rfl, HB3.out⟩
  · have h3 : x ≠ y := by have := HXY.out; have := HC.out; omega
    have e1 : ((s : Int) == (t : Int)) = false := by rw [beq_eq_false_iff_ne]; omega
    have e2 : ((x : Int) == (y : Int)) = false := by rw [beq_eq_false_iff_ne]; omega
    clear HXY h1 h3
    go_wp2_with fail
    go_ret
    exact ⟨rfl, HB3.out⟩

end Go.Proofs.Ytknjkihcpcimpaa
