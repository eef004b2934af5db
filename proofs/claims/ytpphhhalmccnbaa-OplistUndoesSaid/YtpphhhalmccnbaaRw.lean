/-
  The document's numbers of two halves: of, plus, told, less.
-/
import Derived.Test.YtpphhhalmccnbaaSm
namespace Go.Proofs.Ytpphhhalmccnbaa
set_option maxRecDepth 100000
set_option linter.unusedVariables false
set_option linter.unusedSimpArgs false
open Go.RowKit

/-- the upper half, and the lower -/
def rhi (x : Int) : Int := x / 4294967296
def rlo (x : Int) : Int := x % 4294967296
abbrev rwC (x : Int) : Array Value := #[.int .i64 (rhi x), .int .i64 (rlo x)]
abbrev rwV (x : Int) : Value := .agg (rwC x)
section
variable {W : World} {g : Nat} {x : Int} {t : TypeId}
theorem Bk.r0 (h : Bk W g (rwC x) t) : W.cell? ⟨g, 0, none⟩ = some (.int .i64 (rhi x)) := h.c 0 _ rfl
theorem Bk.r1 (h : Bk W g (rwC x) t) : W.cell? ⟨g, 1, none⟩ = some (.int .i64 (rlo x)) := h.c 1 _ rfl
end
theorem and_mask (n : Int) (m : Int) (k : Nat) (hm : (BitVec.ofInt 64 m).toNat = 2 ^ k - 1) (hk : k ≤ 32) : bits .and .i64 n m = n % ((2 ^ k : Nat) : Int) := by
  have key : (BitVec.ofInt 64 n &&& BitVec.ofInt 64 m).toNat = (n % ((2 ^ 64 : Nat) : Int)).toNat % 2 ^ k := by
    rw [BitVec.toNat_and, BitVec.toNat_ofInt, hm, Nat.and_two_pow_sub_one_eq_mod]
  show IntKind.i64.wrap ((BitVec.ofInt 64 n &&& BitVec.ofInt 64 m).toNat : Nat) = _
  have hp : (2 ^ k : Nat) ∣ 2 ^ 64 := Nat.pow_dvd_pow 2 (by omega)
  have hpos : 0 < 2 ^ k := Nat.two_pow_pos k
  have hle : 2 ^ k ≤ 2 ^ 32 := Nat.pow_le_pow_right (by omega) hk
  have h64 : n % ((2 ^ 64 : Nat) : Int) % ((2 ^ k : Nat) : Int) = n % ((2 ^ k : Nat) : Int) := Int.emod_emod_of_dvd n (by exact_mod_cast hp)
  rw [key, IntKind.wrap_i64]
  generalize 2 ^ k = K at *
  have g0 : 0 ≤ n % ((2 ^ 64 : Nat) : Int) := Int.emod_nonneg n (by decide)
  have e1 : (((n % ((2 ^ 64 : Nat) : Int)).toNat % K : Nat) : Int) = n % (K : Int) := by
    rw [Int.natCast_emod, Int.toNat_of_nonneg g0, h64]
  rw [e1]
  have g1 := Int.emod_nonneg n (b := (K : Int)) (by omega)
  have g2 := Int.emod_lt_of_pos n (b := (K : Int)) (by omega)
  omega
/-- a number's low bits, named -/
theorem low (n m : Int) (k : Nat) (hm : (BitVec.ofInt 64 m).toNat = 2 ^ k - 1) (hk : k ≤ 32) : ∃ x : Nat, x < 2 ^ k ∧ bits .and .i64 n m = (x : Int) := by
  have hpos : 0 < 2 ^ k := Nat.two_pow_pos k
  have g1 := Int.emod_nonneg n (b := ((2 ^ k : Nat) : Int)) (by omega)
  have g2 := Int.emod_lt_of_pos n (b := ((2 ^ k : Nat) : Int)) (by omega)
  exact ⟨(n % ((2 ^ k : Nat) : Int)).toNat, by omega, by rw [and_mask n m k hm hk]; omega⟩
theorem and32 (n : Int) : bits .and .i64 n 4294967295 = rlo n := by
  rw [and_mask n 4294967295 32 (by decide) (by decide)]; rfl
theorem rlo_bd (x : Int) : 0 ≤ rlo x ∧ rlo x < 4294967296 := by unfold rlo; omega

theorem refof_any (n : Int) : Says 55 #[.int .i64 n] (rwV n) := by
  intro w
  have h1 : n / 4294967296 = rhi n := rfl
  have h2 := and32 n
  have HB := Lib.hid (fun v => below_new w (.cells v 116))
  go_enter Try.func55, Try.ntmps55
  go_wp2_with fail
  exact bodyPost_ret (v := rwV n) (by rw [results_cell_one rfl]; go_simp) rfl ⟨rfl, HB.out _⟩

/-- what goes over -/
def rcy (x y : Int) : Int := (rlo x + rlo y) / 4294967296
set_option maxHeartbeats 1000000 in
theorem refplus_any (x y : Int) (hx : far x) (hy : far y) : Says 54 #[rwV x, rwV y] (rwV (x + y)) := by
  intro w
  have h1 : IntKind.i64.wrap (rlo x + rlo y) = rlo x + rlo y := by have := rlo_bd x; have := rlo_bd y; rw [IntKind.wrap_i64]; omega
  have h2 : (rlo x + rlo y) / 4294967296 = rcy x y := rfl
  have h3 : bits .and .i64 (rlo x + rlo y) 4294967295 = rlo (x + y) := by rw [and32]; unfold rlo; omega
  have h4 : IntKind.i64.wrap (rhi x + rhi y) = rhi x + rhi y := by unfold far at hx hy; unfold rhi; rw [IntKind.wrap_i64]; omega
  have h5 : IntKind.i64.wrap (rhi x + rhi y + rcy x y) = rhi (x + y) := by unfold far at hx hy; unfold rhi rcy rlo; rw [IntKind.wrap_i64]; omega
  have HB := Lib.hid (below_two (below_two (below_new w (.cells (rwC x) 116)) (below_new _ (.cells (rwC y) 116))) (below_new _ (.cells (rwC (x + y)) 116)))
  clear hx hy
  go_enter Try.func54, Try.ntmps54
  go_wp2_with fail
  exact bodyPost_ret (v := rwV (x + y)) (by rw [results_cell_one rfl]; go_simp) rfl ⟨rfl, HB.out⟩

theorem wrapEq (x : Int) : IntKind.i64.wrap x = wrap64 x := by rw [IntKind.wrap_i64]; unfold wrap64; rfl
theorem rtold {x : Int} (h : okI x) : IntKind.i64.wrap (IntKind.i64.wrap (rhi x * 4294967296) + rlo x) = x := by
  unfold okI at h; unfold rhi rlo; rw [IntKind.wrap_i64, IntKind.wrap_i64]; omega

set_option maxHeartbeats 1000000 in
theorem reftold_any (x : Int) : Says 56 #[rwV x] (.tuple #[.int .i64 (tlV x), .int .i64 (tlE x)]) := by
  intro w
  have HB := Lib.hid (below_new w (.cells (rwC x) 116))
  rcases Classical.em (okI x) with hx | hx
  · have HV : Hid (tlV x = x) := by show _ = _; unfold tlV; rw [if_pos hx]
    have HE : Hid (tlE x = 0) := by show _ = _; unfold tlE; rw [if_pos hx]
    have h1 : decide (rhi x < -2147483648) = false := decide_eq_false (by unfold okI at hx; unfold rhi; omega)
    have h2 : decide (rhi x > 2147483647) = false := decide_eq_false (by unfold okI at hx; unfold rhi; omega)
    have h3 : decide (2147483647 < rhi x) = false := decide_eq_false (by unfold okI at hx; unfold rhi; omega)
    have h4 : wrap64 (wrap64 (rhi x * 4294967296) + rlo x) = x := by have h := rtold hx; rw [wrapEq, wrapEq] at h; exact h
    rw [HV.out, HE.out]
    clear hx HV HE
    go_enter Try.func56, Try.ntmps56
    go_wp2_with fail
    go_ret2
    exact ⟨by simp only [h4]; rfl, HB.out⟩
  · have HV : Hid (tlV x = 0) := by show _ = _; unfold tlV; rw [if_neg hx]
    have HE : Hid (tlE x = 12) := by show _ = _; unfold tlE; rw [if_neg hx]
    rw [HV.out, HE.out]
    rcases Int.lt_or_le (rhi x) (-2147483648) with h | h
    · have h1 : decide (rhi x < -2147483648) = true := decide_eq_true h
      clear hx HV HE h
      go_enter Try.func56, Try.ntmps56
      go_wp2_with fail
      go_ret2
      exact ⟨rfl, HB.out⟩
    · have h1 : decide (rhi x < -2147483648) = false := decide_eq_false (by omega)
      have h2 : decide (rhi x > 2147483647) = true := decide_eq_true (by unfold okI at hx; unfold rhi at h ⊢; omega)
      have h3 : decide (2147483647 < rhi x) = true := h2
      clear hx HV HE h
      go_enter Try.func56, Try.ntmps56
      go_wp2_with fail
      go_ret2
      exact ⟨rfl, HB.out⟩

theorem rneg (b : Int) (hb : okI b) : IntKind.i64.wrap (-1 - rhi b) = rhi (-1 - b) ∧ IntKind.i64.wrap (4294967295 - rlo b) = rlo (-1 - b) := by
  unfold okI at hb; unfold rhi rlo; rw [IntKind.wrap_i64, IntKind.wrap_i64]; omega
theorem tl_clamp (x : Int) : clampI x = if tlE x = 0 then tlV x else if rhi x < 0 then -9223372036854775808 else 9223372036854775807 := by
  unfold clampI tlE tlV rhi
  by_cases h : okI x
  · simp [h]
  · simp [h]
    have : x < 0 ↔ x / 4294967296 < 0 := by omega
    by_cases h2 : x < 0
    · rw [if_pos h2, if_pos (this.1 h2)]
    · rw [if_neg h2, if_neg (fun h => h2 (this.2 h))]

end Go.Proofs.Ytpphhhalmccnbaa
