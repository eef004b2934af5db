/-
  Ints and bools that came in, as they lie there; a number's low bits.
-/
import Derived.Test.YtnpgmiokimahiaaDevB
import Derived.Laws.BitsLemmas
namespace Go.Proofs.Ytnpgmiokimahiaa
set_option maxRecDepth 100000
open Go.RowKit
theorem and_mask (n : Int) (m : Int) (k : Nat) (hm : (BitVec.ofInt 64 m).toNat = 2 ^ k - 1) (hk : k ≤ 62) : bits .and .i64 n m = n % ((2 ^ k : Nat) : Int) := by
  have key : (BitVec.ofInt 64 n &&& BitVec.ofInt 64 m).toNat = (n % ((2 ^ 64 : Nat) : Int)).toNat % 2 ^ k := by
    rw [BitVec.toNat_and, BitVec.toNat_ofInt, hm, Nat.and_two_pow_sub_one_eq_mod]
  show IntKind.i64.wrap ((BitVec.ofInt 64 n &&& BitVec.ofInt 64 m).toNat : Nat) = _
  have hp : (2 ^ k : Nat) ∣ 2 ^ 64 := Nat.pow_dvd_pow 2 (by omega)
  have hpos : 0 < 2 ^ k := Nat.two_pow_pos k
  have hle : 2 ^ k ≤ 2 ^ 62 := Nat.pow_le_pow_right (by omega) hk
  have h64 : n % ((2 ^ 64 : Nat) : Int) % ((2 ^ k : Nat) : Int) = n % ((2 ^ k : Nat) : Int) := Int.emod_emod_of_dvd n (by exact_mod_cast hp)
  rw [key, IntKind.wrap_i64]
  generalize 2 ^ k = K at *
  have g0 : 0 ≤ n % ((2 ^ 64 : Nat) : Int) := Int.emod_nonneg n (by decide)
  have e1 : (((n % ((2 ^ 64 : Nat) : Int)).toNat % K : Nat) : Int) = n % (K : Int) := by
    rw [Int.natCast_emod, Int.toNat_of_nonneg g0, h64]
  rw [e1]
  have g1 := Int.emod_nonneg n (b := (K : Int)) (by omega)
  have g2 := Int.emod_lt_of_pos n (b := (K : Int)) (by omega)
  omega

/-- a number's low bits, named -/
theorem low (n m : Int) (k : Nat) (hm : (BitVec.ofInt 64 m).toNat = 2 ^ k - 1) (hk : k ≤ 62) : ∃ x : Nat, x < 2 ^ k ∧ bits .and .i64 n m = (x : Int) := by
  have hpos : 0 < 2 ^ k := Nat.two_pow_pos k
  have g1 := Int.emod_nonneg n (b := ((2 ^ k : Nat) : Int)) (by omega)
  have g2 := Int.emod_lt_of_pos n (b := ((2 ^ k : Nat) : Int)) (by omega)
  exact ⟨(n % ((2 ^ k : Nat) : Int)).toNat, by omega, by rw [and_mask n m k hm hk]; omega⟩

/-- ints lie from the address on, len of them, each as Go has them -/
structure Is (W : World) (a : Option Addr) (len : Nat) (f : Nat → Int) : Prop where
  bd : ∀ i, -9223372036854775808 ≤ f i ∧ f i ≤ 9223372036854775807
  rd : len = 0 ∨ ∃ b o, a = some ⟨b, o, none⟩ ∧ b < W.heap.size ∧ ∀ i, i < len → W.cell? ⟨b, o + i, none⟩ = some (.int .i64 (f i))


theorem Is.get {W V : World} {a : Option Addr} {len : Nat} {f : Nat → Int} (h : Is W a len f) (hb : Below W.heap.size W V) {i : Nat} (hi : i < len) : ∃ b o, a = some ⟨b, o, none⟩ ∧ V.cell? ⟨b, o + i, none⟩ = some (.int .i64 (f i)) := by
  rcases h.rd with h0 | ⟨b, o, e, hl, hc⟩
  · omega
  · exact ⟨b, o, e, (hb.cell (p := ⟨b, o + i, none⟩) hl).trans (hc i hi)⟩

/-- bools that came in -/
def BoolsAt (w : World) (A : Option Addr) (n : Nat) (f : Nat → Bool) : Prop :=
  n = 0 ∨ ∃ b o, A = some ⟨b, o, none⟩ ∧ b < w.heap.size ∧ ∀ i, i < n → w.cell? ⟨b, o + i, none⟩ = some (.bool (f i))
theorem BoolsAt.below {w W : World} {A : Option Addr} {n : Nat} {f : Nat → Bool} (h : BoolsAt w A n f) (hb : Below w.heap.size w W) : BoolsAt W A n f := by
  rcases h with h | ⟨b, o, e, hl, hc⟩
  · exact .inl h
  · exact .inr ⟨b, o, e, Nat.lt_of_lt_of_le hl hb.size, fun i hi => (hb.cell (p := ⟨b, o + i, none⟩) hl).trans (hc i hi)⟩
theorem Dr.bools {w W : World} {p L M : Nat} {D : Dv} (h : Dr w W p L M D) {A : Option Addr} {n : Nat} {f : Nat → Bool} (hk : BoolsAt w A n f) : Bools (DS p L M) W A n f := by
  rcases hk with h0 | ⟨b, o, e, hl, hc⟩
  · exact .inl h0
  · refine .inr ⟨b, o, e, fun i hi V hV => ?_⟩
    have h1 : W.cell? ⟨b, o + i, none⟩ = some (.bool (f i)) := (h.bel.cell (p := ⟨b, o + i, none⟩) hl).trans (hc i hi)
    exact hV.cell h1 (fun hk => by
      have h2 := h.lo
      have hb : b < w.heap.size := hl
      rcases hk with e2 | e2 | e2
      · have e3 : b = p := e2; omega
      · have e3 : b = L := e2; omega
      · have e3 : b = M := e2; omega)


end Go.Proofs.Ytnpgmiokimahiaa
