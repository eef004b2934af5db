/-
  A number's low bits; a record cut, and gathered, as the statements ask for it.
-/
import Derived.Test.YtofekbipbndbbaaLawWake
import Derived.Laws.BitsLemmas
namespace Go.Proofs.Ytofekbipbndbbaa
open Go.RowKit Crc Wm

theorem and_mask (n : Int) (m : Int) (k : Nat) (hm : (BitVec.ofInt 64 m).toNat = 2 ^ k - 1) (hk : k ≤ 62) : bits .and .i64 n m = n % ((2 ^ k : Nat) : Int) := by
  have key : (BitVec.ofInt 64 n &&& BitVec.ofInt 64 m).toNat = (n % ((2 ^ 64 : Nat) : Int)).toNat % 2 ^ k := by
    rw [BitVec.toNat_and, BitVec.toNat_ofInt, hm, Nat.and_two_pow_sub_one_eq_mod]
  show IntKind.i64.wrap ((BitVec.ofInt 64 n &&& BitVec.ofInt 64 m).toNat : Nat) = _
  have hp : (2 ^ k : Nat) ∣ 2 ^ 64 := Nat.pow_dvd_pow 2 (by omega)
  have hpos : 0 < 2 ^ k := Nat.two_pow_pos k
  have hle : 2 ^ k ≤ 2 ^ 62 := Nat.pow_le_pow_right (by omega) hk
  have h64 : n % ((2 ^ 64 : Nat) : Int) % ((2 ^ k : Nat) : Int) = n % ((2 ^ k : Nat) : Int) := Int.emod_emod_of_dvd n (by exact_mod_cast hp)
  rw [key, IntKind.wrap_i64]
  generalize 2 ^ k = K at *
  have g0 : 0 ≤ n % ((2 ^ 64 : Nat) : Int) := Int.emod_nonneg n (by decide)
  have e1 : (((n % ((2 ^ 64 : Nat) : Int)).toNat % K : Nat) : Int) = n % (K : Int) := by
    rw [Int.natCast_emod, Int.toNat_of_nonneg g0, h64]
  rw [e1]
  have g1 := Int.emod_nonneg n (b := (K : Int)) (by omega)
  have g2 := Int.emod_lt_of_pos n (b := (K : Int)) (by omega)
  omega

/-- a number's low bits, named -/
theorem low (n m : Int) (k : Nat) (hm : (BitVec.ofInt 64 m).toNat = 2 ^ k - 1) (hk : k ≤ 62) : ∃ x : Nat, x < 2 ^ k ∧ bits .and .i64 n m = (x : Int) := by
  have hpos : 0 < 2 ^ k := Nat.two_pow_pos k
  have g1 := Int.emod_nonneg n (b := ((2 ^ k : Nat) : Int)) (by omega)
  have g2 := Int.emod_lt_of_pos n (b := ((2 ^ k : Nat) : Int)) (by omega)
  exact ⟨(n % ((2 ^ k : Nat) : Int)).toNat, by omega, by rw [and_mask n m k hm hk]; omega⟩

/-- a record is cut -/
def CutYes (w : World) (C : Nat) (ls : List (List UInt8)) (e : Ending) (w' : World) : Prop :=
  ∃ A c, e = .returned (.tuple #[.slice A C c, .int .i64 0]) ∧ Ls w' A ls ∧ C ≤ c ∧ Below w.heap.size w w'
theorem cut_yes_any {ep at_ : Int} {b : List UInt8} (h : cutE ep at_ b = 0) {A : Option Addr} {c L : Nat} {w : World} (hl : Lies w A c L b) (hL : L ≤ 1000000) (ha : at_ ≤ 9223372036854775807) :
    Calls Try.prog 16 #[.int .i64 ep, .int .i64 at_, .slice A L c] w (CutYes w (needN b) (cutAll ep at_ b)) := by
  have h1 := cut_ok h
  refine (cut_any ep at_ (by omega) ha A c L b w hl (by omega)).mono ?_
  rintro e w' ⟨A', n, c', he, hn, hls, hc, hb⟩
  rw [h] at he
  have hcl : cutL ep at_ b = cutAll ep at_ b := by unfold cutL; rw [if_pos h]
  rw [hcl] at hn hls
  rw [length_cutAll] at hn
  subst hn
  exact ⟨A', c', he, hls, hc, hb⟩

/-- a record is gathered, or not -/
theorem gat_yes_any {ls : List (List UInt8)} {at_ : Int} {B : List UInt8} {Ep Ct E : Int} (hB : gatB ls at_ = B) (hE : gatEp ls at_ = Ep) (hC : gatC ls at_ = Ct) (h0 : gatE ls at_ = E) {A : Option Addr} {c m : Nat} {w : World} (hls : Ls w A ls) (hm : ls.length = m) (hm2 : m ≤ 1000000)
    (hsm : ∀ x ∈ ls, x.length ≤ 1000000) (ha : -9223372036854775808 ≤ at_ ∧ at_ ≤ 9223372036854775807) :
    Calls Try.prog 18 #[.slice A m c, .int .i64 at_] w (GatOut w B Ep Ct E) := by
  subst hB hE hC h0
  exact gather_any A c m ls (Lib.hid hm) hm2 (Lib.hid hsm) at_ ha.1 ha.2 w hls
/-- only the error is asked for -/
theorem gat_err_any {ls : List (List UInt8)} {at_ : Int} {E : Int} (h0 : gatE ls at_ = E) {A : Option Addr} {c m : Nat} {w : World} (hls : Ls w A ls) (hm : ls.length = m) (hm2 : m ≤ 1000000)
    (hsm : ∀ x ∈ ls, x.length ≤ 1000000) (ha : -9223372036854775808 ≤ at_ ∧ at_ ≤ 9223372036854775807) :
    Calls Try.prog 18 #[.slice A m c, .int .i64 at_] w fun e w' => ∃ A n c, e = .returned (.tuple #[.slice A n c, .int .i64 (gatEp ls at_), .int .i64 (gatC ls at_), .int .i64 E]) ∧ Below w.heap.size w w' := by
  subst h0
  refine (gather_any A c m ls (Lib.hid hm) hm2 (Lib.hid hsm) at_ ha.1 ha.2 w hls).mono ?_
  rintro e w' ⟨A', n, c', he, _, hb⟩
  exact ⟨A', n, c', he, hb⟩

theorem read_zeros (n : Nat) (h : n < 64) : readE (zeroB n) = 2 := readE_short _ (by rw [zeros_len]; exact h)
theorem read_zeros64 : readE (zeroB 64) = 4 := by
  refine readE_sum _ (zeros_len 64) ?_
  intro h
  have h1 : (zeroB 64).take 4 = zeroB 4 := by decide
  have h2 : (zeroB 64).drop 4 = zeroB 60 := by decide
  rw [h1, h2] at h
  have h3 : valB (zeroB 4) = valB (sum4 (zeroB 60)) := by rw [h]
  unfold sum4 at h3
  rw [val_putB_fit 4 _ (ofB (zeroB 60)).isLt] at h3
  have h4 : word (ofB (zeroB 60)) = 68323592 := by kernel_rfl
  unfold word at h4
  rw [← h3] at h4
  exact absurd h4 (by decide)

end Go.Proofs.Ytofekbipbndbbaa
