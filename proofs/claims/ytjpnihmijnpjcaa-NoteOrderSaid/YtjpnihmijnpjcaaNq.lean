/-
  What bytes tell is laid as it was. No program.
-/
import Derived.Test.YtjpnihmijnpjcaaNp
namespace Go.Proofs.Ytjpnihmijnpjcaa
set_option maxRecDepth 100000
set_option linter.unusedVariables false
set_option linter.unusedSimpArgs false
open Go.RowKit Wm Nn

namespace Nn
theorem put_val : ∀ l : List UInt8, putB l.length (valB l) = l
  | [] => rfl
  | x :: l => by
    have h : valB (x :: l) = x.toNat + 256 * valB l := rfl
    have hx := x.toNat_lt
    rw [List.length_cons, putB_succ, h]
    have h1 : (x.toNat + 256 * valB l) / 256 = valB l := by omega
    have h2 : UInt8.ofNat (x.toNat + 256 * valB l) = x := by
      apply UInt8.toNat_inj.1
      rw [toNat_ofNat]
      omega
    rw [h1, h2, put_val l]
theorem put_num (b : List UInt8) {i n : Nat} (h : i + n ≤ b.length) : putB n (num b i n) = (b.drop i).take n := by
  have hl : ((b.drop i).take n).length = n := by rw [List.length_take, List.length_drop]; omega
  unfold num
  conv => lhs; rw [← hl]
  rw [hl]
  have := put_val ((b.drop i).take n)
  rw [hl] at this
  exact this
theorem seg (b : List UInt8) (i n m : Nat) : (b.drop i).take n ++ (b.drop (i + n)).take m = (b.drop i).take (n + m) := by
  rw [List.take_add, List.drop_drop]
theorem sgn_sgnI (v : Nat) (h : v < 18446744073709551616) : sgn (sgnI (v : Int)) = v := by
  unfold sgn sgnI wrap64
  simp only [IntKind.wrap, IntKind.bits, IntKind.signed]
  simp
  omega
theorem imB_tell (b : List UInt8) {i : Nat} (h : 9 + 33 * i + 33 ≤ b.length) : imB (tIm b i) = (b.drop (9 + 33 * i)).take 33 := by
  have h1 := put_num b (i := 9 + 33 * i) (n := 1) (by omega)
  have h2 := seg b (9 + 33 * i) 1 32
  rw [← h1] at h2
  have e : 9 + 33 * i + 1 = 10 + 33 * i := by omega
  rw [e] at h2
  exact h2
theorem ims_tell (b : List UInt8) : ∀ m, 9 + 33 * m ≤ b.length → ims (tIms b m) = (b.drop 9).take (33 * m)
  | 0, _ => rfl
  | m + 1, h => by
    rw [tIms_step, ims_step, ims_tell b m (by omega), imB_tell b (by omega), show 33 * (m + 1) = 33 * m + 33 by omega, ← seg b 9 (33 * m) 33]
theorem opB_tell (b : List UInt8) {p i : Nat} (h : p + 9 * i + 9 ≤ b.length) : opB (tOp b p i) = (b.drop (p + 9 * i)).take 9 := by
  have h1 := put_num b (i := p + 9 * i) (n := 1) (by omega)
  have h3 := put_num b (i := p + 9 * i + 1) (n := 8) (by omega)
  have h2 := seg b (p + 9 * i) 1 8
  rw [← h1, ← h3] at h2
  have hv : num b (p + 9 * i + 1) 8 < 18446744073709551616 := num_lt b _ 8
  have e : sgn (tOp b p i).b = num b (p + 9 * i + 1) 8 := sgn_sgnI _ hv
  unfold opB
  rw [e]
  exact h2
theorem ops_tell (b : List UInt8) (p : Nat) : ∀ q, p + 9 * q ≤ b.length → ops (tOps b p q) = (b.drop p).take (9 * q)
  | 0, _ => rfl
  | q + 1, h => by
    rw [tOps_step, ops_step, ops_tell b p q (by omega), opB_tell b (by omega), show 9 * (q + 1) = 9 * q + 9 by omega, ← seg b p (9 * q) 9]
theorem tIms_len (b : List UInt8) (m : Nat) : (tIms b m).length = m := by unfold tIms; rw [List.length_map, List.length_range]
theorem tOps_len (b : List UInt8) (p q : Nat) : (tOps b p q).length = q := by unfold tOps; rw [List.length_map, List.length_range]
theorem enc_tell {b : List UInt8} (h : decE b = 0) : enc (tell b) = b := by
  obtain ⟨h1, h2, h3, _⟩ := dec_ok h
  unfold enc encH tell
  simp only [Int.toNat_natCast]
  rw [tIms_len, tOps_len, put_num b (by omega), put_num b (by omega)]
  have e1 : putB 2 (mOf b) = (b.drop 7).take 2 := put_num b (by omega)
  have e2 : putB 2 (qOf b) = (b.drop (9 + 33 * mOf b)).take 2 := put_num b (by omega)
  rw [e1, e2, ims_tell b _ (by omega), ops_tell b _ _ (by omega)]
  have s1 := seg b 0 1 6
  have s2 := seg b 0 7 2
  have s3 := seg b 0 9 (33 * mOf b)
  have s4 := seg b 0 (9 + 33 * mOf b) 2
  have s5 := seg b 0 (9 + 33 * mOf b + 2) (9 * qOf b)
  simp only [Nat.zero_add, Nat.reduceAdd] at s1 s2 s3 s4 s5
  rw [s1, s2, s3, s4, show 11 + 33 * mOf b = 9 + 33 * mOf b + 2 by omega, s5]
  rw [List.drop_zero, List.take_of_length_le (by omega)]
/-- what is told may be, and is laid as it was -/
theorem told {b : List UInt8} (h : decE b = 0) : San (decN b) ∧ enc (decN b) = b ∧ encB (decN b) = b ∧ encE (decN b) = 0 := by
  have e : decN b = tell b := by unfold decN; rw [if_pos h]
  have hs := (dec_ok h).2.2.2
  rw [e]
  exact ⟨hs, enc_tell h, by unfold encB; rw [if_pos hs]; exact enc_tell h, by unfold encE; rw [if_pos hs]⟩
theorem not_told {b : List UInt8} (h : decE b ≠ 0) : decN b = Nt.zero := by unfold decN; rw [if_neg h]
end Nn

end Go.Proofs.Ytjpnihmijnpjcaa
