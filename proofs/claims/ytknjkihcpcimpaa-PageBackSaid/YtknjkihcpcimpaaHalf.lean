/-
  A number halved, by the program and by the document; two numbers multiplied; joins.
-/
import Derived.Test.YtknjkihcpcimpaaChecked
import Derived.Test.YtknjkihcpcimpaaCrc
import Derived.Outline
import Derived.WalkKit
import Derived.WalkLawsBesides
import Derived.Laws.BitsAllLaws
import Derived.Lib.Hide
namespace Go.Proofs.Ytknjkihcpcimpaa
set_option maxRecDepth 100000
open Go.RowKit Crc

/-- a number of 32 bits as the program has it -/
def word (v : BitVec 32) : Int := (v.toNat : Int)

/-- a call that answers v and turns nothing, in every world -/
def Says (f : Nat) (args : Array Value) (v : Value) : Prop := ∀ w : World, Calls Try.prog f args w fun e w' => e = .returned v ∧ w = w'

theorem word_bd (v : BitVec 32) : 0 ≤ word v ∧ word v ≤ 4294967295 := by
  have := v.isLt
  unfold word
  omega

theorem word_inj {a b : BitVec 32} (h : word a = word b) : a = b := by
  unfold word at h
  exact BitVec.eq_of_toNat_eq (by omega)

theorem word_beq (a b : BitVec 32) : (word a == word b) = decide (a = b) := by
  by_cases h : a = b
  · subst h; simp
  · rw [decide_eq_false h, beq_eq_false_iff_ne]
    exact fun e => h (word_inj e)

theorem word_div (v : BitVec 32) (k n : Nat) (hn : n = 2 ^ k) : word v / (n : Int) = word (v >>> k) := by
  subst hn
  unfold word
  rw [BitVec.toNat_ushiftRight, Nat.shiftRight_eq_div_pow]
  rfl
theorem word_div2 (v : BitVec 32) : word v / (2 : Int) = word (v >>> (1 : Nat)) := word_div v 1 2 rfl
theorem word_div256 (v : BitVec 32) : word v / (256 : Int) = word (v >>> (8 : Nat)) := word_div v 8 256 rfl

theorem word_xor (a b : BitVec 32) : bits .xor .u32 (word a) (word b) = word (a ^^^ b) := by
  unfold word
  rw [u32_xor_nat _ _ a.isLt b.isLt, BitVec.toNat_xor]

theorem word_and (a b : BitVec 32) : bits .and .u32 (word a) (word b) = word (a &&& b) := by
  unfold word
  rw [u32_and_nat _ _ a.isLt b.isLt, BitVec.toNat_and]

theorem word_poly (v : BitVec 32) : bits .xor .u32 (word v / 2) 3988292384 = word ((v >>> 1) ^^^ 0xEDB88320#32) := by
  rw [word_div2, ← word_xor]
  rfl

theorem low_nat (v : BitVec 32) : v.toNat % 2 = if v.getLsbD 0 then 1 else 0 := by
  rw [← BitVec.testBit_toNat, Nat.testBit_zero]
  by_cases h : v.toNat % 2 = 1
  · rw [if_pos (by simpa using h)]; exact h
  · rw [if_neg (by simpa using h)]; omega

theorem low_mod (v : BitVec 32) : word v % 2 = if v.getLsbD 0 then 1 else 0 := by
  have := low_nat v
  unfold word
  split
  · next h => rw [if_pos h] at this; omega
  · next h => rw [if_neg h] at this; omega

theorem low_and (v : BitVec 32) : bits .and .u32 (word v) 1 = if v.getLsbD 0 then 1 else 0 := by
  have h := u32_and_nat v.toNat 1 v.isLt (by decide)
  rw [nat_mask1] at h
  rw [← low_mod]
  exact h

theorem half_yes (v : BitVec 32) (h : v.getLsbD 0 = true) : (v >>> 1) ^^^ 0xEDB88320#32 = half v := by
  unfold half; rw [if_pos h]
theorem half_no (v : BitVec 32) (h : v.getLsbD 0 = false) : v >>> 1 = half v := by
  unfold half; rw [h]; simp

theorem ret_u32 {a b : BitVec 32} (h : a = b) : Ending.returned (.int .u32 (word a)) = .returned (.int .u32 (word b)) := by rw [h]

set_option maxHeartbeats 400000 in
theorem halved_any (v : BitVec 32) : Says 62 #[.int .u32 (word v)] (.int .u32 (word (half v))) := by
  intro w
  obtain ⟨h0, h1⟩ := word_bd v
  have ha := low_and v
  cases hv : v.getLsbD 0
  · rw [hv] at ha
    simp only [Bool.false_eq_true, if_false] at ha
    have hx := half_no v hv
    have hd := word_div2 v
    rw [hx] at hd
    clear hv hx
    go_enter Try.func62, Try.ntmps62
    go_wp2_with fail
    go_ret
    first | exact ⟨rfl, rfl⟩ | exact ⟨by rw [← hd]; rfl, rfl⟩
  · rw [hv] at ha
    simp only [if_true] at ha
    have hx := half_yes v hv
    have hd := word_poly v
    rw [hx] at hd
    clear hv hx
    go_enter Try.func62, Try.ntmps62
    go_wp2_with fail
    go_ret
    first | exact ⟨rfl, rfl⟩ | exact ⟨by rw [← hd]; rfl, rfl⟩

set_option maxHeartbeats 400000 in
theorem refhalf_any (v : BitVec 32) : Says 59 #[.int .u32 (word v)] (.int .u32 (word (half v))) := by
  intro w
  obtain ⟨h0, h1⟩ := word_bd v
  have ha := low_mod v
  cases hv : v.getLsbD 0
  · rw [hv] at ha
    simp only [Bool.false_eq_true, if_false] at ha
    have hx := half_no v hv
    have hd := word_div2 v
    rw [hx] at hd
    clear hv hx
    go_enter Try.func59, Try.ntmps59
    go_wp2_with fail
    go_ret
    first | exact ⟨rfl, rfl⟩ | exact ⟨by rw [← hd]; rfl, rfl⟩
  · rw [hv] at ha
    simp only [if_true] at ha
    have hx := half_yes v hv
    have hd := word_poly v
    rw [hx] at hd
    clear hv hx
    go_enter Try.func59, Try.ntmps59
    go_wp2_with fail
    go_ret
    first | exact ⟨rfl, rfl⟩ | exact ⟨by rw [← hd]; rfl, rfl⟩

end Go.Proofs.Ytknjkihcpcimpaa
