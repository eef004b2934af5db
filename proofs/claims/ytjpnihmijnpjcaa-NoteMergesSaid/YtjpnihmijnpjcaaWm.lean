/-
  Plain facts on numbers laid as bytes, the lowest first: no program stands in this text.
-/
namespace Go.Proofs.Ytjpnihmijnpjcaa.Wm

def putB : Nat → Nat → List UInt8
  | 0, _ => []
  | k + 1, v => UInt8.ofNat v :: putB k (v / 256)

def valB : List UInt8 → Nat
  | [] => 0
  | x :: r => x.toNat + 256 * valB r

theorem putB_zero (v : Nat) : putB 0 v = [] := rfl
theorem putB_succ (k v : Nat) : putB (k + 1) v = UInt8.ofNat v :: putB k (v / 256) := rfl

theorem length_putB (k : Nat) : ∀ v, (putB k v).length = k := by
  induction k with
  | zero => intro v; rfl
  | succ k ih => intro v; simp [putB, ih]

theorem putB_snoc (k : Nat) : ∀ v, putB (k + 1) v = putB k v ++ [UInt8.ofNat (v / 256 ^ k)] := by
  induction k with
  | zero => intro v; simp [putB]
  | succ k ih =>
    intro v
    rw [putB_succ, ih (v / 256), putB_succ k v, List.cons_append]
    congr 3
    rw [Nat.div_div_eq_div_mul, Nat.pow_succ, Nat.mul_comm]

theorem toNat_ofNat (v : Nat) : (UInt8.ofNat v).toNat = v % 256 := by simp

theorem val_putB (k : Nat) : ∀ v, valB (putB k v) = v % 256 ^ k := by
  induction k with
  | zero => intro v; simp [putB, valB, Nat.mod_one]
  | succ k ih =>
    intro v
    rw [putB_succ, valB, ih, toNat_ofNat, Nat.pow_succ, Nat.mul_comm (256 ^ k) 256, Nat.mod_mul]

theorem valB_append (a b : List UInt8) : valB (a ++ b) = valB a + 256 ^ a.length * valB b := by
  induction a with
  | nil => simp [valB]
  | cons x r ih =>
    rw [List.cons_append, valB, valB, ih, List.length_cons, Nat.pow_succ, Nat.mul_add, Nat.mul_comm (256 ^ r.length) 256, Nat.mul_assoc, Nat.add_assoc]

theorem valB_lt (l : List UInt8) : valB l < 256 ^ l.length := by
  induction l with
  | nil => simp [valB]
  | cons x r ih =>
    have hx := x.toNat_lt
    rw [valB, List.length_cons, Nat.pow_succ]
    have : 256 * valB r + 256 ≤ 256 * 256 ^ r.length := by
      have : valB r + 1 ≤ 256 ^ r.length := ih
      calc 256 * valB r + 256 = 256 * (valB r + 1) := by omega
        _ ≤ 256 * 256 ^ r.length := Nat.mul_le_mul_left _ this
    omega

theorem pow256 (k : Nat) : 256 ^ k = 2 ^ (8 * k) := by rw [Nat.pow_mul]

theorem valB_snoc (l : List UInt8) (x : UInt8) : valB (l ++ [x]) = valB l + 256 ^ l.length * x.toNat := by
  rw [valB_append]; simp [valB]

/-- the number that is read byte by byte: what is there, or the next byte pushed up -/
theorem valB_or (l : List UInt8) (x : UInt8) (i : Nat) (hi : l.length = i) : valB l ||| (x.toNat <<< (8 * i)) = valB (l ++ [x]) := by
  subst hi
  rw [valB_snoc, Nat.or_comm, ← Nat.shiftLeft_add_eq_or_of_lt (by rw [← pow256]; exact valB_lt l), Nat.shiftLeft_eq, ← pow256, Nat.mul_comm, Nat.add_comm]

theorem valB_u64 (l : List UInt8) (h : l.length ≤ 8) : valB l < 18446744073709551616 := by
  have h1 := valB_lt l
  have h2 : 256 ^ l.length ≤ 256 ^ 8 := Nat.pow_le_pow_right (by omega) h
  have h3 : (256 : Nat) ^ 8 = 18446744073709551616 := by decide
  omega

theorem byte_shift_lt (x : UInt8) (i : Nat) (h : i < 8) : x.toNat <<< (8 * i) < 18446744073709551616 := by
  rw [Nat.shiftLeft_eq]
  have hx : x.toNat < 256 := x.toNat_lt
  have h1 : (2 : Nat) ^ (8 * i) ≤ 2 ^ 56 := Nat.pow_le_pow_right (by omega) (by omega)
  have h2 : x.toNat * 2 ^ (8 * i) ≤ 255 * 2 ^ 56 := Nat.mul_le_mul (by omega) h1
  have h3 : (255 : Nat) * 2 ^ 56 < 18446744073709551616 := by decide
  omega

theorem val_putB_fit (k v : Nat) (h : v < 256 ^ k) : valB (putB k v) = v := by rw [val_putB, Nat.mod_eq_of_lt h]

theorem take_snoc {α : Type} (l : List α) (k : Nat) (h : k < l.length) : l.take (k + 1) = l.take k ++ [l[k]] := by
  rw [List.take_succ_eq_append_getElem h]

end Go.Proofs.Ytjpnihmijnpjcaa.Wm
