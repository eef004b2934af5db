/-
  Sums as numbers of 32 bits: halving, what bytes turn in, what a sum of two lots is. No program stands in this text.
-/
namespace Go.Proofs.Ytknjkihcpcimpaa.Crc

/-- a number halved, with the polynomial, if its lowest bit was 1 -/
def half (v : BitVec 32) : BitVec 32 := (v >>> 1) ^^^ (if v.getLsbD 0 then 0xEDB88320#32 else 0#32)

theorem xor_swap (a b c d : BitVec 32) : (a ^^^ b) ^^^ (c ^^^ d) = (a ^^^ c) ^^^ (b ^^^ d) := by
  rw [BitVec.xor_assoc, BitVec.xor_assoc, ← BitVec.xor_assoc b c d, BitVec.xor_comm b c, BitVec.xor_assoc c b d]

theorem half_xor (a b : BitVec 32) : half (a ^^^ b) = half a ^^^ half b := by
  unfold half
  rw [BitVec.ushiftRight_xor_distrib, BitVec.getLsbD_xor, xor_swap]
  congr 1
  cases a.getLsbD 0 <;> cases b.getLsbD 0 <;> simp

def halfs : Nat → BitVec 32 → BitVec 32
  | 0, v => v
  | n + 1, v => halfs n (half v)

theorem halfs_xor (n : Nat) : ∀ a b, halfs n (a ^^^ b) = halfs n a ^^^ halfs n b := by
  induction n with
  | zero => intro a b; rfl
  | succ n ih => intro a b; rw [halfs, half_xor, ih]; rfl

theorem halfs_add (m : Nat) : ∀ n v, halfs (m + n) v = halfs n (halfs m v) := by
  induction m with
  | zero => intro n v; rw [Nat.zero_add]; rfl
  | succ m ih => intro n v; rw [Nat.succ_add]; exact ih n (half v)

theorem halfs_succ (n : Nat) (v : BitVec 32) : halfs (n + 1) v = half (halfs n v) := halfs_add n 1 v

theorem half_zero : half 0#32 = 0#32 := by decide
theorem halfs_zero (n : Nat) : halfs n 0#32 = 0#32 := by
  induction n with
  | zero => rfl
  | succ n ih => rw [halfs, half_zero, ih]

theorem half_eq_zero (v : BitVec 32) (h : half v = 0#32) : v = 0#32 := by
  have h0 : v.getLsbD 0 = false := by
    have h31 : (half v).getLsbD 31 = false := by rw [h]; rfl
    unfold half at h31
    rw [BitVec.getLsbD_xor, BitVec.getLsbD_ushiftRight] at h31
    cases hv : v.getLsbD 0
    · rfl
    · rw [hv] at h31
      simp at h31
  unfold half at h
  rw [h0] at h
  have h' : v >>> 1 = 0#32 := by simpa using h
  apply BitVec.eq_of_getLsbD_eq
  intro i hi
  rcases Nat.eq_zero_or_pos i with rfl | hp
  · rw [h0]; rfl
  · have := congrArg (fun x => x.getLsbD (i - 1)) h'
    simp only [BitVec.getLsbD_ushiftRight] at this
    rw [show 1 + (i - 1) = i from by omega] at this
    rw [this]
    simp

theorem halfs_eq_zero (n : Nat) : ∀ v, halfs n v = 0#32 → v = 0#32 := by
  induction n with
  | zero => intro v h; exact h
  | succ n ih => intro v h; exact half_eq_zero v (ih _ h)

theorem xor_eq_zero {a b : BitVec 32} (h : a ^^^ b = 0#32) : a = b := by
  have : (a ^^^ b) ^^^ b = 0#32 ^^^ b := by rw [h]
  rw [BitVec.xor_assoc, BitVec.xor_self, BitVec.xor_zero, BitVec.zero_xor] at this
  exact this

theorem halfs_inj {n : Nat} {a b : BitVec 32} (h : halfs n a = halfs n b) : a = b := by
  apply xor_eq_zero
  apply halfs_eq_zero n
  rw [halfs_xor, h, BitVec.xor_self]

/-- a byte as a number of 32 bits -/
def wide (x : UInt8) : BitVec 32 := BitVec.ofNat 32 x.toNat

def step (v : BitVec 32) (x : UInt8) : BitVec 32 := halfs 8 (v ^^^ wide x)
def st (v : BitVec 32) : List UInt8 → BitVec 32
  | [] => v
  | x :: r => st (step v x) r
/-- a sum with more bytes -/
def more (s : BitVec 32) (l : List UInt8) : BitVec 32 := ~~~ (st (~~~ s) l)
def ofB (l : List UInt8) : BitVec 32 := more 0#32 l

theorem st_append (a b : List UInt8) : ∀ v, st v (a ++ b) = st (st v a) b := by
  induction a with
  | nil => intro v; rfl
  | cons x r ih => intro v; exact ih _
theorem st_snoc (v : BitVec 32) (l : List UInt8) (x : UInt8) : st v (l ++ [x]) = step (st v l) x := by rw [st_append]; rfl

theorem more_nil (s : BitVec 32) : more s [] = s := by unfold more st; exact BitVec.not_not
theorem ofB_nil : ofB [] = 0#32 := more_nil _

/-- sums of as many bytes are turned by what they differ in alone -/
theorem st_inj (l : List UInt8) : ∀ v u, st v l = st u l → v = u := by
  induction l with
  | nil => intro v u h; exact h
  | cons x r ih =>
    intro v u h
    have := halfs_inj (ih _ _ h)
    have h2 := congrArg (· ^^^ wide x) this
    simpa [BitVec.xor_assoc] using h2

theorem wide_inj {x y : UInt8} (h : wide x = wide y) : x = y := by
  have h2 := congrArg BitVec.toNat h
  unfold wide at h2
  have hx := x.toNat_lt
  have hy := y.toNat_lt
  rw [BitVec.toNat_ofNat, BitVec.toNat_ofNat, Nat.mod_eq_of_lt (by omega), Nat.mod_eq_of_lt (by omega)] at h2
  exact UInt8.toNat_inj.1 h2

theorem not_inj {a b : BitVec 32} (h : ~~~ a = ~~~ b) : a = b := by
  have := congrArg (~~~ ·) h
  simpa using this

/-- one byte that is another makes another sum -/
theorem ofB_turned (a r : List UInt8) (x y : UInt8) (h : ofB (a ++ x :: r) = ofB (a ++ y :: r)) : x = y := by
  have h1 := not_inj h
  rw [st_append, st_append] at h1
  have h2 := halfs_inj (st_inj r _ _ h1)
  apply wide_inj
  have h3 := congrArg (st (~~~ 0#32) a ^^^ ·) h2
  simpa [← BitVec.xor_assoc] using h3

theorem wide_xor (x y : UInt8) : wide (x ^^^ y) = wide x ^^^ wide y := by
  unfold wide
  apply BitVec.eq_of_toNat_eq
  have hx := x.toNat_lt
  have hy := y.toNat_lt
  have hxy := (x ^^^ y).toNat_lt
  rw [BitVec.toNat_xor, BitVec.toNat_ofNat, BitVec.toNat_ofNat, BitVec.toNat_ofNat, Nat.mod_eq_of_lt (by omega), Nat.mod_eq_of_lt (by omega), Nat.mod_eq_of_lt (by omega), UInt8.toNat_xor]

theorem st_xor (n : Nat) : ∀ (a b : List UInt8) (v u : BitVec 32), a.length = n → b.length = n → st (v ^^^ u) (List.zipWith (· ^^^ ·) a b) = st v a ^^^ st u b := by
  induction n with
  | zero =>
    intro a b v u ha hb
    obtain rfl := List.eq_nil_of_length_eq_zero ha
    obtain rfl := List.eq_nil_of_length_eq_zero hb
    rfl
  | succ n ih =>
    intro a b v u ha hb
    rcases a with _ | ⟨x, a⟩
    · cases ha
    rcases b with _ | ⟨y, b⟩
    · cases hb
    rw [List.zipWith_cons_cons, st, st, st, ← ih a b _ _ (by simpa using ha) (by simpa using hb)]
    congr 1
    unfold step
    rw [wide_xor, xor_swap, halfs_xor]

theorem st_zeros (n : Nat) : ∀ v, st v (List.replicate n 0) = halfs (8 * n) v := by
  induction n with
  | zero => intro v; rfl
  | succ n ih =>
    intro v
    rw [List.replicate_succ, st, ih]
    rw [show 8 * (n + 1) = 8 + 8 * n from by omega, halfs_add]
    congr 1
    unfold step
    rw [show wide 0 = 0#32 from by decide, BitVec.xor_zero]

theorem not_eq (v : BitVec 32) : ~~~ v = v ^^^ BitVec.allOnes 32 := by rw [BitVec.xor_allOnes]

/-- three lots, byte by byte -/
theorem ofB_three (a b : List UInt8) (n : Nat) (ha : a.length = n) (hb : b.length = n) : ofB (List.zipWith (· ^^^ ·) a b) = (ofB a ^^^ ofB b) ^^^ ofB (List.replicate n 0) := by
  have key : st (~~~ 0#32) (List.zipWith (· ^^^ ·) a b) = st (~~~ 0#32) a ^^^ st (~~~ 0#32) b ^^^ st (~~~ 0#32) (List.replicate n 0) := by
    have h1 := st_xor n a b 0#32 (~~~ 0#32) ha hb
    rw [BitVec.zero_xor] at h1
    rw [h1]
    have h2 := st_xor n a (List.replicate n 0) (~~~ 0#32) (~~~ 0#32) ha (by simp)
    rw [BitVec.xor_self] at h2
    have h3 : List.zipWith (· ^^^ ·) a (List.replicate n 0) = a := by
      subst ha
      clear h1 h2 hb
      induction a with
      | nil => rfl
      | cons x r ih => rw [List.length_cons, List.replicate_succ, List.zipWith_cons_cons, ih, UInt8.xor_zero]
    rw [h3] at h2
    rw [h2]
    rw [BitVec.xor_assoc, BitVec.xor_assoc]
    congr 1
    rw [BitVec.xor_comm]
  unfold ofB more
  rw [key]
  simp only [not_eq]
  generalize st _ a = x
  generalize st _ b = y
  generalize st _ (List.replicate n 0) = z
  generalize BitVec.allOnes 32 = o
  have e1 : ((x ^^^ o) ^^^ (y ^^^ o)) = x ^^^ y := by rw [xor_swap, BitVec.xor_self, BitVec.xor_zero]
  rw [e1, BitVec.xor_assoc (x ^^^ y) z o]

/-- bytes of nothing behind others: as a join with the sum of nothing -/
theorem more_zeros (s : BitVec 32) (n : Nat) : more s (List.replicate n 0) = halfs (8 * n) s ^^^ ofB (List.replicate n 0) := by
  unfold ofB more
  rw [st_zeros, st_zeros, not_eq, not_eq (halfs _ (~~~ 0#32)), not_eq s, halfs_xor, ← BitVec.xor_assoc, BitVec.xor_assoc, BitVec.xor_assoc]
  rw [show ~~~ 0#32 = BitVec.allOnes 32 from by decide]

/-- what the table has at i -/
def tab (i : Nat) : BitVec 32 := halfs 8 (BitVec.ofNat 32 i)

theorem halfs_low (k : Nat) : ∀ v : BitVec 32, (∀ i, i < k → v.getLsbD i = false) → halfs k v = v >>> k := by
  induction k with
  | zero => intro v _; simp [halfs]
  | succ k ih =>
    intro v h
    have h0 := h 0 (by omega)
    have hh : half v = v >>> 1 := by unfold half; rw [h0]; simp
    rw [halfs, hh, ih]
    · rw [← BitVec.shiftRight_add, Nat.add_comm]
    · intro i hi
      rw [BitVec.getLsbD_ushiftRight]
      exact h _ (by omega)

/-- one byte, by the table -/
theorem step_tab (v : BitVec 32) (x : UInt8) : step v x = tab (v.toNat % 256 ^^^ x.toNat) ^^^ (v >>> 8) := by
  have hx : x.toNat < 256 := x.toNat_lt
  have e : v ^^^ wide x = BitVec.ofNat 32 (v.toNat % 256 ^^^ x.toNat) ^^^ ((v >>> 8) <<< 8) := by
    apply BitVec.eq_of_getLsbD_eq
    intro i hi
    have hb : (wide x).getLsbD i = (decide (i < 8) && x.toNat.testBit i) := by
      unfold wide
      rw [BitVec.getLsbD_ofNat]
      by_cases h8 : i < 8
      · simp [h8, hi]
      · simp only [h8, decide_false, Bool.false_and]
        rw [Nat.testBit_lt_two_pow (Nat.lt_of_lt_of_le hx (show 2 ^ 8 ≤ 2 ^ i from Nat.pow_le_pow_right (by omega) (by omega)))]
        simp
    rw [BitVec.getLsbD_xor, BitVec.getLsbD_xor, hb, BitVec.getLsbD_ofNat, Nat.testBit_xor, show (256 : Nat) = 2 ^ 8 from rfl, Nat.testBit_mod_two_pow, BitVec.getLsbD_shiftLeft, BitVec.getLsbD_ushiftRight, ← BitVec.testBit_toNat]
    by_cases h8 : i < 8
    · simp [h8, hi]
    · have : x.toNat.testBit i = false := Nat.testBit_lt_two_pow (Nat.lt_of_lt_of_le hx (show 2 ^ 8 ≤ 2 ^ i from Nat.pow_le_pow_right (by omega) (by omega)))
      simp [h8, hi, this]
      rw [show 8 + (i - 8) = i from by omega]
      rfl
  unfold step
  rw [e, halfs_xor]
  unfold tab
  congr 1
  rw [halfs_low]
  · apply BitVec.eq_of_getLsbD_eq
    intro i hi
    rw [BitVec.getLsbD_ushiftRight, BitVec.getLsbD_shiftLeft]
    simp
    intro h
    have := BitVec.lt_of_getLsbD h
    omega
  · intro i hi
    rw [BitVec.getLsbD_shiftLeft]
    simp [hi]

/-- entries of bytes that have no bit together -/
theorem tab_xor (i j : Nat) : tab (i ^^^ j) = tab i ^^^ tab j := by
  unfold tab
  rw [← halfs_xor]
  congr 1
  apply BitVec.eq_of_toNat_eq
  rw [BitVec.toNat_xor, BitVec.toNat_ofNat, BitVec.toNat_ofNat, BitVec.toNat_ofNat, Nat.xor_mod_two_pow]

/-- one number times another: by the digits from the top on, k of them -/
def tim : Nat → BitVec 32 → BitVec 32 → BitVec 32
  | 0, _, _ => 0#32
  | k + 1, b, a => (if a.getLsbD 31 then b else 0#32) ^^^ tim k (half b) (a <<< 1)

theorem tim_zero (k : Nat) : ∀ b, tim k b 0#32 = 0#32 := by
  induction k with
  | zero => intro b; rfl
  | succ k ih => intro b; rw [tim, show (0#32 <<< 1 : BitVec 32) = 0#32 from by decide, ih]; simp

def one : BitVec 32 := 0x80000000#32

theorem half_up (a : BitVec 32) : (if a.getLsbD 31 then one else 0#32) ^^^ half (a <<< 1) = a := by
  have h0 : (a <<< 1).getLsbD 0 = false := by simp
  unfold half
  rw [h0]
  simp only [Bool.false_eq_true, if_false, BitVec.xor_zero]
  apply BitVec.eq_of_getLsbD_eq
  intro i hi
  rw [BitVec.getLsbD_xor, BitVec.getLsbD_ushiftRight, BitVec.getLsbD_shiftLeft]
  rcases Nat.lt_or_ge i 31 with h | h
  · have h1 : (if a.getLsbD 31 then one else 0#32).getLsbD i = false := by
      split
      · unfold one
        rw [show (0x80000000#32 : BitVec 32) = BitVec.twoPow 32 31 from by decide, BitVec.getLsbD_twoPow]
        simp; omega
      · simp
    rw [h1]
    simp
    intro _
    omega
  · obtain rfl : i = 31 := by omega
    cases a.getLsbD 31 <;> rfl

theorem tim_halfs (k : Nat) : ∀ (m : Nat) (a : BitVec 32), a <<< k = 0#32 → tim k (halfs m one) a = halfs m a := by
  induction k with
  | zero => intro m a h; rw [show a = 0#32 from by simpa using h, halfs_zero]; rfl
  | succ k ih =>
    intro m a h
    rw [tim, ← halfs_succ, ih (m + 1) (a <<< 1) (by rw [← BitVec.shiftLeft_add, Nat.add_comm]; exact h)]
    have h2 := congrArg (halfs m) (half_up a)
    rw [halfs_xor] at h2
    rw [← h2]
    congr 1
    cases a.getLsbD 31
    · simp [halfs_zero]
    · rfl

theorem shl_all (a : BitVec 32) : a <<< 32 = 0#32 := by
  apply BitVec.eq_of_getLsbD_eq
  intro i hi
  rw [BitVec.getLsbD_shiftLeft]
  simp

/-- two numbers multiplied -/
def times (a b : BitVec 32) : BitVec 32 := tim 32 b a
theorem times_halfs (a : BitVec 32) (m : Nat) : times a (halfs m one) = halfs m a := tim_halfs 32 m a (shl_all a)

def joinB (a b : BitVec 32) (n : Int) : BitVec 32 := halfs (8 * n.toNat) a ^^^ b

/- the table, filled from the entry of the highest bit down -/
theorem tab_half (K : Nat) (h : K < 8) : half (tab (2 ^ (K + 1))) = tab (2 ^ K) := by
  rcases K with _ | _ | _ | _ | _ | _ | _ | _ | K
  all_goals first | (exfalso; omega) | decide
theorem tab_top : tab (2 ^ 8) = 1#32 := by decide
theorem tab_zero : tab 0 = 0#32 := halfs_zero 8

/-- what has been filled once the bits above 2^K are in -/
def fillA (K i : Nat) : BitVec 32 := if i % 2 ^ K = 0 then tab i else 0#32
/-- and, of the next bit, the places below 'above' -/
def fillB (K above i : Nat) : BitVec 32 := if i % 2 ^ K = 0 ∧ (i < above ∨ i % 2 ^ (K + 1) = 0) then tab i else 0#32

theorem fill_start (i : Nat) (h : i < 256) : fillA 8 i = 0#32 := by
  unfold fillA
  split
  · next h0 => rw [show i = 0 from by omega, tab_zero]
  · rfl
theorem fill_end (i : Nat) : fillA 0 i = tab i := by
  unfold fillA
  rw [if_pos (by omega)]
theorem fill_in (K i : Nat) (h : K < 8) : fillB K 0 i = fillA (K + 1) i := by
  unfold fillA fillB
  rcases K with _ | _ | _ | _ | _ | _ | _ | _ | K
  all_goals first | (exfalso; omega) | (congr 1; apply propext; omega)
theorem fill_out (K above i : Nat) (h : 256 ≤ above) (hi : i < 256) : fillB K above i = fillA K i := by
  unfold fillA fillB
  by_cases h0 : i % 2 ^ K = 0
  · rw [if_pos h0, if_pos ⟨h0, .inl (by omega)⟩]
  · rw [if_neg h0, if_neg fun h => h0 h.1]
theorem bits_apart (K j : Nat) : (2 ^ (K + 1) * j) ^^^ 2 ^ K = 2 ^ (K + 1) * j + 2 ^ K := by
  have hlt : 2 ^ K < 2 ^ (K + 1) := Nat.pow_lt_pow_right (by omega) (by omega)
  rw [Nat.two_pow_add_eq_or_of_lt hlt]
  apply Nat.eq_of_testBit_eq
  intro i
  rw [Nat.testBit_xor, Nat.testBit_or, Nat.testBit_two_pow_mul, Nat.testBit_two_pow]
  by_cases h1 : K = i
  · subst h1
    simp
  · simp [h1]
theorem fill_at (K j : Nat) (h : K < 8) : fillB K (2 ^ (K + 1) * j) (2 ^ (K + 1) * j) = tab (2 ^ (K + 1) * j) := by
  unfold fillB
  rw [if_pos]
  rcases K with _ | _ | _ | _ | _ | _ | _ | _ | K
  all_goals first | (exfalso; omega) | omega
theorem fill_step (K j i : Nat) (h : K < 8) : fillB K (2 ^ (K + 1) * (j + 1)) i = if i = 2 ^ (K + 1) * j + 2 ^ K then tab (2 ^ (K + 1) * j) ^^^ tab (2 ^ K) else fillB K (2 ^ (K + 1) * j) i := by
  rw [← tab_xor, bits_apart K j]
  unfold fillB
  rcases K with _ | _ | _ | _ | _ | _ | _ | _ | K
  all_goals first
    | (exfalso; omega)
    | (split
       · next h1 => split
                    · next h2 => rw [h2]
                    · next h2 => rw [if_pos (by omega)]
       · next h1 => split
                    · next h2 => exfalso; omega
                    · next h2 => rw [if_neg (by omega)])

end Go.Proofs.Ytknjkihcpcimpaa.Crc
