/-
  Whole numbers as numbers with a point, by the document's own way.
-/
import Derived.Test.YtbdhmjgnklkopaaDigits
namespace Go.Proofs.Ytbdhmjgnklkopaa
open Go.RowKit Fm

theorem or_sum (s E F : Nat) (hs : s = 0 ∨ s = 9223372036854775808) (hE : E < 2048) (hF : F < 4503599627370496) : bits .or .u64 (s : Int) ((E : Int) * 4503599627370496) = ((s + E * 4503599627370496 : Nat) : Int) ∧ bits .or .u64 ((s + E * 4503599627370496 : Nat) : Int) (F : Int) = ((s + E * 4503599627370496 + F : Nat) : Int) := by
  have h1 : s ||| (E * 4503599627370496) = s + E * 4503599627370496 := nat_join 63 s _ (by omega) (by omega)
  have h2 : (s + E * 4503599627370496) ||| F = s + E * 4503599627370496 + F := nat_join 52 _ F (by omega) hF
  constructor
  · rw [← h1]
    have := u64_or_nat s (E * 4503599627370496) (by omega) (by omega)
    rw [← this]
    congr 1
  · rw [← h2]
    exact u64_or_nat _ F (by omega) (by omega)

theorem fr_of {X : Nat} (h1 : 4503599627370496 ≤ X) (h2 : X < 9007199254740992) : fr X = X - 4503599627370496 := by unfold fr; omega
theorem fr_lt (X : Nat) : fr X < 4503599627370496 := Nat.mod_lt _ (by decide)

theorem wrap_in {x : Int} (h1 : 0 ≤ x) (h2 : x < 18446744073709551616) : IntKind.u64.wrap x = x := by rw [IntKind.wrap_u64]; omega

/-- the number with few digits: what is laid -/
theorem lo_laid {m L : Nat} (h0 : 1 ≤ m) (hL : m.log2 = L) (h2 : L ≤ 52) : IntKind.u64.wrap ((m : Int) * 2 ^ (52 - L)) = ((m * 2 ^ (52 - L) : Nat) : Int) ∧ 4503599627370496 ≤ m * 2 ^ (52 - L) ∧ m * 2 ^ (52 - L) < 9007199254740992 ∧ ofN m = (L + 1023) * 4503599627370496 + fr (m * 2 ^ (52 - L)) := by
  have hb := up_bounds (m := m) (by omega) (by omega)
  rw [hL] at hb
  have e : ((m : Int) * 2 ^ (52 - L)) = ((m * 2 ^ (52 - L) : Nat) : Int) := by
    rw [Int.natCast_mul, Int.natCast_pow]; rfl
  refine ⟨?_, hb.1, hb.2, ?_⟩
  · rw [e]; exact wrap_in (by omega) (by omega)
  · rw [fr_of hb.1 hb.2]
    unfold ofN
    rw [if_neg (by omega), hL, if_pos h2]
    omega

/-- the number with many digits: what is kept, what is dropped, a half -/
theorem hi_laid {m L : Nat} (h0 : 1 ≤ m) (h1 : m ≤ 9223372036854775808) (hL : m.log2 = L) (h2 : 53 ≤ L) : ∃ Q Y R H : Nat, (m : Int) / 2 ^ (L - 52) = (Q : Int) ∧ IntKind.u64.wrap ((Q : Int) * 2 ^ (L - 52)) = (Y : Int) ∧ Y ≤ m ∧ (m : Int) - (Y : Int) = (R : Int) ∧ IntKind.u64.wrap (2 ^ (L - 52 - 1)) = (H : Int) ∧ 4503599627370496 ≤ Q ∧ Q < 9007199254740992 ∧ R ≤ m ∧
    ofN m = (L + 1022) * 4503599627370496 + Q + if H < R ∨ (R = H ∧ Q % 2 = 1) then 1 else 0 := by
  have hb := down_bounds (m := m) (by omega) (by omega)
  have hlt : L ≤ 63 := by rw [← hL]; exact log2_le (by omega) (by omega)
  rw [hL] at hb
  have hp : 0 < 2 ^ (L - 52) := Nat.two_pow_pos _
  have hd : 2 ^ (L - 52) = 2 * 2 ^ (L - 52 - 1) := by
    have e : L - 52 = (L - 52 - 1) + 1 := by omega
    generalize L - 52 - 1 = t at e ⊢
    rw [e, Nat.pow_succ]; omega
  have h11 : 2 ^ (L - 52) ≤ 2 ^ 11 := Nat.pow_le_pow_right (by decide) (by omega)
  have e11 : (2 : Nat) ^ 11 = 2048 := by decide
  have hdm := Nat.div_add_mod m (2 ^ (L - 52))
  have hmm : m % 2 ^ (L - 52) < 2 ^ (L - 52) := Nat.mod_lt _ hp
  have hY : m / 2 ^ (L - 52) * 2 ^ (L - 52) + m % 2 ^ (L - 52) = m := by rw [Nat.mul_comm]; exact hdm
  refine ⟨m / 2 ^ (L - 52), m / 2 ^ (L - 52) * 2 ^ (L - 52), m % 2 ^ (L - 52), 2 ^ (L - 52 - 1), ?_, ?_, by omega, by omega, ?_, hb.1, hb.2, by omega, ?_⟩
  · rw [Int.natCast_ediv, Int.natCast_pow]; rfl
  · have e : (((m / 2 ^ (L - 52) : Nat) : Int) * 2 ^ (L - 52)) = ((m / 2 ^ (L - 52) * 2 ^ (L - 52) : Nat) : Int) := by
      rw [Int.natCast_mul, Int.natCast_pow]; rfl
    rw [e]; exact wrap_in (by omega) (by omega)
  · have e : ((2 : Int) ^ (L - 52 - 1)) = ((2 ^ (L - 52 - 1) : Nat) : Int) := by rw [Int.natCast_pow]; rfl
    rw [e]; exact wrap_in (by omega) (by omega)
  · unfold ofN
    rw [if_neg (by omega), hL, if_neg (by omega)]
    have hc : (2 ^ (L - 52) < 2 * (m % 2 ^ (L - 52)) ∨ (2 ^ (L - 52) = 2 * (m % 2 ^ (L - 52)) ∧ m / 2 ^ (L - 52) % 2 = 1)) ↔ (2 ^ (L - 52 - 1) < m % 2 ^ (L - 52) ∨ (m % 2 ^ (L - 52) = 2 ^ (L - 52 - 1) ∧ m / 2 ^ (L - 52) % 2 = 1)) := by omega
    by_cases h : 2 ^ (L - 52 - 1) < m % 2 ^ (L - 52) ∨ (m % 2 ^ (L - 52) = 2 ^ (L - 52 - 1) ∧ m / 2 ^ (L - 52) % 2 = 1)
    · rw [if_pos h, if_pos (hc.2 h)]
    · rw [if_neg h, if_neg (fun k => h (hc.1 k))]

set_option maxHeartbeats 400000 in
theorem pos_lo (m L : Nat) (h0 : 1 ≤ m) (h1 : m ≤ 9223372036854775807) (hL : m.log2 = L) (h2 : L ≤ 52) : Says 27 #[.int .i64 ((m : Int))] (.int .u64 ((0 + ofN m : Nat) : Int)) := by
  intro w
  have hd := digits_any m (by omega)
  rw [show dgt m = L + 1 from by unfold dgt; rw [if_neg (by omega), hL]] at hd
  obtain ⟨k1, k2, k3, k4⟩ := lo_laid h0 hL h2
  obtain ⟨o1, o2⟩ := or_sum 0 (L + 1023) (fr (m * 2 ^ (52 - L))) (by omega) (by omega) (fr_lt _)
  have ho : 0 + (L + 1023) * 4503599627370496 + fr (m * 2 ^ (52 - L)) = 0 + ofN m := by omega
  rw [ho] at o2
  have hX : m * 2 ^ (52 - L) < 18446744073709551616 := by omega
  have o1' : bits .or .u64 0 (((L : Int) + 1023) * 4503599627370496) = ((0 + (L + 1023) * 4503599627370496 : Nat) : Int) := o1

  clear hL k2 k3 k4 ho o1
  generalize 0 + (L + 1023) * 4503599627370496 = B at o1' o2
  generalize 0 + ofN m = A at o2 ⊢
  generalize m * 2 ^ (52 - L) = X at k1 hX o2
  go_enter Try.func27, Try.ntmps27
  go_wp2_with fail
  refine (hd _).mono ?_
  rintro e w' ⟨rfl, rfl⟩
  go_wp2_with fail
  refine (fraction_any _ hX _).mono ?_
  rintro e w' ⟨rfl, rfl⟩
  go_wp2_with fail
  go_ret
  exact ⟨rfl, rfl⟩

set_option maxHeartbeats 1000000 in
theorem pos_hi (m L : Nat) (h0 : 1 ≤ m) (h1 : m ≤ 9223372036854775807) (hL : m.log2 = L) (h2 : 53 ≤ L) (h3 : L ≤ 63) : Says 27 #[.int .i64 ((m : Int))] (.int .u64 ((0 + ofN m : Nat) : Int)) := by
  intro w
  have hd := digits_any m (by omega)
  rw [show dgt m = L + 1 from by unfold dgt; rw [if_neg (by omega), hL]] at hd
  obtain ⟨Q, Y, R, H, q1, q2, q3, q4, q5, q6, q7, q8, q9⟩ := hi_laid h0 (by omega) hL h2

  clear hL
  have hk : ∀ K : Nat, 4503599627370496 ≤ K → K < 9007199254740992 → 0 + ofN m = 0 + (L + 1022) * 4503599627370496 + K → bits .or .u64 (bits .or .u64 0 (((L : Int) + 1023) * 4503599627370496)) ((fr K : Nat) : Int) = ((0 + ofN m : Nat) : Int) := by
    intro K a1 a2 a3
    obtain ⟨o1, o2⟩ := or_sum 0 (L + 1023) (fr K) (by omega) (by omega) (fr_lt _)
    have o1' : bits .or .u64 0 (((L : Int) + 1023) * 4503599627370496) = ((0 + (L + 1023) * 4503599627370496 : Nat) : Int) := o1
    rw [o1', o2, fr_of a1 a2, a3]
    omega
  rcases (show (H < R) ∨ (R = H ∧ Q % 2 = 1) ∨ (R = H ∧ Q % 2 = 0) ∨ (R < H) from by omega) with c | ⟨c, c'⟩ | ⟨c, c'⟩ | c
  · by_cases hc : Q + 1 = 9007199254740992
    · have ho : bits .or .u64 0 (((L : Int) + 1023 + 1) * 4503599627370496) = ((0 + ofN m : Nat) : Int) := by
        obtain ⟨o1, _⟩ := or_sum 0 (L + 1024) 0 (by omega) (by omega) (by omega)
        have o1' : bits .or .u64 0 (((L + 1024 : Nat) : Int) * 4503599627370496) = ((0 + (L + 1024) * 4503599627370496 : Nat) : Int) := o1
        rw [show ((L : Int) + 1023 + 1) = ((L + 1024 : Nat) : Int) from by omega, o1', q9, if_pos (Or.inl c)]
        omega
      have hc' : ((Q : Int) + 1 == 9007199254740992) = true := by rw [beq_iff_eq]; omega
      clear q9 hk hc
      generalize 0 + ofN m = A at ho ⊢
      go_enter Try.func27, Try.ntmps27
      go_wp2_with fail
      refine (hd _).mono ?_
      rintro e w' ⟨rfl, rfl⟩
      go_wp2_with fail
      go_ret
      exact ⟨rfl, rfl⟩
    · have ho := hk (Q + 1) (by omega) (by omega) (by rw [q9, if_pos (Or.inl c)]; omega)
      have hc' : ((Q : Int) + 1 == 9007199254740992) = false := by rw [beq_eq_false_iff_ne]; omega
      have hK : Q + 1 < 18446744073709551616 := by omega
      have hf := fraction_any (Q + 1) hK
      clear q9 hk hc
      generalize 0 + ofN m = A at ho ⊢
      go_enter Try.func27, Try.ntmps27
      go_wp2_with fail
      refine (hd _).mono ?_
      rintro e w' ⟨rfl, rfl⟩
      go_wp2_with fail
      refine (hf _).mono ?_
      rintro e w' ⟨rfl, rfl⟩
      go_wp2_with fail
      go_ret
      exact ⟨rfl, rfl⟩
  · subst c
    by_cases hc : Q + 1 = 9007199254740992
    · have ho : bits .or .u64 0 (((L : Int) + 1023 + 1) * 4503599627370496) = ((0 + ofN m : Nat) : Int) := by
        obtain ⟨o1, _⟩ := or_sum 0 (L + 1024) 0 (by omega) (by omega) (by omega)
        have o1' : bits .or .u64 0 (((L + 1024 : Nat) : Int) * 4503599627370496) = ((0 + (L + 1024) * 4503599627370496 : Nat) : Int) := o1
        rw [show ((L : Int) + 1023 + 1) = ((L + 1024 : Nat) : Int) from by omega, o1', q9, if_pos (Or.inr ⟨rfl, c'⟩)]
        omega
      have hc' : ((Q : Int) + 1 == 9007199254740992) = true := by rw [beq_iff_eq]; omega
      have ht : ((Q : Int) % 2 == 1) = true := by rw [beq_iff_eq]; omega
      clear q9 hk hc c'
      generalize 0 + ofN m = A at ho ⊢
      go_enter Try.func27, Try.ntmps27
      go_wp2_with fail
      refine (hd _).mono ?_
      rintro e w' ⟨rfl, rfl⟩
      go_wp2_with fail
      go_ret
      exact ⟨rfl, rfl⟩
    · have ho := hk (Q + 1) (by omega) (by omega) (by rw [q9, if_pos (Or.inr ⟨rfl, c'⟩)]; omega)
      have hc' : ((Q : Int) + 1 == 9007199254740992) = false := by rw [beq_eq_false_iff_ne]; omega
      have ht : ((Q : Int) % 2 == 1) = true := by rw [beq_iff_eq]; omega
      have hK : Q + 1 < 18446744073709551616 := by omega
      have hf := fraction_any (Q + 1) hK
      clear q9 hk hc c'
      generalize 0 + ofN m = A at ho ⊢
      go_enter Try.func27, Try.ntmps27
      go_wp2_with fail
      refine (hd _).mono ?_
      rintro e w' ⟨rfl, rfl⟩
      go_wp2_with fail
      refine (hf _).mono ?_
      rintro e w' ⟨rfl, rfl⟩
      go_wp2_with fail
      go_ret
      exact ⟨rfl, rfl⟩
  · subst c
    have ho := hk Q q6 q7 (by rw [q9, if_neg (by omega)]; omega)
    have hc' : ((Q : Int) == 9007199254740992) = false := by rw [beq_eq_false_iff_ne]; omega
    have ht : ((Q : Int) % 2 == 1) = false := by rw [beq_eq_false_iff_ne]; omega
    have hf := fraction_any Q (by omega)
    clear q9 hk c'
    generalize 0 + ofN m = A at ho ⊢
    · skip
      go_enter Try.func27, Try.ntmps27
      go_wp2_with fail
      refine (hd _).mono ?_
      rintro e w' ⟨rfl, rfl⟩
      go_wp2_with fail
      refine (hf _).mono ?_
      rintro e w' ⟨rfl, rfl⟩
      go_wp2_with fail
      go_ret
      exact ⟨rfl, rfl⟩
  · have ho := hk Q q6 q7 (by rw [q9, if_neg (by omega)]; omega)
    have hc' : ((Q : Int) == 9007199254740992) = false := by rw [beq_eq_false_iff_ne]; omega
    have hf := fraction_any Q (by omega)
    clear q9 hk
    generalize 0 + ofN m = A at ho ⊢
    · skip
      go_enter Try.func27, Try.ntmps27
      go_wp2_with fail
      refine (hd _).mono ?_
      rintro e w' ⟨rfl, rfl⟩
      go_wp2_with fail
      refine (hf _).mono ?_
      rintro e w' ⟨rfl, rfl⟩
      go_wp2_with fail
      go_ret
      exact ⟨rfl, rfl⟩

set_option maxHeartbeats 400000 in
theorem neg_lo (m L : Nat) (h0 : 1 ≤ m) (h1 : m ≤ 9223372036854775808) (hL : m.log2 = L) (h2 : L ≤ 52) : Says 27 #[.int .i64 (-(m : Int))] (.int .u64 ((9223372036854775808 + ofN m : Nat) : Int)) := by
  intro w
  have hd := digits_any m (by omega)
  rw [show dgt m = L + 1 from by unfold dgt; rw [if_neg (by omega), hL]] at hd
  obtain ⟨k1, k2, k3, k4⟩ := lo_laid h0 hL h2
  obtain ⟨o1, o2⟩ := or_sum 9223372036854775808 (L + 1023) (fr (m * 2 ^ (52 - L))) (by omega) (by omega) (fr_lt _)
  have ho : 9223372036854775808 + (L + 1023) * 4503599627370496 + fr (m * 2 ^ (52 - L)) = 9223372036854775808 + ofN m := by omega
  rw [ho] at o2
  have hX : m * 2 ^ (52 - L) < 18446744073709551616 := by omega
  have o1' : bits .or .u64 9223372036854775808 (((L : Int) + 1023) * 4503599627370496) = ((9223372036854775808 + (L + 1023) * 4503599627370496 : Nat) : Int) := o1
  have g1 : IntKind.u64.wrap (-IntKind.u64.wrap (-(m : Int))) = (m : Int) := by rw [IntKind.wrap_u64, IntKind.wrap_u64]; omega
  have g2 : (-(m : Int) == 0) = false := by rw [beq_eq_false_iff_ne]; omega
  clear hL k2 k3 k4 ho o1
  generalize 9223372036854775808 + (L + 1023) * 4503599627370496 = B at o1' o2
  generalize 9223372036854775808 + ofN m = A at o2 ⊢
  generalize m * 2 ^ (52 - L) = X at k1 hX o2
  go_enter Try.func27, Try.ntmps27
  go_wp2_with fail
  refine (hd _).mono ?_
  rintro e w' ⟨rfl, rfl⟩
  go_wp2_with fail
  refine (fraction_any _ hX _).mono ?_
  rintro e w' ⟨rfl, rfl⟩
  go_wp2_with fail
  go_ret
  exact ⟨rfl, rfl⟩

set_option maxHeartbeats 1000000 in
theorem neg_hi (m L : Nat) (h0 : 1 ≤ m) (h1 : m ≤ 9223372036854775808) (hL : m.log2 = L) (h2 : 53 ≤ L) (h3 : L ≤ 63) : Says 27 #[.int .i64 (-(m : Int))] (.int .u64 ((9223372036854775808 + ofN m : Nat) : Int)) := by
  intro w
  have hd := digits_any m (by omega)
  rw [show dgt m = L + 1 from by unfold dgt; rw [if_neg (by omega), hL]] at hd
  obtain ⟨Q, Y, R, H, q1, q2, q3, q4, q5, q6, q7, q8, q9⟩ := hi_laid h0 (by omega) hL h2
  have g1 : IntKind.u64.wrap (-IntKind.u64.wrap (-(m : Int))) = (m : Int) := by rw [IntKind.wrap_u64, IntKind.wrap_u64]; omega
  have g2 : (-(m : Int) == 0) = false := by rw [beq_eq_false_iff_ne]; omega
  clear hL
  have hk : ∀ K : Nat, 4503599627370496 ≤ K → K < 9007199254740992 → 9223372036854775808 + ofN m = 9223372036854775808 + (L + 1022) * 4503599627370496 + K → bits .or .u64 (bits .or .u64 9223372036854775808 (((L : Int) + 1023) * 4503599627370496)) ((fr K : Nat) : Int) = ((9223372036854775808 + ofN m : Nat) : Int) := by
    intro K a1 a2 a3
    obtain ⟨o1, o2⟩ := or_sum 9223372036854775808 (L + 1023) (fr K) (by omega) (by omega) (fr_lt _)
    have o1' : bits .or .u64 9223372036854775808 (((L : Int) + 1023) * 4503599627370496) = ((9223372036854775808 + (L + 1023) * 4503599627370496 : Nat) : Int) := o1
    rw [o1', o2, fr_of a1 a2, a3]
    omega
  rcases (show (H < R) ∨ (R = H ∧ Q % 2 = 1) ∨ (R = H ∧ Q % 2 = 0) ∨ (R < H) from by omega) with c | ⟨c, c'⟩ | ⟨c, c'⟩ | c
  · by_cases hc : Q + 1 = 9007199254740992
    · have ho : bits .or .u64 9223372036854775808 (((L : Int) + 1023 + 1) * 4503599627370496) = ((9223372036854775808 + ofN m : Nat) : Int) := by
        obtain ⟨o1, _⟩ := or_sum 9223372036854775808 (L + 1024) 0 (by omega) (by omega) (by omega)
        have o1' : bits .or .u64 9223372036854775808 (((L + 1024 : Nat) : Int) * 4503599627370496) = ((9223372036854775808 + (L + 1024) * 4503599627370496 : Nat) : Int) := o1
        rw [show ((L : Int) + 1023 + 1) = ((L + 1024 : Nat) : Int) from by omega, o1', q9, if_pos (Or.inl c)]
        omega
      have hc' : ((Q : Int) + 1 == 9007199254740992) = true := by rw [beq_iff_eq]; omega
      clear q9 hk hc
      generalize 9223372036854775808 + ofN m = A at ho ⊢
      go_enter Try.func27, Try.ntmps27
      go_wp2_with fail
      refine (hd _).mono ?_
      rintro e w' ⟨rfl, rfl⟩
      go_wp2_with fail
      go_ret
      exact ⟨rfl, rfl⟩
    · have ho := hk (Q + 1) (by omega) (by omega) (by rw [q9, if_pos (Or.inl c)]; omega)
      have hc' : ((Q : Int) + 1 == 9007199254740992) = false := by rw [beq_eq_false_iff_ne]; omega
      have hK : Q + 1 < 18446744073709551616 := by omega
      have hf := fraction_any (Q + 1) hK
      clear q9 hk hc
      generalize 9223372036854775808 + ofN m = A at ho ⊢
      go_enter Try.func27, Try.ntmps27
      go_wp2_with fail
      refine (hd _).mono ?_
      rintro e w' ⟨rfl, rfl⟩
      go_wp2_with fail
      refine (hf _).mono ?_
      rintro e w' ⟨rfl, rfl⟩
      go_wp2_with fail
      go_ret
      exact ⟨rfl, rfl⟩
  · subst c
    by_cases hc : Q + 1 = 9007199254740992
    · have ho : bits .or .u64 9223372036854775808 (((L : Int) + 1023 + 1) * 4503599627370496) = ((9223372036854775808 + ofN m : Nat) : Int) := by
        obtain ⟨o1, _⟩ := or_sum 9223372036854775808 (L + 1024) 0 (by omega) (by omega) (by omega)
        have o1' : bits .or .u64 9223372036854775808 (((L + 1024 : Nat) : Int) * 4503599627370496) = ((9223372036854775808 + (L + 1024) * 4503599627370496 : Nat) : Int) := o1
        rw [show ((L : Int) + 1023 + 1) = ((L + 1024 : Nat) : Int) from by omega, o1', q9, if_pos (Or.inr ⟨rfl, c'⟩)]
        omega
      have hc' : ((Q : Int) + 1 == 9007199254740992) = true := by rw [beq_iff_eq]; omega
      have ht : ((Q : Int) % 2 == 1) = true := by rw [beq_iff_eq]; omega
      clear q9 hk hc c'
      generalize 9223372036854775808 + ofN m = A at ho ⊢
      go_enter Try.func27, Try.ntmps27
      go_wp2_with fail
      refine (hd _).mono ?_
      rintro e w' ⟨rfl, rfl⟩
      go_wp2_with fail
      go_ret
      exact ⟨rfl, rfl⟩
    · have ho := hk (Q + 1) (by omega) (by omega) (by rw [q9, if_pos (Or.inr ⟨rfl, c'⟩)]; omega)
      have hc' : ((Q : Int) + 1 == 9007199254740992) = false := by rw [beq_eq_false_iff_ne]; omega
      have ht : ((Q : Int) % 2 == 1) = true := by rw [beq_iff_eq]; omega
      have hK : Q + 1 < 18446744073709551616 := by omega
      have hf := fraction_any (Q + 1) hK
      clear q9 hk hc c'
      generalize 9223372036854775808 + ofN m = A at ho ⊢
      go_enter Try.func27, Try.ntmps27
      go_wp2_with fail
      refine (hd _).mono ?_
      rintro e w' ⟨rfl, rfl⟩
      go_wp2_with fail
      refine (hf _).mono ?_
      rintro e w' ⟨rfl, rfl⟩
      go_wp2_with fail
      go_ret
      exact ⟨rfl, rfl⟩
  · subst c
    have ho := hk Q q6 q7 (by rw [q9, if_neg (by omega)]; omega)
    have hc' : ((Q : Int) == 9007199254740992) = false := by rw [beq_eq_false_iff_ne]; omega
    have ht : ((Q : Int) % 2 == 1) = false := by rw [beq_eq_false_iff_ne]; omega
    have hf := fraction_any Q (by omega)
    clear q9 hk c'
    generalize 9223372036854775808 + ofN m = A at ho ⊢
    · skip
      go_enter Try.func27, Try.ntmps27
      go_wp2_with fail
      refine (hd _).mono ?_
      rintro e w' ⟨rfl, rfl⟩
      go_wp2_with fail
      refine (hf _).mono ?_
      rintro e w' ⟨rfl, rfl⟩
      go_wp2_with fail
      go_ret
      exact ⟨rfl, rfl⟩
  · have ho := hk Q q6 q7 (by rw [q9, if_neg (by omega)]; omega)
    have hc' : ((Q : Int) == 9007199254740992) = false := by rw [beq_eq_false_iff_ne]; omega
    have hf := fraction_any Q (by omega)
    clear q9 hk
    generalize 9223372036854775808 + ofN m = A at ho ⊢
    · skip
      go_enter Try.func27, Try.ntmps27
      go_wp2_with fail
      refine (hd _).mono ?_
      rintro e w' ⟨rfl, rfl⟩
      go_wp2_with fail
      refine (hf _).mono ?_
      rintro e w' ⟨rfl, rfl⟩
      go_wp2_with fail
      go_ret
      exact ⟨rfl, rfl⟩

theorem refof_any (n : Int) (h1 : -9223372036854775808 ≤ n) (h2 : n ≤ 9223372036854775807) : Says 27 #[.int .i64 n] (.int .u64 ((ofI n : Nat) : Int)) := by
  rcases (show n = 0 ∨ (∃ m : Nat, n = (m : Int) ∧ 1 ≤ m ∧ m ≤ 9223372036854775807) ∨ (∃ m : Nat, n = -(m : Int) ∧ 1 ≤ m ∧ m ≤ 9223372036854775808) from by
    rcases Int.lt_trichotomy n 0 with h | h | h
    · right; right; exact ⟨n.natAbs, by omega, by omega, by omega⟩
    · left; exact h
    · right; left; exact ⟨n.natAbs, by omega, by omega, by omega⟩) with rfl | ⟨m, rfl, a1, a2⟩ | ⟨m, rfl, a1, a2⟩
  · intro w
    go_enter Try.func27, Try.ntmps27
    go_wp2_with fail
    go_ret
    exact ⟨rfl, rfl⟩
  · have hL : m.log2 ≤ 63 := log2_le (by omega) (by omega)
    have e : ofI (m : Int) = 0 + ofN m := by unfold ofI; rw [if_neg (by omega), Int.natAbs_natCast, Nat.zero_add]
    rw [e]
    by_cases h : m.log2 ≤ 52
    · exact pos_lo m _ a1 a2 rfl h
    · exact pos_hi m _ a1 a2 rfl (by omega) hL
  · have hL : m.log2 ≤ 63 := log2_le (by omega) (by omega)
    have e : ofI (-(m : Int)) = 9223372036854775808 + ofN m := by unfold ofI; rw [if_pos (by omega), Int.natAbs_neg, Int.natAbs_natCast]
    rw [e]
    by_cases h : m.log2 ≤ 52
    · exact neg_lo m _ a1 a2 rfl h
    · exact neg_hi m _ a1 a2 rfl (by omega) hL

end Go.Proofs.Ytbdhmjgnklkopaa
