/-
  The lesser and the greater as the program has them, and the next above, the program's and the document's.
-/
import Derived.Test.YtbdhmjgnklkopaaTwo
import Derived.Test.YtbdhmjgnklkopaaFacts
namespace Go.Proofs.Ytbdhmjgnklkopaa
open Go.RowKit Fm

theorem fromKey_key {b : Nat} (hb : b < 18446744073709551616) : fromKey (key b) = b := by
  unfold fromKey key; split <;> split <;> omega
theorem key_fromKey {b : Nat} (hb : b < 18446744073709551616) : key (fromKey b) = b := by
  unfold fromKey key; split <;> split <;> omega

theorem min_any (a b : Nat) (ha : a < 18446744073709551616) (hb : b < 18446744073709551616) : Says 32 #[.int .u64 (a : Int), .int .u64 (b : Int)] (.int .u64 ((minB a b : Nat) : Int)) := by
  intro w
  have hf := first_any a b ha hb
  have kl := key_lt ha
  have kl' := key_lt hb
  have hm : minB a b = if nanB a then loud a else if nanB b then loud b else if key b < key a then b else a := rfl
  have hc : (firstB a b = .tuple #[.int .u64 ((minB a b : Nat) : Int), .bool true]) ∨ (firstB a b = .tuple #[.int .u64 0, .bool false] ∧ key b < key a ∧ fromKey (key b) = minB a b) ∨ (firstB a b = .tuple #[.int .u64 0, .bool false] ∧ key a ≤ key b ∧ fromKey (key a) = minB a b) := by
    rw [hm, fromKey_key ha, fromKey_key hb]
    unfold firstB
    cases nanB a <;> cases nanB b <;> simp <;> by_cases h : key b < key a <;> simp [h] <;> omega
  clear hm
  rcases hc with h1 | ⟨h1, h2, h3⟩ | ⟨h1, h2, h3⟩
  · rw [h1] at hf
    clear h1
    go_enter Try.func32, Try.ntmps32
    go_wp2_with fail
    refine (hf _).mono ?_
    rintro e w' ⟨rfl, rfl⟩
    go_wp2_with fail
    go_ret
    exact ⟨rfl, rfl⟩
  · rw [h1] at hf
    clear h1
    have H3 := Lib.hid h3
    clear h3
    have h4 : ¬ key a < key b := by omega
    go_enter Try.func32, Try.ntmps32
    go_wp2_with fail
    refine (hf _).mono ?_
    rintro e w' ⟨rfl, rfl⟩
    go_wp2_with (go_at_call 16; refine (key_any _ (by assumption) _).mono ?_; rintro e w' ⟨rfl, rfl⟩)
    refine (fromkey_any _ (by assumption) _).mono ?_
    rintro e w' ⟨rfl, rfl⟩
    go_wp2_with fail
    go_ret
    exact ⟨by rw [← H3.out]; rfl, rfl⟩
  · rw [h1] at hf
    clear h1
    have H3 := Lib.hid h3
    clear h3
    have h4 : ¬ key b < key a := by omega
    go_enter Try.func32, Try.ntmps32
    go_wp2_with fail
    refine (hf _).mono ?_
    rintro e w' ⟨rfl, rfl⟩
    go_wp2_with (go_at_call 16; refine (key_any _ (by assumption) _).mono ?_; rintro e w' ⟨rfl, rfl⟩)
    refine (fromkey_any _ (by assumption) _).mono ?_
    rintro e w' ⟨rfl, rfl⟩
    go_wp2_with fail
    go_ret
    exact ⟨by rw [← H3.out]; rfl, rfl⟩

theorem max_any (a b : Nat) (ha : a < 18446744073709551616) (hb : b < 18446744073709551616) : Says 34 #[.int .u64 (a : Int), .int .u64 (b : Int)] (.int .u64 ((maxB a b : Nat) : Int)) := by
  intro w
  have hf := first_any a b ha hb
  have kl := key_lt ha
  have kl' := key_lt hb
  have hm : maxB a b = if nanB a then loud a else if nanB b then loud b else if key a < key b then b else a := rfl
  have hc : (firstB a b = .tuple #[.int .u64 ((maxB a b : Nat) : Int), .bool true]) ∨ (firstB a b = .tuple #[.int .u64 0, .bool false] ∧ key a < key b ∧ fromKey (key b) = maxB a b) ∨ (firstB a b = .tuple #[.int .u64 0, .bool false] ∧ key b ≤ key a ∧ fromKey (key a) = maxB a b) := by
    rw [hm, fromKey_key ha, fromKey_key hb]
    unfold firstB
    cases nanB a <;> cases nanB b <;> simp <;> by_cases h : key a < key b <;> simp [h] <;> omega
  clear hm
  rcases hc with h1 | ⟨h1, h2, h3⟩ | ⟨h1, h2, h3⟩
  · rw [h1] at hf
    clear h1
    go_enter Try.func34, Try.ntmps34
    go_wp2_with fail
    refine (hf _).mono ?_
    rintro e w' ⟨rfl, rfl⟩
    go_wp2_with fail
    go_ret
    exact ⟨rfl, rfl⟩
  · rw [h1] at hf
    clear h1
    have H3 := Lib.hid h3
    clear h3
    have h4 : ¬ key b < key a := by omega
    go_enter Try.func34, Try.ntmps34
    go_wp2_with fail
    refine (hf _).mono ?_
    rintro e w' ⟨rfl, rfl⟩
    go_wp2_with (go_at_call 16; refine (key_any _ (by assumption) _).mono ?_; rintro e w' ⟨rfl, rfl⟩)
    refine (fromkey_any _ (by assumption) _).mono ?_
    rintro e w' ⟨rfl, rfl⟩
    go_wp2_with fail
    go_ret
    exact ⟨by rw [← H3.out]; rfl, rfl⟩
  · rw [h1] at hf
    clear h1
    have H3 := Lib.hid h3
    clear h3
    have h4 : ¬ key a < key b := by omega
    go_enter Try.func34, Try.ntmps34
    go_wp2_with fail
    refine (hf _).mono ?_
    rintro e w' ⟨rfl, rfl⟩
    go_wp2_with (go_at_call 16; refine (key_any _ (by assumption) _).mono ?_; rintro e w' ⟨rfl, rfl⟩)
    refine (fromkey_any _ (by assumption) _).mono ?_
    rintro e w' ⟨rfl, rfl⟩
    go_wp2_with fail
    go_ret
    exact ⟨by rw [← H3.out]; rfl, rfl⟩



theorem next_cases (b : Nat) : (nanB b = true ∧ next b = b) ∨ (nanB b = false ∧ b = 9218868437227405312 ∧ next b = b) ∨ (nanB b = false ∧ b ≠ 9218868437227405312 ∧ rung b = 0 ∧ next b = 1) ∨ (nanB b = false ∧ b ≠ 9218868437227405312 ∧ rung b ≠ 0 ∧ 9223372036854775808 ≤ b ∧ next b = b - 1) ∨ (nanB b = false ∧ b ≠ 9218868437227405312 ∧ rung b ≠ 0 ∧ b < 9223372036854775808 ∧ next b = b + 1) := by
  unfold next
  cases nanB b
  · by_cases h1 : b = 9218868437227405312
    · simp [h1]
    · by_cases h2 : rung b = 0
      · simp [h1, h2]
      · by_cases h3 : 9223372036854775808 ≤ b
        · simp [h1, h2, h3]
        · simp [h1, h2, h3]; omega
  · simp

theorem next_lt {b : Nat} (hb : b < 18446744073709551616) : next b < 18446744073709551616 := by
  have := next_cases b
  omega

theorem refnext_any (b : Nat) (hb : b < 18446744073709551616) : Says 25 #[.int .u64 (b : Int)] (.int .u64 ((next b : Nat) : Int)) := by
  intro w
  have n1 := cls_nan b
  rcases next_cases b with ⟨h1, h2⟩ | ⟨h1, h2, h3⟩ | ⟨h1, h2, h3, h4⟩ | ⟨h1, h2, h3, h4, h5⟩ | ⟨h1, h2, h3, h4, h5⟩
  · rw [h2]; clear h2
    go_enter Try.func25, Try.ntmps25
    go_wp2_with (go_at_call 15; refine (refclass_any _ (by assumption) _).mono ?_; rintro e w' ⟨rfl, rfl⟩)
    go_ret
    exact ⟨rfl, rfl⟩
  · rw [h3]; clear h3
    have hz : (((b : Nat) : Int) == 9218868437227405312) = true := by rw [beq_iff_eq]; omega
    clear h2
    go_enter Try.func25, Try.ntmps25
    go_wp2_with (go_at_call 15; refine (refclass_any _ (by assumption) _).mono ?_; rintro e w' ⟨rfl, rfl⟩)
    go_ret
    exact ⟨rfl, rfl⟩
  · rw [h4]; clear h4
    have hz : (((b : Nat) : Int) == 9218868437227405312) = false := by rw [beq_eq_false_iff_ne]; omega
    have hz1 : (((rung b : Nat) : Int) == 0) = true := by rw [beq_iff_eq]; omega
    clear h2 h3
    go_enter Try.func25, Try.ntmps25
    go_wp2_with (first
      | (go_at_call 15; refine (refclass_any _ (by assumption) _).mono ?_; rintro e w' ⟨rfl, rfl⟩)
      | (go_at_call 38; refine (size_any _ (by assumption) _).mono ?_; rintro e w' ⟨rfl, rfl⟩))
    go_ret
    exact ⟨rfl, rfl⟩
  · have hz : (((b : Nat) : Int) == 9218868437227405312) = false := by rw [beq_eq_false_iff_ne]; omega
    have hz1 : (((rung b : Nat) : Int) == 0) = false := by rw [beq_eq_false_iff_ne]; omega
    have g1 : sg b = 1 := by unfold sg; omega
    have hw : IntKind.u64.wrap ((b : Int) - 1) = ((next b : Nat) : Int) := by rw [IntKind.wrap_u64, h5]; omega
    clear h2 h3 h4 h5
    go_enter Try.func25, Try.ntmps25
    go_wp2_with (first
      | (go_at_call 15; refine (refclass_any _ (by assumption) _).mono ?_; rintro e w' ⟨rfl, rfl⟩)
      | (go_at_call 38; refine (size_any _ (by assumption) _).mono ?_; rintro e w' ⟨rfl, rfl⟩)
      | (go_at_call 41; refine (sign_any _ _).mono ?_; rintro e w' ⟨rfl, rfl⟩))
    go_ret
    exact ⟨rfl, rfl⟩
  · have hz : (((b : Nat) : Int) == 9218868437227405312) = false := by rw [beq_eq_false_iff_ne]; omega
    have hz1 : (((rung b : Nat) : Int) == 0) = false := by rw [beq_eq_false_iff_ne]; omega
    have g1 : sg b = 0 := by unfold sg; omega
    have hw : IntKind.u64.wrap ((b : Int) + 1) = ((next b : Nat) : Int) := by rw [IntKind.wrap_u64, h5]; omega
    clear h2 h3 h4 h5
    go_enter Try.func25, Try.ntmps25
    go_wp2_with (first
      | (go_at_call 15; refine (refclass_any _ (by assumption) _).mono ?_; rintro e w' ⟨rfl, rfl⟩)
      | (go_at_call 38; refine (size_any _ (by assumption) _).mono ?_; rintro e w' ⟨rfl, rfl⟩)
      | (go_at_call 41; refine (sign_any _ _).mono ?_; rintro e w' ⟨rfl, rfl⟩))
    go_ret
    exact ⟨rfl, rfl⟩

theorem next_any (b : Nat) (hb : b < 18446744073709551616) : Says 24 #[.int .u64 (b : Int)] (.int .u64 ((next b : Nat) : Int)) := by
  intro w
  have h1 := frombits_run b
  have hn := isnan_any b hb
  have hi := isinf_up b hb
  have e0 := ord_eq (a := b) (b := 0) hb (by decide)
  have k0 : rung 0 = 0 ∧ sk 0 = 0 := ⟨rfl, rfl⟩
  have hs := sk_rung hb
  rcases next_cases b with ⟨c1, c2⟩ | ⟨c1, c2, c3⟩ | ⟨c1, c2, c3, c4⟩ | ⟨c1, c2, c3, c4, c5⟩ | ⟨c1, c2, c3, c4, c5⟩
  · rw [c1] at hn; rw [c2]
    clear c1 c2 hs k0 e0 hi
    go_enter Try.func24, Try.ntmps24
    go_wp2_with fail
    refine (hn _).mono ?_
    rintro e w' ⟨rfl, rfl⟩
    go_wp2_with fail
    go_ret
    exact ⟨rfl, rfl⟩
  · rw [c1] at hn; rw [decide_eq_true c2] at hi; rw [c3]
    clear c1 c2 c3 hs k0 e0
    go_enter Try.func24, Try.ntmps24
    go_wp2_with fail
    refine (hn _).mono ?_
    rintro e w' ⟨rfl, rfl⟩
    go_wp2_with fail
    refine (hi _).mono ?_
    rintro e w' ⟨rfl, rfl⟩
    go_wp2_with fail
    go_ret
    exact ⟨rfl, rfl⟩
  · rw [c1] at hn; rw [decide_eq_false c2] at hi; rw [c4]
    rw [eqB_true.2 (by omega)] at e0
    clear c1 c2 c3 c4 hs k0
    go_enter Try.func24, Try.ntmps24
    go_wp2_with fail
    refine (hn _).mono ?_
    rintro e w' ⟨rfl, rfl⟩
    go_wp2_with fail
    refine (hi _).mono ?_
    rintro e w' ⟨rfl, rfl⟩
    go_wp2_with fail
    go_ret
    exact ⟨rfl, rfl⟩
  all_goals
    rw [c1] at hn; rw [decide_eq_false c2] at hi
    have c1' := of_decide_eq_false c1
    rw [eqB_false.2 (by omega)] at e0
    have kl : key b < 18446744073709551615 := by unfold key; split <;> omega
    have kk : key b + 1 < 18446744073709551616 := by omega
    have hw : IntKind.u64.wrap (((key b : Nat) : Int) + 1) = ((key b + 1 : Nat) : Int) := by rw [IntKind.wrap_u64]; omega
    have hf : fromKey (key b + 1) = next b := by rw [c5]; unfold fromKey key; split <;> split <;> omega
    have HF := Lib.hid hf
    generalize hK : key b + 1 = K at *
    have HK := Lib.hid hK
    clear c1' c1 c2 c3 c4 c5 hs k0 hf hK kl
    go_enter Try.func24, Try.ntmps24
    go_wp2_with fail
    refine (hn _).mono ?_
    rintro e w' ⟨rfl, rfl⟩
    go_wp2_with fail
    refine (hi _).mono ?_
    rintro e w' ⟨rfl, rfl⟩
    go_wp2_with fail
    refine (key_any _ (by assumption) _).mono ?_
    rintro e w' ⟨rfl, rfl⟩
    go_wp2_with fail
    refine (fromkey_any _ (by assumption) _).mono ?_
    rintro e w' ⟨rfl, rfl⟩
    go_wp2_with fail
    go_ret
    exact ⟨by rw [← HF.out]; rfl, rfl⟩

end Go.Proofs.Ytbdhmjgnklkopaa
