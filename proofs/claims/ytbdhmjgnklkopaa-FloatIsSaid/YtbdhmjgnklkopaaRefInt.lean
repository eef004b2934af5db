/-
  Numbers with a point as whole ones, by the document's own way.
-/
import Derived.Test.YtbdhmjgnklkopaaRefOf
namespace Go.Proofs.Ytbdhmjgnklkopaa
open Go.RowKit Fm

theorem ex_rung {b : Nat} (hb : b < 18446744073709551616) : ex b = rung b / 4503599627370496 ∧ fr b = rung b % 4503599627370496 := by
  have := sk_rung hb
  unfold ex fr
  omega

theorem sg_cases {b : Nat} (hb : b < 18446744073709551616) : (sg b = 0 ∧ b < 9223372036854775808) ∨ (sg b = 1 ∧ 9223372036854775808 ≤ b) := by
  unfold sg; omega

/-- with an exponent below 52: what is dropped, what is kept -/
theorem int_lo {b e : Nat} (hb : b < 18446744073709551616) (he : ex b = e + 1023) (h : e ≤ 51) : ∃ M T Y : Nat, ((fr b : Nat) : Int) + 4503599627370496 = (M : Int) ∧ (M : Int) / 2 ^ (52 - e) = (T : Int) ∧ IntKind.u64.wrap ((T : Int) * 2 ^ (52 - e)) = (Y : Int) ∧ M < 9007199254740992 ∧ T < 9007199254740992 ∧ Y ≤ M ∧ T = trunc (rung b) ∧ ((Y : Int) != (M : Int)) = !okI b := by
  obtain ⟨h1, h2⟩ := ex_rung hb
  have hs := sk_rung hb
  have hp : 0 < 2 ^ (52 - e) := Nat.two_pow_pos _
  rcases whole_cases (r := rung b) (by omega) with ⟨a1, _⟩ | ⟨a1, e', a2, a3, a4, a5, a6, a7⟩ | ⟨a1, e', a2, _, a3, _⟩
  · omega
  · have : e' = e := by omega
    subst this
    rw [← h2] at a4 a7
    have hM : 4503599627370496 + fr b < 9007199254740992 := by have := fr_lt b; omega
    have hT : (4503599627370496 + fr b) / 2 ^ (52 - e') < 9007199254740992 := Nat.lt_of_le_of_lt (Nat.div_le_self _ _) hM
    have hY : (4503599627370496 + fr b) / 2 ^ (52 - e') * 2 ^ (52 - e') ≤ 4503599627370496 + fr b := Nat.div_mul_le_self _ _
    refine ⟨4503599627370496 + fr b, (4503599627370496 + fr b) / 2 ^ (52 - e'), (4503599627370496 + fr b) / 2 ^ (52 - e') * 2 ^ (52 - e'), by omega, ?_, ?_, hM, hT, hY, a4.symm, ?_⟩
    · rw [Int.natCast_ediv, Int.natCast_pow]; rfl
    · have e1 : (((((4503599627370496 + fr b) / 2 ^ (52 - e') : Nat) : Int)) * 2 ^ (52 - e')) = (((4503599627370496 + fr b) / 2 ^ (52 - e') * 2 ^ (52 - e') : Nat) : Int) := by
        rw [Int.natCast_mul, Int.natCast_pow]; rfl
      rw [e1]; exact wrap_in (by omega) (by omega)
    · rw [a4] at a7
      unfold okI
      rw [a4]
      by_cases hk : (4503599627370496 + fr b) / 2 ^ (52 - e') * 2 ^ (52 - e') = 4503599627370496 + fr b
      · rw [decide_eq_true ⟨by omega, by omega, a7.2 hk⟩, hk]; simp
      · rw [decide_eq_false (fun k => hk (a7.1 k.2.2)), Bool.not_false, bne_iff_ne]
        omega
  · omega

/-- with an exponent from 52 to 62: all of it is whole -/
theorem int_hi {b e : Nat} (hb : b < 18446744073709551616) (he : ex b = e + 1023) (h : 52 ≤ e) (h' : e ≤ 62) : ∃ M T : Nat, ((fr b : Nat) : Int) + 4503599627370496 = (M : Int) ∧ IntKind.u64.wrap ((M : Int) * 2 ^ (e - 52)) = (T : Int) ∧ M < 9007199254740992 ∧ T ≤ 9223372036854775807 ∧ T = trunc (rung b) ∧ okI b = true := by
  obtain ⟨h1, h2⟩ := ex_rung hb
  have hs := sk_rung hb
  have ht := trunc_le (r := rung b) (by omega)
  have key : trunc (rung b) = (4503599627370496 + fr b) * 2 ^ (e - 52) ∧ ofN (trunc (rung b)) = rung b := by
    rcases whole_cases (r := rung b) (by omega) with ⟨a1, _⟩ | ⟨a1, e', a2, a3, a4, a5, a6, a7⟩ | ⟨a1, e', a2, _, a3, a4, _, _, a7⟩
    · omega
    · have : e' = 52 := by omega
      subst this
      have : e = 52 := by omega
      subst this
      rw [← h2] at a4 a7
      have a8 : trunc (rung b) = 4503599627370496 + fr b := by simpa using a4
      refine ⟨by simpa using a8, a7.2 (by simpa using a8)⟩
    · have : e' = e := by omega
      subst this
      rw [← h2] at a4
      exact ⟨a4, a7⟩
  refine ⟨4503599627370496 + fr b, trunc (rung b), by omega, ?_, by have := fr_lt b; omega, by omega, rfl, decide_eq_true ⟨by omega, by omega, key.2⟩⟩
  have e1 : ((4503599627370496 + fr b : Nat) : Int) * 2 ^ (e - 52) = ((trunc (rung b) : Nat) : Int) := by
    rw [key.1, Int.natCast_mul, Int.natCast_pow]; rfl
  rw [e1]; exact wrap_in (by omega) (by omega)

theorem trunc_zero : trunc 0 = 0 := by
  rcases whole_cases (r := 0) (by decide) with ⟨_, h, _⟩ | ⟨h, _⟩ | ⟨h, _⟩
  · exact h
  · omega
  · omega

theorem trunc_top : trunc 4890909195324358656 = 9223372036854775808 ∧ ofN 9223372036854775808 = 4890909195324358656 := by
  have h : trunc 4890909195324358656 = 9223372036854775808 := by
    rcases whole_cases (r := 4890909195324358656) (by decide) with ⟨h, _⟩ | ⟨_, e, he, hq, _⟩ | ⟨_, e, _, _, hq, ht, _⟩
    · omega
    · omega
    · obtain rfl : e = 63 := by omega
      rw [ht]
  refine ⟨h, ?_⟩
  rcases whole_cases (r := 4890909195324358656) (by decide) with ⟨h, _⟩ | ⟨_, e, he, hq, _⟩ | ⟨_, e, _, _, hq, ht, _, _, h7⟩
  · omega
  · omega
  · rw [h] at h7; exact h7

theorem intV_of {b : Nat} {v : Int} (h : okI b = true) (hv : wholeOf b = v) : intV b = v := by unfold intV; rw [h, if_pos rfl, hv]
theorem intV_no {b : Nat} (h : okI b = false) : intV b = 0 := by unfold intV; rw [h]; rfl

set_option maxHeartbeats 1000000 in
theorem refint_any (b : Nat) (hb : b < 18446744073709551616) : Says 13 #[.int .u64 (b : Int)] (.tuple #[.int .i64 (intV b), .bool (okI b)]) := by
  intro w
  obtain ⟨h1, h2⟩ := ex_rung hb
  have hs := sk_rung hb
  have hr := rung_lt b
  by_cases hz : rung b = 0
  · have ho : okI b = true := by
      refine decide_eq_true ⟨by omega, by omega, ?_⟩
      rw [hz, trunc_zero]; rfl
    have hv : intV b = 0 := intV_of ho (by unfold wholeOf; rw [hz, trunc_zero]; simp)
    have hz' : (((rung b : Nat) : Int) == 0) = true := by rw [beq_iff_eq]; omega
    rw [ho, hv]
    clear h1 h2 hs hr hz ho hv
    go_enter Try.func13, Try.ntmps13
    go_wp2_with fail
    refine (size_any _ hb _).mono ?_
    rintro e w' ⟨rfl, rfl⟩
    go_wp2_with fail
    go_ret2
    exact ⟨rfl, rfl⟩
  have hz' : (((rung b : Nat) : Int) == 0) = false := by rw [beq_eq_false_iff_ne]; omega
  have hc := cls_cases b
  by_cases h2c : cls b = 2
  · have hn : 4503599627370496 ≤ rung b ∧ rung b < 9218868437227405312 := by omega
    have hc' : (((cls b : Nat) : Int) != 2) = false := by rw [h2c]; rfl
    clear hc h2c
    by_cases x1 : ex b < 1023
    · have ho : okI b = false := by
        refine decide_eq_false (fun k => hz ?_)
        rcases whole_cases (r := rung b) (by omega) with ⟨_, _, a⟩ | ⟨a1, _⟩ | ⟨a1, _⟩
        · exact a.1 k.2.2
        · omega
        · omega
      rw [ho, intV_no ho]
      have hx0 : ((ex b : Nat) : Int) ≤ 2047 := by omega
      have he := exponent_any b hb
      obtain ⟨x, hx⟩ : ∃ x : Int, ((ex b : Nat) : Int) - 1023 = x := ⟨_, rfl⟩
      have hx1 : x < 0 := by omega
      generalize ex b = E at he hx hx0
      clear h1 h2 hs hr hz ho hn x1
      go_enter Try.func13, Try.ntmps13
      go_wp2_with fail
      refine (size_any _ hb _).mono ?_
      rintro e w' ⟨rfl, rfl⟩
      go_wp2_with fail
      refine (refclass_any _ hb _).mono ?_
      rintro e w' ⟨rfl, rfl⟩
      go_wp2_with fail
      refine (he _).mono ?_
      rintro e w' ⟨rfl, rfl⟩
      go_wp2_with fail
      go_ret2
      exact ⟨rfl, rfl⟩
    obtain ⟨E, hE⟩ : ∃ E, ex b = E + 1023 := ⟨ex b - 1023, by omega⟩
    have he := exponent_any b hb
    rw [hE] at he
    have hf := fraction_any b hb
    have hg := sign_any b
    by_cases x2 : 63 < E
    · have ho : okI b = false := decide_eq_false (by omega)
      rw [ho, intV_no ho]
      have hx : E ≤ 1024 := by omega
      clear h1 h2 hs hr hz ho hn x1 hE
      go_enter Try.func13, Try.ntmps13
      go_wp2_with fail
      refine (size_any _ hb _).mono ?_
      rintro e w' ⟨rfl, rfl⟩
      go_wp2_with fail
      refine (refclass_any _ hb _).mono ?_
      rintro e w' ⟨rfl, rfl⟩
      go_wp2_with fail
      refine (he _).mono ?_
      rintro e w' ⟨rfl, rfl⟩
      go_wp2_with fail
      go_ret2
      exact ⟨rfl, rfl⟩
    by_cases x3 : E ≤ 51
    · obtain ⟨M, T, Y, q1, q2, q3, q4, q5, q6, q7, q8⟩ := int_lo hb hE x3
      have hw : wholeOf b = if 9223372036854775808 ≤ b then -(T : Int) else (T : Int) := by unfold wholeOf; rw [q7]
      have hF : fr b < 4503599627370496 := fr_lt b
      generalize fr b = F at hf q1 hF
      cases ho : okI b
      · rw [ho] at q8
        rw [intV_no ho]
        clear h1 h2 hs hr hz ho hn x1 hE q7 hw x2
        go_enter Try.func13, Try.ntmps13
        go_wp2_with fail
        refine (size_any _ hb _).mono ?_
        rintro e w' ⟨rfl, rfl⟩
        go_wp2_with fail
        refine (refclass_any _ hb _).mono ?_
        rintro e w' ⟨rfl, rfl⟩
        go_wp2_with fail
        refine (he _).mono ?_
        rintro e w' ⟨rfl, rfl⟩
        go_wp2_with fail
        refine (hf _).mono ?_
        rintro e w' ⟨rfl, rfl⟩
        go_wp2_with fail
        go_ret2
        exact ⟨rfl, rfl⟩
      · rw [ho] at q8
        have hv := intV_of ho hw
        rcases sg_cases hb with ⟨g1, g2⟩ | ⟨g1, g2⟩
        · rw [if_neg (by omega)] at hv
          rw [hv]
          rw [g1] at hg
          clear h1 h2 hs hr hz ho hn x1 hE q7 hw x2 hv g1 g2
          go_enter Try.func13, Try.ntmps13
          go_wp2_with fail
          refine (size_any _ hb _).mono ?_
          rintro e w' ⟨rfl, rfl⟩
          go_wp2_with fail
          refine (refclass_any _ hb _).mono ?_
          rintro e w' ⟨rfl, rfl⟩
          go_wp2_with fail
          refine (he _).mono ?_
          rintro e w' ⟨rfl, rfl⟩
          go_wp2_with fail
          refine (hf _).mono ?_
          rintro e w' ⟨rfl, rfl⟩
          go_wp2_with fail
          refine (hg _).mono ?_
          rintro e w' ⟨rfl, rfl⟩
          go_wp2_with fail
          go_ret2
          exact ⟨rfl, rfl⟩
        · rw [if_pos (by omega)] at hv
          rw [hv]
          rw [g1] at hg
          clear h1 h2 hs hr hz ho hn x1 hE q7 hw x2 hv g1 g2
          go_enter Try.func13, Try.ntmps13
          go_wp2_with fail
          refine (size_any _ hb _).mono ?_
          rintro e w' ⟨rfl, rfl⟩
          go_wp2_with fail
          refine (refclass_any _ hb _).mono ?_
          rintro e w' ⟨rfl, rfl⟩
          go_wp2_with fail
          refine (he _).mono ?_
          rintro e w' ⟨rfl, rfl⟩
          go_wp2_with fail
          refine (hf _).mono ?_
          rintro e w' ⟨rfl, rfl⟩
          go_wp2_with fail
          refine (hg _).mono ?_
          rintro e w' ⟨rfl, rfl⟩
          go_wp2_with fail
          go_ret2
          exact ⟨rfl, rfl⟩
    by_cases x4 : E ≤ 62
    · obtain ⟨M, T, q1, q2, q3, q4, q5, ho⟩ := int_hi hb hE (by omega) x4
      have hw : wholeOf b = if 9223372036854775808 ≤ b then -(T : Int) else (T : Int) := by unfold wholeOf; rw [q5]
      have hF : fr b < 4503599627370496 := fr_lt b
      generalize fr b = F at hf q1 hF
      have hv := intV_of ho hw
      rcases sg_cases hb with ⟨g1, g2⟩ | ⟨g1, g2⟩
      · rw [if_neg (by omega)] at hv
        rw [hv, ho]
        rw [g1] at hg
        clear h1 h2 hs hr hz ho hn x1 hE q5 hw x2 hv g1 g2
        go_enter Try.func13, Try.ntmps13
        go_wp2_with fail
        refine (size_any _ hb _).mono ?_
        rintro e w' ⟨rfl, rfl⟩
        go_wp2_with fail
        refine (refclass_any _ hb _).mono ?_
        rintro e w' ⟨rfl, rfl⟩
        go_wp2_with fail
        refine (he _).mono ?_
        rintro e w' ⟨rfl, rfl⟩
        go_wp2_with fail
        refine (hf _).mono ?_
        rintro e w' ⟨rfl, rfl⟩
        go_wp2_with fail
        refine (hg _).mono ?_
        rintro e w' ⟨rfl, rfl⟩
        go_wp2_with fail
        go_ret2
        exact ⟨rfl, rfl⟩
      · rw [if_pos (by omega)] at hv
        rw [hv, ho]
        rw [g1] at hg
        clear h1 h2 hs hr hz ho hn x1 hE q5 hw x2 hv g1 g2
        go_enter Try.func13, Try.ntmps13
        go_wp2_with fail
        refine (size_any _ hb _).mono ?_
        rintro e w' ⟨rfl, rfl⟩
        go_wp2_with fail
        refine (refclass_any _ hb _).mono ?_
        rintro e w' ⟨rfl, rfl⟩
        go_wp2_with fail
        refine (he _).mono ?_
        rintro e w' ⟨rfl, rfl⟩
        go_wp2_with fail
        refine (hf _).mono ?_
        rintro e w' ⟨rfl, rfl⟩
        go_wp2_with fail
        refine (hg _).mono ?_
        rintro e w' ⟨rfl, rfl⟩
        go_wp2_with fail
        go_ret2
        exact ⟨rfl, rfl⟩
    obtain rfl : E = 63 := by omega
    have hF : fr b < 4503599627370496 := fr_lt b
    obtain ⟨M, T, q1, q2, q3, q4⟩ : ∃ M T : Nat, ((fr b : Nat) : Int) + 4503599627370496 = (M : Int) ∧ IntKind.u64.wrap ((M : Int) * 2048) = (T : Int) ∧ M < 9007199254740992 ∧ T = (fr b + 4503599627370496) * 2048 :=
      ⟨fr b + 4503599627370496, (fr b + 4503599627370496) * 2048, by omega, by rw [IntKind.wrap_u64]; omega, by omega, rfl⟩
    by_cases hf0 : fr b = 0
    · have hT : ((T : Int) == 9223372036854775808) = true := by rw [beq_iff_eq]; omega
      rcases sg_cases hb with ⟨g1, g2⟩ | ⟨g1, g2⟩
      · have ho : okI b = false := decide_eq_false (by omega)
        rw [ho, intV_no ho]
        rw [g1] at hg
        generalize fr b = F at hf q1 hF
        clear h1 h2 hs hr hz ho hn x1 hE x2 x3 x4 g1 g2 q4 hf0
        go_enter Try.func13, Try.ntmps13
        go_wp2_with fail
        refine (size_any _ hb _).mono ?_
        rintro e w' ⟨rfl, rfl⟩
        go_wp2_with fail
        refine (refclass_any _ hb _).mono ?_
        rintro e w' ⟨rfl, rfl⟩
        go_wp2_with fail
        refine (he _).mono ?_
        rintro e w' ⟨rfl, rfl⟩
        go_wp2_with fail
        refine (hf _).mono ?_
        rintro e w' ⟨rfl, rfl⟩
        go_wp2_with fail
        refine (hg _).mono ?_
        rintro e w' ⟨rfl, rfl⟩
        go_wp2_with fail
        go_ret2
        exact ⟨rfl, rfl⟩
      · have hr63 : rung b = 4890909195324358656 := by omega
        have ho : okI b = true := by
          refine decide_eq_true ⟨by omega, by omega, ?_⟩
          rw [hr63, trunc_top.1, trunc_top.2]
        have hv : intV b = -9223372036854775808 := intV_of ho (by unfold wholeOf; rw [hr63, trunc_top.1, if_pos g2]; rfl)
        rw [hv, ho]
        rw [g1] at hg
        generalize fr b = F at hf q1 hF
        clear h1 h2 hs hr hz ho hn x1 hE x2 x3 x4 g1 g2 q4 hv hr63 hf0
        go_enter Try.func13, Try.ntmps13
        go_wp2_with fail
        refine (size_any _ hb _).mono ?_
        rintro e w' ⟨rfl, rfl⟩
        go_wp2_with fail
        refine (refclass_any _ hb _).mono ?_
        rintro e w' ⟨rfl, rfl⟩
        go_wp2_with fail
        refine (he _).mono ?_
        rintro e w' ⟨rfl, rfl⟩
        go_wp2_with fail
        refine (hf _).mono ?_
        rintro e w' ⟨rfl, rfl⟩
        go_wp2_with fail
        refine (hg _).mono ?_
        rintro e w' ⟨rfl, rfl⟩
        go_wp2_with fail
        go_ret2
        exact ⟨rfl, rfl⟩
    · have hT : ((T : Int) == 9223372036854775808) = false := by rw [beq_eq_false_iff_ne]; omega
      have ho : okI b = false := decide_eq_false (by omega)
      rw [ho, intV_no ho]
      rcases sg_cases hb with ⟨g1, g2⟩ | ⟨g1, g2⟩
      · rw [g1] at hg
        generalize fr b = F at hf q1 hF
        clear h1 h2 hs hr hz ho hn x1 hE x2 x3 x4 g1 g2 q4 hf0
        go_enter Try.func13, Try.ntmps13
        go_wp2_with fail
        refine (size_any _ hb _).mono ?_
        rintro e w' ⟨rfl, rfl⟩
        go_wp2_with fail
        refine (refclass_any _ hb _).mono ?_
        rintro e w' ⟨rfl, rfl⟩
        go_wp2_with fail
        refine (he _).mono ?_
        rintro e w' ⟨rfl, rfl⟩
        go_wp2_with fail
        refine (hf _).mono ?_
        rintro e w' ⟨rfl, rfl⟩
        go_wp2_with fail
        refine (hg _).mono ?_
        rintro e w' ⟨rfl, rfl⟩
        go_wp2_with fail
        go_ret2
        exact ⟨rfl, rfl⟩
      · rw [g1] at hg
        generalize fr b = F at hf q1 hF
        clear h1 h2 hs hr hz ho hn x1 hE x2 x3 x4 g1 g2 q4 hf0
        go_enter Try.func13, Try.ntmps13
        go_wp2_with fail
        refine (size_any _ hb _).mono ?_
        rintro e w' ⟨rfl, rfl⟩
        go_wp2_with fail
        refine (refclass_any _ hb _).mono ?_
        rintro e w' ⟨rfl, rfl⟩
        go_wp2_with fail
        refine (he _).mono ?_
        rintro e w' ⟨rfl, rfl⟩
        go_wp2_with fail
        refine (hf _).mono ?_
        rintro e w' ⟨rfl, rfl⟩
        go_wp2_with fail
        refine (hg _).mono ?_
        rintro e w' ⟨rfl, rfl⟩
        go_wp2_with fail
        go_ret2
        exact ⟨rfl, rfl⟩
  · have ho : okI b = false := by
      rcases hc with ⟨c1, c2⟩ | ⟨c1, c2, c3⟩ | ⟨c1, c2, c3⟩ | ⟨c1, c2⟩ | ⟨c1, c2⟩
      · omega
      · refine decide_eq_false (fun k => hz ?_)
        rcases whole_cases (r := rung b) (by omega) with ⟨_, _, a⟩ | ⟨a1, _⟩ | ⟨a1, _⟩
        · exact a.1 k.2.2
        · omega
        · omega
      · omega
      · exact decide_eq_false (by omega)
      · exact decide_eq_false (by omega)
    rw [ho, intV_no ho]
    have hc' : (((cls b : Nat) : Int) != 2) = true := by rw [bne_iff_ne]; omega
    clear h1 h2 hs hr hz ho h2c hc
    go_enter Try.func13, Try.ntmps13
    go_wp2_with fail
    refine (size_any _ hb _).mono ?_
    rintro e w' ⟨rfl, rfl⟩
    go_wp2_with fail
    refine (refclass_any _ hb _).mono ?_
    rintro e w' ⟨rfl, rfl⟩
    go_wp2_with fail
    go_ret2
    exact ⟨rfl, rfl⟩

end Go.Proofs.Ytbdhmjgnklkopaa
