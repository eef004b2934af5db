/-
  A whole number is told by the nearest one: the walk of the statement.
-/
import Derived.Test.YtbdhmjgnklkopaaMin
import Derived.Test.YtbdhmjgnklkopaaWake
import Derived.Test.YtbdhmjgnklkopaaNear
import Derived.Deep.CutRange
namespace Go.Proofs.Ytbdhmjgnklkopaa
open Go.RowKit Fm

theorem intV_bounds {b : Nat} (hb : b < 18446744073709551616) : -9223372036854775808 ≤ intV b ∧ intV b ≤ 9223372036854775807 := by
  unfold intV
  split
  · next h =>
    obtain ⟨c1, c2, _⟩ := ok_at h
    exact wholeOf_bounds hb c1 c2
  · omega

theorem sub_u64 {x y : Int} (h1 : -9223372036854775808 ≤ x) (h2 : x ≤ 9223372036854775807) (h3 : -9223372036854775808 ≤ y) (h4 : y ≤ 9223372036854775807) : ∃ X : Nat, IntKind.u64.wrap (IntKind.u64.wrap x - IntKind.u64.wrap y) = (X : Int) ∧ X < 18446744073709551616 ∧ (y ≤ x → (X : Int) = x - y) := by
  refine ⟨((x - y) % 18446744073709551616).toNat, ?_, by omega, by omega⟩
  rw [IntKind.wrap_u64, IntKind.wrap_u64, IntKind.wrap_u64]
  omega

theorem intV_no2 {b : Nat} (h : okI b = false) : intV b = 0 := by unfold intV; rw [h]; rfl

set_option maxRecDepth 100000 in
set_option maxHeartbeats 2000000 in
theorem rounds_walk (n : Int) (h1 : -9223372036854775808 ≤ n) (h2 : n ≤ 9223372036854775807) : Says 10 #[.int .i64 n] (.bool true) := by
  intro w
  have hb := ofI_lt h1 (show n ≤ 9223372036854775808 by omega)
  have hb1 := next_lt hb
  have hb2 := neg_lt hb
  have hb3 := next_lt hb2
  have hb4 := neg_lt hb3
  have o1 := of_any n h1 h2
  have i1 := int_any _ hb
  have x1 := next_any _ hb
  have i2 := int_any _ hb1
  have g1 := neg_any _ hb
  have x2 := next_any _ hb2
  have g2 := neg_any _ hb3
  have i3 := int_any _ hb4
  have l0 : Says 28 #[.int .u64 ((ofI n : Nat) : Int), .int .u64 0] (.bool (decide (n < 0))) := by
    have h := less_any (ofI n) 0 hb (by decide)
    rw [ofI_sign h1 h2] at h
    exact h
  rcases rounds h1 h2 with ⟨k1, k2, k3⟩ | hN
  · have o2 := of_any 4611686018427387904 (by decide) (by decide)
    have hq := ofI_lt (n := 4611686018427387904) (by decide) (by decide)
    have l1 := less_any (ofI 4611686018427387904) (ofI n) hq hb
    rw [k3] at l1
    rw [k1, intV_no2 k1] at i1
    generalize ofI 4611686018427387904 = q at o2 l1
    clear hb hb1 hb2 hb3 hb4 x1 i2 g1 x2 g2 i3 l0 k1 k3 hq h1
    generalize ofI n = b at *
    go_enter Try.func10, Try.ntmps10
    go_wp2_with fail
    refine (awake_any _).mono ?_
    rintro e w' ⟨rfl, rfl⟩
    go_wp2_with fail
    refine (o1 _).mono ?_
    rintro e w' ⟨rfl, rfl⟩
    go_wp2_with fail
    refine (i1 _).mono ?_
    rintro e w' ⟨rfl, rfl⟩
    go_wp2_with fail
    refine (o2 _).mono ?_
    rintro e w' ⟨rfl, rfl⟩
    go_wp2_with fail
    refine (l1 _).mono ?_
    rintro e w' ⟨rfl, rfl⟩
    go_wp2_with fail
    go_ret
    exact ⟨rfl, rfl⟩
  · unfold Near at hN
    obtain ⟨k1, D, d1, d2, u, v, e⟩ := hN
    have kb := intV_bounds hb
    have ub := intV_bounds hb1
    have vb := intV_bounds hb4
    rw [k1] at i1
    generalize neg (next (neg (ofI n))) = b4 at *
    generalize next (neg (ofI n)) = b3 at *
    generalize neg (ofI n) = b2 at *
    generalize next (ofI n) = b1 at *
    generalize ofI n = b at *
    generalize intV b = k at *
    generalize intV b1 = p at *
    generalize intV b4 = q at *
    generalize okI b1 = ok1 at *
    generalize okI b4 = ok4 at *
    clear hb hb1 hb2 hb3 hb4 k1
    obtain ⟨X1, y1, z1, c1⟩ := sub_u64 kb.1 kb.2 h1 h2
    obtain ⟨X2, y2, z2, c2⟩ := sub_u64 h1 h2 kb.1 kb.2
    obtain ⟨X3, y3, z3, c3⟩ := sub_u64 ub.1 ub.2 h1 h2
    obtain ⟨X4, y4, z4, c4⟩ := sub_u64 h1 h2 vb.1 vb.2
    have U : Hid (ok1 = false ∨ p < n ∨ D ≤ X3) := by
      refine Lib.hid ?_
      rcases u with u | u | u
      · exact Or.inl u
      · right; right; omega
      · right
        by_cases hp : p < n
        · exact Or.inl hp
        · have := c3 (by omega); right; omega
    have V : Hid (ok4 = false ∨ n < q ∨ D ≤ X4) := by
      refine Lib.hid ?_
      rcases v with v | v | v
      · exact Or.inl v
      · right; right; omega
      · right
        by_cases hp : n < q
        · exact Or.inl hp
        · have := c4 (by omega); right; omega
    have E : Hid (D = 0 ∨ 9007199254740992 < n ∨ n < -9007199254740992) := Lib.hid e
    have hD : D < 18446744073709551616 := by
      by_cases h : k ≤ n
      · have := c2 h; have := d2 h; omega
      · have := c1 (by omega); have := d1 (by omega); omega
    have hdd : (n ≤ k ∧ X1 = D) ∨ (k < n ∧ X2 = D) := by
      by_cases h : k < n
      · right; have := c2 (by omega); have := d2 (by omega); omega
      · left; have := c1 (by omega); have := d1 (by omega); omega
    clear u v e c1 c2 c3 c4 d1 d2 z1 z2 z3 z4
    rcases hdd with ⟨hk, he⟩ | ⟨hk, he⟩
    all_goals
      subst he
      go_enter Try.func10, Try.ntmps10
      go_wp2_with fail
      refine (awake_any _).mono ?_
      rintro e w' ⟨rfl, hw⟩
      replace hw := hw.symm
      subst hw
      go_wp2_with fail
      refine (o1 _).mono ?_
      rintro e w' ⟨rfl, hw⟩
      replace hw := hw.symm
      subst hw
      go_wp2_with fail
      refine (i1 _).mono ?_
      rintro e w' ⟨rfl, hw⟩
      replace hw := hw.symm
      subst hw
      go_wp2_with fail
      refine (x1 _).mono ?_
      rintro e w' ⟨rfl, hw⟩
      replace hw := hw.symm
      subst hw
      go_wp2_with fail
      refine (i2 _).mono ?_
      rintro e w' ⟨rfl, hw⟩
      replace hw := hw.symm
      subst hw
      go_wp2_with fail
      refine (g1 _).mono ?_
      rintro e w' ⟨rfl, hw⟩
      replace hw := hw.symm
      subst hw
      go_wp2_with fail
      refine (x2 _).mono ?_
      rintro e w' ⟨rfl, hw⟩
      replace hw := hw.symm
      subst hw
      go_wp2_with fail
      refine (g2 _).mono ?_
      rintro e w' ⟨rfl, hw⟩
      replace hw := hw.symm
      subst hw
      go_wp2_with fail
      refine (i3 _).mono ?_
      rintro e w' ⟨rfl, hw⟩
      replace hw := hw.symm
      subst hw
      go_upto_region 11 with fail
      go_cut [7, 8, 78] from 12 to 118 (fun _ _ t wc => t = .bool false ∧ wc = w)
      case first =>
        rcases U.out with h | h | h
        all_goals
          go_wp2_with fail
          all_goals
            go_meet
            case rel => first | exact ⟨rfl, rfl⟩ | exact ⟨by rw [decide_eq_false (by omega), Bool.and_false], rfl⟩
      case rest =>
        obtain ⟨rfl, hw⟩ := hcut
        replace hw := hw.symm
        subst hw
        go_upto_region 13 with fail
        go_cut [9, 10, 98] from 12 to 118 (fun _ _ t wc2 => t = .bool false ∧ wc2 = w)
        case first =>
          rcases V.out with h | h | h
          all_goals
            go_wp2_with fail
            all_goals
              go_meet
              case rel => first | exact ⟨rfl, rfl⟩ | exact ⟨by rw [decide_eq_false (by omega), Bool.and_false], rfl⟩
        case rest =>
          obtain ⟨rfl, hw⟩ := hcut
          replace hw := hw.symm
          subst hw
          rcases E.out with h | h | h
          all_goals
            go_wp2_with fail
            refine (l0 _).mono ?_
            rintro e w' ⟨rfl, rfl⟩
            go_wp2_with fail
            all_goals
              go_ret
              exact ⟨rfl, rfl⟩

end Go.Proofs.Ytbdhmjgnklkopaa
