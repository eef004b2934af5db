/-
  SpanMoves: a number that is farther reaches as much farther.
-/
import Derived.Test.YtimpebilgoekdaaAw
import Derived.Test.YtimpebilgoekdaaRw
namespace Go.Proofs.Ytimpebilgoekdaa
set_option maxRecDepth 100000
set_option linter.unusedVariables false
set_option linter.unusedSimpArgs false
open Go.RowKit

theorem lows_small {l : List Int} (h : ∀ x ∈ l, -1099511627776 ≤ x ∧ x ≤ 1099511627776) : -1099511627776 * (l.length : Int) ≤ sumI (lows l) ∧ sumI (highs l) ≤ 1099511627776 * (l.length : Int) := by
  induction l with
  | nil => simp [sumI_nil, lows, highs]
  | cons x m ih =>
    have h1 := ih (fun y hy => h y (List.mem_cons_of_mem _ hy))
    have h2 := h x (List.mem_cons_self ..)
    unfold lows highs at h1 ⊢
    by_cases hx : x < 0
    · rw [List.filter_cons, if_pos (by simpa using hx), List.filter_cons, if_neg (by simpa using hx), sumI_cons, List.length_cons]; omega
    · rw [List.filter_cons, if_neg (by simpa using hx), List.filter_cons, if_pos (by simpa using hx), sumI_cons, List.length_cons]; omega
/-- whatever is near, with ints that are small -/
theorem reach_small {l : List Int} (h : ∀ x ∈ l, -1099511627776 ≤ x ∧ x ≤ 1099511627776) (hn : l.length ≤ 100) {k : Int} (hk : 0 ≤ k ∧ k < 8589934592) :
    reachE k l = 0 ∧ reachL k l = k + sumI (lows l) ∧ reachH k l = k + sumI (highs l) := by
  have h1 := lows_small h
  have h2 : reachE k l = 0 := by
    unfold reachE
    rw [if_neg (by omega), if_pos]
    have := lows_neg l
    have := highs_pos l
    unfold okI loI hiI
    omega
  exact ⟨h2, (reachLH_yes h2).1, (reachLH_yes h2).2⟩

set_option maxHeartbeats 1000000 in
theorem moves_walk (v : Int) (A : Option Addr) (n c : Nat) (l : List Int) (by_ : Int) (w : World) (hl : Ls w A n l) :
    Calls Try.prog 9 #[.int .i64 v, .slice A n c, .int .i64 by_] w fun e w' => e = .returned (.bool true) ∧ Below w.heap.size w w' := by
  have HL := Lib.hid hl
  clear hl
  obtain ⟨k, hk, ek⟩ := low v 4294967295 32 (by decide) (by decide)
  obtain ⟨m, hm, em⟩ := low by_ 4294967295 32 (by decide) (by decide)
  go_enter Try.func9, Try.ntmps9
  go_wp2_with fail
  refine (awake_any _).mono ?_
  rintro e w1 ⟨rfl, hb⟩
  have HB1 := Lib.hid hb
  have HL1 := Lib.hid (HL.out.below hb)
  clear hb HL
  rcases Nat.lt_or_ge 100 n with hbig | hfew
  · have hd : decide ((n : Int) > 100) = true := decide_eq_true (by omega)
    have hd2 : decide ((100 : Int) < (n : Int)) = true := decide_eq_true (by omega)
    have hd3 : decide (100 < n) = true := decide_eq_true hbig
    go_wp2_with fail
    go_ret
    exact ⟨rfl, HB1.out⟩
  have hd : decide ((n : Int) > 100) = false := decide_eq_false (by omega)
  have hd2 : decide ((100 : Int) < (n : Int)) = false := decide_eq_false (by omega)
  have hd3 : decide (100 < n) = false := decide_eq_false (by omega)
  go_wp2_with fail
  go_loopw [8] (fun u wr => ∃ j : Nat, u = .int .i64 (j : Int) ∧ j ≤ n ∧ Hid (∀ x ∈ l.take j, -1099511627776 ≤ x ∧ x ≤ 1099511627776) ∧ wr = w1) (fun u _ => n - (intOf u).toNat)
  case atStart => exact ⟨0, rfl, Nat.zero_le _, Lib.hid (by simp), rfl⟩
  case round =>
    obtain ⟨j, rfl, hj, HS, hwr⟩ := hrel
    subst hwr
    rcases Nat.lt_or_ge j n with hlt | hge
    · obtain ⟨b, o, rfl, hb, hz, hget, hc⟩ := HL1.out.get hlt
      have HG := Lib.hid hget
      have hi1 : (j : Int) < (n : Int) := by omega
      have hd4 : decide ((j : Int) < (n : Int)) = true := decide_eq_true (by omega)
      have hd5 : decide (j < n) = true := decide_eq_true hlt
      generalize l.getD j 0 = z at *
      clear hget hb hz
      rcases Int.lt_or_le 1099511627776 z with hz1 | hz1
      · have t1 : decide (z > 1099511627776) = true := decide_eq_true hz1
        have t2 : decide (1099511627776 < z) = true := decide_eq_true hz1
        clear hz1
        go_wp2_with fail
        go_ret
        exact ⟨rfl, HB1.out⟩
      have t1 : decide (z > 1099511627776) = false := decide_eq_false (by omega)
      have t2 : decide (1099511627776 < z) = false := decide_eq_false (by omega)
      rcases Int.lt_or_le z (-1099511627776) with hz2 | hz2
      · have t3 : decide (z < -1099511627776) = true := decide_eq_true hz2
        clear hz1 hz2
        go_wp2_with fail
        go_ret
        exact ⟨rfl, HB1.out⟩
      have t3 : decide (z < -1099511627776) = false := decide_eq_false (by omega)
      have HS2 : Hid (∀ x ∈ l.take (j + 1), -1099511627776 ≤ x ∧ x ≤ 1099511627776) := by
        show ∀ x ∈ l.take (j + 1), _
        intro x hx
        rw [List.take_add_one, HG.out] at hx
        rcases List.mem_append.1 hx with hx | hx
        · exact HS.out x hx
        · simp at hx; subst hx; exact ⟨hz2, hz1⟩
      clear hz1 hz2
      go_wp2_with fail
      exact ⟨⟨j + 1, rfl, hlt, HS2, by first | exact trivial | rfl⟩, by simp [intOf]; omega⟩
    · obtain rfl : j = n := by omega
      have hd4 : decide ((j : Int) < (j : Int)) = false := decide_eq_false (by omega)
      have hd5 : decide (j < j) = false := decide_eq_false (by omega)
      have hlj : l.take j = l := List.take_of_length_le (by rw [HL1.out.len]; exact Nat.le_refl _)
      rw [hlj] at HS
      clear hlj
      have hl100 : l.length ≤ 100 := by rw [HL1.out.len]; exact hfew
      have hr1 := fun V hV => reach_any (k : Int) (by unfold okI; omega) A j c l V (HL1.out.below hV)
      have hr2 := fun V hV => reach_any ((k : Int) + (m : Int)) (by unfold okI; omega) A j c l V (HL1.out.below hV)
      obtain ⟨ke, kl, kh⟩ := reach_small HS.out hl100 (k := (k : Int)) (by omega)
      obtain ⟨me, ml, mh⟩ := reach_small HS.out hl100 (k := (k : Int) + (m : Int)) (by omega)
      have hs := lows_small HS.out
      have hs2 := lows_neg l
      have hs3 := highs_pos l
      unfold reV at hr1 hr2
      rw [ke, kl, kh] at hr1
      rw [me, ml, mh] at hr2
      have hh : holdsB ((k : Int) + sumI (lows l)) ((k : Int) + sumI (highs l)) (k : Int) = true := by unfold holdsB; rw [decide_eq_true (by omega), decide_eq_true (by omega)]; rfl
      have hf : fitsB ((k : Int) + sumI (lows l)) ((k : Int) + sumI (highs l)) (k : Int) l = true := by
        unfold fitsB
        exact decide_eq_true ⟨ke, by unfold loI; omega, by unfold hiI; omega⟩
      have hho := holds_any ((k : Int) + sumI (lows l)) ((k : Int) + sumI (highs l)) (k : Int)
      have hfi := fun V hV => fits_any ((k : Int) + sumI (lows l)) ((k : Int) + sumI (highs l)) (k : Int) (by unfold okI; omega) A j c l V (HL1.out.below hV)
      rw [hh] at hho
      rw [hf] at hfi
      have w0 : IntKind.i64.wrap ((k : Int) + (m : Int)) = (k : Int) + (m : Int) := by rw [IntKind.wrap_i64]; omega
      have w3 : IntKind.i64.wrap ((k : Int) + sumI (lows l) + (m : Int)) = (k : Int) + (m : Int) + sumI (lows l) := by rw [IntKind.wrap_i64]; omega
      have w4 : IntKind.i64.wrap ((k : Int) + sumI (highs l) + (m : Int)) = (k : Int) + (m : Int) + sumI (highs l) := by rw [IntKind.wrap_i64]; omega
      generalize (k : Int) + (m : Int) + sumI (lows l) = bl at *
      generalize (k : Int) + (m : Int) + sumI (highs l) = bh at *
      generalize (k : Int) + sumI (lows l) = al at *
      generalize (k : Int) + sumI (highs l) = ah at *
      clear ke kl kh me ml mh hs hs2 hs3 hh hf HS
      go_wp2_with fail
      refine (hr1 _ (Below.refl _ _)).mono ?_
      rintro e w2 ⟨rfl, hb⟩
      have HB2 := Lib.hid hb
      have HA3 := Lib.hid (Bk.new w2 (spC al ah) 29)
      have HB3 := Lib.hid (below_two hb (below_new w2 (.cells (spC al ah) 29)))
      clear hb HB2 hr1
      go_wp2_with fail
      refine (hr2 _ HB3.out).mono ?_
      rintro e w4 ⟨rfl, hb⟩
      have HA5 := Lib.hid ((HA3.out.below hb).al (.cells (spC bl bh) 29))
      have HC5 := Lib.hid (Bk.new w4 (spC bl bh) 29)
      have HB5 := Lib.hid (below_two (below_two HB3.out hb) (below_new w4 (.cells (spC bl bh) 29)))
      clear hb HA3 HB3 hr2
      have a0 := HA5.out.s0
      have a1 := HA5.out.s1
      go_wp2_with fail
      refine (hho _).mono ?_
      rintro e w6 ⟨rfl, hb⟩
      have HA6 := Lib.hid (HA5.out.below hb)
      have HB6 := Lib.hid (below_two HB5.out hb)
      clear hb HA5 HB5 hho HC5 a0 a1
      have a0 := HA6.out.s0
      have a1 := HA6.out.s1
      go_wp2_with fail
      refine (hfi _ HB6.out).mono ?_
      rintro e w7 ⟨rfl, hb⟩
      have HB7 := Lib.hid (below_two HB6.out hb)
      clear hb hfi
      go_wp2_with fail
      go_ret
      exact ⟨rfl, below_two HB1.out HB7.out⟩
end Go.Proofs.Ytimpebilgoekdaa
