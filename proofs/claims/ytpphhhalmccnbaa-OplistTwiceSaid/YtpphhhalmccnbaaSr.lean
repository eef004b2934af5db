/-
  Sum and Reach: what the program answers of any ints.
-/
import Derived.Test.YtpphhhalmccnbaaFo
namespace Go.Proofs.Ytpphhhalmccnbaa
set_option maxRecDepth 100000
set_option linter.unusedVariables false
set_option linter.unusedSimpArgs false
open Go.RowKit


theorem sumE_few {l : List Int} (h : l.length ≤ 4096) : sumE l = tlE (sumI l) := by unfold sumE tlE; rw [if_neg (by omega)]
theorem sumV_few {l : List Int} (h : l.length ≤ 4096) : sumV l = tlV (sumI l) := by
  unfold sumV; rw [sumE_few h]; unfold tlE tlV
  by_cases hx : okI (sumI l) <;> simp [hx]
theorem sumE_many {l : List Int} (h : 4096 < l.length) : sumE l = 13 := by unfold sumE; rw [if_pos h]
theorem sumV_many {l : List Int} (h : 4096 < l.length) : sumV l = 0 := by unfold sumV; rw [sumE_many h]; rfl

theorem sum_any (A : Option Addr) (n c : Nat) (l : List Int) (w : World) (hl : Ls w A n l) :
    Calls Try.prog 27 #[.slice A n c] w fun e w' => e = .returned (.tuple #[.int .i64 (sumV l), .int .i64 (sumE l)]) ∧ Below w.heap.size w w' := by
  have HN := Lib.hid hl.len
  rcases Nat.lt_or_ge 4096 n with hbig | hfew
  · have hd : decide ((4096 : Int) < (n : Int)) = true := decide_eq_true (by omega)
    have hd2 : decide (4096 < n) = true := decide_eq_true hbig
    have HV := Lib.hid (sumV_many (l := l) (by rw [hl.len]; exact hbig))
    have HE := Lib.hid (sumE_many (l := l) (by rw [hl.len]; exact hbig))
    clear hl
    rw [HV.out, HE.out]
    go_enter Try.func27, Try.ntmps27
    go_wp2_with fail
    go_ret2
    exact ⟨rfl, Below.refl _ _⟩
  · have hd : decide ((4096 : Int) < (n : Int)) = false := decide_eq_false (by omega)
    have hd2 : decide (4096 < n) = false := decide_eq_false (by omega)
    have HV := Lib.hid (sumV_few (l := l) (by rw [hl.len]; exact hfew))
    have HE := Lib.hid (sumE_few (l := l) (by rw [hl.len]; exact hfew))
    have h0 := wfold_any A n c l hfew w hl
    have h1 := narrow_any (sumI l)
    clear hl
    rw [HV.out, HE.out]
    generalize sumI l = s at *
    go_enter Try.func27, Try.ntmps27
    go_wp2_with fail
    refine h0.mono ?_
    rintro e w1 ⟨rfl, hb1⟩
    clear h0
    have HB1 := Lib.hid hb1
    clear hb1
    go_wp2_with fail
    refine (h1 _).mono ?_
    rintro e w2 ⟨rfl, hb2⟩
    have HB2 := Lib.hid (below_two HB1.out hb2)
    clear hb2 HB1 h1
    go_wp2_with fail
    go_ret2
    exact ⟨rfl, HB2.out⟩

/-- Reach's answer, by its ends -/
theorem reachE_few {v : Int} {l : List Int} (h : l.length ≤ 4096) : reachE v l = if tlE (loI v l) = 0 ∧ tlE (hiI v l) = 0 then 0 else 12 := by
  unfold reachE tlE; rw [if_neg (by omega)]
  by_cases hx : okI (loI v l) <;> by_cases hy : okI (hiI v l) <;> simp [hx, hy]
theorem reachE_many {v : Int} {l : List Int} (h : 4096 < l.length) : reachE v l = 13 := by unfold reachE; rw [if_pos h]
theorem reachLH_no {v : Int} {l : List Int} (h : ¬ reachE v l = 0) : reachL v l = 0 ∧ reachH v l = 0 := by unfold reachL reachH; rw [if_neg h, if_neg h]; exact ⟨rfl, rfl⟩
theorem reachLH_yes {v : Int} {l : List Int} (h : reachE v l = 0) : reachL v l = loI v l ∧ reachH v l = hiI v l := by unfold reachL reachH; rw [if_pos h, if_pos h]; exact ⟨rfl, rfl⟩
theorem reach_okI {v : Int} {l : List Int} (h : reachE v l = 0) : okI (loI v l) ∧ okI (hiI v l) := by
  unfold reachE at h
  split at h
  · omega
  · split at h
    · assumption
    · omega
theorem reach_cases (v : Int) (l : List Int) : reachE v l = 0 ∨ reachE v l = 12 ∨ reachE v l = 13 := by unfold reachE; split <;> (try split) <;> simp
theorem reachL_ok (v : Int) (l : List Int) : okI (reachL v l) := by
  unfold reachL; split
  · next h => exact (reach_okI h).1
  · decide
theorem reachH_ok (v : Int) (l : List Int) : okI (reachH v l) := by
  unfold reachH; split
  · next h => exact (reach_okI h).2
  · decide
/-- what Reach answers -/
abbrev reV (v : Int) (l : List Int) : Value := .tuple #[spV (reachL v l) (reachH v l), .int .i64 (reachE v l)]

end Go.Proofs.Ytpphhhalmccnbaa
