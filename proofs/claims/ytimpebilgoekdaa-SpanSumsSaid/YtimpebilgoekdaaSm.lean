/-
  The small calls: Holds, down, up, Meet, a span taken over from one kind into the other; the document's of, plus, told, less, Holds, Meet.
-/
import Derived.Test.YtimpebilgoekdaaNa
namespace Go.Proofs.Ytimpebilgoekdaa
set_option maxRecDepth 100000
set_option linter.unusedVariables false
set_option linter.unusedSimpArgs false
open Go.RowKit

/-- a span -/
abbrev spC (a b : Int) : Array Value := #[.int .i64 a, .int .i64 b]
abbrev spV (a b : Int) : Value := .agg (spC a b)
section
variable {W : World} {g : Nat} {a b : Int} {t : TypeId}
theorem Bk.s0 (h : Bk W g (spC a b) t) : W.cell? ⟨g, 0, none⟩ = some (.int .i64 a) := h.c 0 _ rfl
theorem Bk.s1 (h : Bk W g (spC a b) t) : W.cell? ⟨g, 1, none⟩ = some (.int .i64 b) := h.c 1 _ rfl
end
def holdsB (a b v : Int) : Bool := decide (a ≤ v) && decide (v ≤ b)

theorem holds_any (a b v : Int) : Says 21 #[spV a b, .int .i64 v] (.bool (holdsB a b v)) := by
  intro w
  have HB := Lib.hid (below_new w (.cells (spC a b) 29))
  have HU : Hid (holdsB a b v = (decide (a ≤ v) && decide (v ≤ b))) := rfl
  go_enter Try.func21, Try.ntmps21
  go_wp2_with fail
  all_goals
    go_ret
    refine ⟨?_, HB.out⟩
    rw [HU.out]
    first
      | (simp [*]; done)
      | (simp [*]; omega)
theorem refholds_any (a b v : Int) : Says 22 #[spV a b, .int .i64 v] (.bool (holdsB a b v)) := by
  intro w
  have HB := Lib.hid (below_new w (.cells (spC a b) 24))
  have HU : Hid (holdsB a b v = (decide (a ≤ v) && decide (v ≤ b))) := rfl
  go_enter Try.func22, Try.ntmps22
  go_wp2_with fail
  all_goals
    go_ret
    refine ⟨?_, HB.out⟩
    rw [HU.out]
    first
      | (simp [*]; done)
      | (simp [*]; omega)
theorem ours_any (a b : Int) : Says 16 #[spV a b] (spV a b) := by
  intro w
  have HB := Lib.hid (fun v => below_two (below_new w (.cells (spC a b) 24)) (below_new _ (.cells v 29)))
  go_enter Try.func16, Try.ntmps16
  go_wp2_with fail
  exact bodyPost_ret (v := spV a b) (by rw [results_cell_one rfl]; go_simp) rfl ⟨rfl, HB.out _⟩
theorem theirs_any (a b : Int) : Says 20 #[spV a b] (spV a b) := by
  intro w
  have HB := Lib.hid (fun v => below_two (below_new w (.cells (spC a b) 29)) (below_new _ (.cells v 24)))
  go_enter Try.func20, Try.ntmps20
  go_wp2_with fail
  exact bodyPost_ret (v := spV a b) (by rw [results_cell_one rfl]; go_simp) rfl ⟨rfl, HB.out _⟩

/-- how much less: as far as an int goes -/
theorem down_any (x y : Int) (hx : okI x) (hy : okI y) (h : y ≤ x) : Says 35 #[.int .i64 x, .int .i64 y] (.int .i64 (clampI (y - x))) := by
  intro w
  obtain ⟨d, hd⟩ : ∃ d, IntKind.i64.wrap (y - x) = d := ⟨_, rfl⟩
  have HC : Hid (clampI (y - x) = if d ≤ 0 then d else -9223372036854775808) := by
    show _ = _
    rw [IntKind.wrap_i64] at hd
    unfold okI at hx hy
    unfold clampI okI
    subst hd
    repeat' split
    all_goals omega
  clear hx hy h
  rw [HC.out]
  rcases Int.lt_or_le 0 d with h | h
  · rw [if_neg (by omega)]
    have h2 : decide (d ≤ 0) = false := decide_eq_false (by omega)
    clear HC
    go_enter Try.func35, Try.ntmps35
    go_wp2_with fail
    go_ret
    exact ⟨rfl, Below.refl _ _⟩
  · rw [if_pos h]
    have h2 : decide (d ≤ 0) = true := decide_eq_true h
    clear HC
    go_enter Try.func35, Try.ntmps35
    go_wp2_with fail
    go_ret
    exact ⟨rfl, Below.refl _ _⟩
theorem up_any (x y : Int) (hx : okI x) (hy : okI y) (h : x ≤ y) : Says 36 #[.int .i64 x, .int .i64 y] (.int .i64 (clampI (y - x))) := by
  intro w
  obtain ⟨d, hd⟩ : ∃ d, IntKind.i64.wrap (y - x) = d := ⟨_, rfl⟩
  have HC : Hid (clampI (y - x) = if 0 ≤ d then d else 9223372036854775807) := by
    show _ = _
    rw [IntKind.wrap_i64] at hd
    unfold okI at hx hy
    unfold clampI okI
    subst hd
    repeat' split
    all_goals omega
  clear hx hy h
  rw [HC.out]
  rcases Int.lt_or_le d 0 with h | h
  · rw [if_neg (by omega)]
    have h2 : decide (0 ≤ d) = false := decide_eq_false (by omega)
    have h3 : decide (d ≥ 0) = false := decide_eq_false (by omega)
    clear HC
    go_enter Try.func36, Try.ntmps36
    go_wp2_with fail
    go_ret
    exact ⟨rfl, Below.refl _ _⟩
  · rw [if_pos h]
    have h2 : decide (0 ≤ d) = true := decide_eq_true h
    have h3 : decide (d ≥ 0) = true := decide_eq_true h
    clear HC
    go_enter Try.func36, Try.ntmps36
    go_wp2_with fail
    go_ret
    exact ⟨rfl, Below.refl _ _⟩
end Go.Proofs.Ytimpebilgoekdaa
