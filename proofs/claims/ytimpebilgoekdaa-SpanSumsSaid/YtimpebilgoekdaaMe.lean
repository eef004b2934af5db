/-
  Meet: what two spans have in common, the program's and the document's.
-/
import Derived.Test.YtimpebilgoekdaaSm
namespace Go.Proofs.Ytimpebilgoekdaa
set_option maxRecDepth 100000
set_option linter.unusedVariables false
set_option linter.unusedSimpArgs false
open Go.RowKit

def meB (a b c d : Int) : Bool := decide (max a c ≤ min b d)
def meL (a b c d : Int) : Int := if max a c ≤ min b d then max a c else 0
def meH (a b c d : Int) : Int := if max a c ≤ min b d then min b d else 0
abbrev mtV (a b c d : Int) : Value := .tuple #[spV (meL a b c d) (meH a b c d), .bool (meB a b c d)]

set_option maxHeartbeats 1000000 in
theorem meet_any (a b c d : Int) : Says 18 #[spV a b, spV c d] (mtV a b c d) := by
  intro w
  have HZ := Bk.new ((w.alloc (.cells (spC a b) 29)).alloc (.cells (spC c d) 29)) (spC 0 0) 29
  rw [size_al, size_al] at HZ
  have HZ := Lib.hid HZ
  have HB := Lib.hid (below_two (below_two (below_new w (.cells (spC a b) 29)) (below_new _ (.cells (spC c d) 29))) (below_new _ (.cells (spC 0 0) 29)))
  have HB2 := Lib.hid (below_two HB.out (below_new _ (.cells (spC (max a c) (min b d)) 29)))
  have HZ2 := Lib.hid (HZ.out.al (.cells (spC (max a c) (min b d)) 29))
  have HB4 := Lib.hid (fun u v => below_two (below_two (below_two (below_new w (.cells (spC a b) 29)) (below_new _ (.cells (spC c d) 29))) (below_new _ (.cells u 29))) (below_new _ (.cells v 29)))
  have z0 := HZ2.out.s0
  have z1 := HZ2.out.s1
  have f0 := HZ2.out.fr 0
  have f1 := HZ2.out.fr 1
  rcases Int.lt_or_le (min b d) (max a c) with h | h
  · have h1 : decide (min b d < max a c) = true := decide_eq_true h
    have h2 : decide (max a c > min b d) = true := decide_eq_true h
    have HL : Hid (meL a b c d = 0) := by show _ = _; unfold meL; rw [if_neg (by omega)]
    have HH : Hid (meH a b c d = 0) := by show _ = _; unfold meH; rw [if_neg (by omega)]
    have HM : Hid (meB a b c d = false) := decide_eq_false (by omega)
    clear h
    unfold mtV
    rw [HL.out, HH.out, HM.out]
    go_enter Try.func18, Try.ntmps18
    go_wp2_with fail
    exact bodyPost_ret (v := .tuple #[spV 0 0, .bool false]) (by rw [results_cell_tmp rfl]; go_simp; first | done | exact ⟨rfl, rfl⟩) rfl ⟨rfl, HB4.out _ _⟩
  · have h1 : decide (min b d < max a c) = false := decide_eq_false (by omega)
    have h2 : decide (max a c > min b d) = false := decide_eq_false (by omega)
    have HL : Hid (meL a b c d = max a c) := by show _ = _; unfold meL; rw [if_pos h]
    have HH : Hid (meH a b c d = min b d) := by show _ = _; unfold meH; rw [if_pos h]
    have HM : Hid (meB a b c d = true) := decide_eq_true h
    clear h
    unfold mtV
    rw [HL.out, HH.out, HM.out]
    go_enter Try.func18, Try.ntmps18
    go_wp2_with fail
    exact bodyPost_ret (v := .tuple #[spV (max a c) (min b d), .bool true]) (by rw [results_cell_tmp rfl]; go_simp; first | done | exact ⟨rfl, rfl⟩) rfl ⟨rfl, HB4.out _ _⟩

set_option maxHeartbeats 1000000 in
theorem refmeet_any (a b c d : Int) : Says 19 #[spV a b, spV c d] (mtV a b c d) := by
  intro w
  have HZ := Bk.new ((w.alloc (.cells (spC a b) 24)).alloc (.cells (spC c d) 24)) (spC 0 0) 24
  rw [size_al, size_al] at HZ
  have HZ := Lib.hid HZ
  have HB := Lib.hid (below_two (below_two (below_new w (.cells (spC a b) 24)) (below_new _ (.cells (spC c d) 24))) (below_new _ (.cells (spC 0 0) 24)))
  have HB2 := Lib.hid (below_two HB.out (below_new _ (.cells (spC (max a c) (min b d)) 24)))
  have HZ2 := Lib.hid (HZ.out.al (.cells (spC (max a c) (min b d)) 24))
  have HB4 := Lib.hid (fun u v => below_two (below_two (below_two (below_new w (.cells (spC a b) 24)) (below_new _ (.cells (spC c d) 24))) (below_new _ (.cells u 24))) (below_new _ (.cells v 24)))
  have z0 := HZ2.out.s0
  have z1 := HZ2.out.s1
  have f0 := HZ2.out.fr 0
  have f1 := HZ2.out.fr 1
  rcases Int.lt_or_le (min b d) (max a c) with h | h
  · have h1 : decide (min b d < max a c) = true := decide_eq_true h
    have h2 : decide (max a c > min b d) = true := decide_eq_true h
    have HL : Hid (meL a b c d = 0) := by show _ = _; unfold meL; rw [if_neg (by omega)]
    have HH : Hid (meH a b c d = 0) := by show _ = _; unfold meH; rw [if_neg (by omega)]
    have HM : Hid (meB a b c d = false) := decide_eq_false (by omega)
    clear h
    unfold mtV
    rw [HL.out, HH.out, HM.out]
    go_enter Try.func19, Try.ntmps19
    go_wp2_with fail
    exact bodyPost_ret (v := .tuple #[spV 0 0, .bool false]) (by rw [results_cell_tmp rfl]; go_simp; first | done | exact ⟨rfl, rfl⟩) rfl ⟨rfl, HB4.out _ _⟩
  · have h1 : decide (min b d < max a c) = false := decide_eq_false (by omega)
    have h2 : decide (max a c > min b d) = false := decide_eq_false (by omega)
    have HL : Hid (meL a b c d = max a c) := by show _ = _; unfold meL; rw [if_pos h]
    have HH : Hid (meH a b c d = min b d) := by show _ = _; unfold meH; rw [if_pos h]
    have HM : Hid (meB a b c d = true) := decide_eq_true h
    clear h
    unfold mtV
    rw [HL.out, HH.out, HM.out]
    go_enter Try.func19, Try.ntmps19
    go_wp2_with fail
    exact bodyPost_ret (v := .tuple #[spV (max a c) (min b d), .bool true]) (by rw [results_cell_tmp rfl]; go_simp; first | done | exact ⟨rfl, rfl⟩) rfl ⟨rfl, HB4.out _ _⟩

end Go.Proofs.Ytimpebilgoekdaa
