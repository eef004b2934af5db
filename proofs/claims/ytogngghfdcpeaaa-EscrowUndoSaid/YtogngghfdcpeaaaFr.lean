/-
  Fits and Room.
-/
import Derived.Test.YtogngghfdcpeaaaFi
namespace Go.Proofs.Ytogngghfdcpeaaa
set_option maxRecDepth 100000
set_option linter.unusedVariables false
set_option linter.unusedSimpArgs false
open Go.RowKit

set_option maxHeartbeats 1000000 in
theorem fits_any (a b v : Int) (hv : okI v) (A : Option Addr) (n c : Nat) (l : List Int) (w : World) (hl : Ls w A n l) :
    Calls Try.prog 56 #[spV a b, .int .i64 v, .slice A n c] w fun e w' => e = .returned (.bool (fitsB a b v l)) ∧ Below w.heap.size w w' := by
  have HB := Lib.hid (below_new w (.cells (spC a b) 53))
  have HL := Lib.hid hl
  have hr := fun V hV => stays_any a b v hv A n c l V (HL.out.below hV)
  clear hl hv
  unfold stV at hr
  generalize reachL v l = rl at *
  generalize reachH v l = rh at *
  generalize fitsB a b v l = fb at *
  go_enter Try.func56, Try.ntmps56
  go_wp2_with fail
  refine (hr _ HB.out).mono ?_
  rintro e w1 ⟨rfl, hb1⟩
  have HB1 := Lib.hid (below_two HB.out hb1)
  have HB2 := Lib.hid (below_two HB1.out (below_new w1 (.cells (spC rl rh) 53)))
  clear hb1 HB HB1 hr
  go_wp2_with fail
  go_ret
  exact ⟨rfl, HB2.out⟩

theorem fits_less {a b v : Int} {l : List Int} (h : fitsB a b v l = true) : (reachL v l = loI v l ∧ reachH v l = hiI v l) ∧ (okI (loI v l) ∧ okI (hiI v l)) ∧ a ≤ loI v l ∧ hiI v l ≤ b := by
  unfold fitsB at h
  have h := of_decide_eq_true h
  exact ⟨reachLH_yes h.1, reach_okI h.1, h.2⟩
/-- what Room answers -/
abbrev roV (a b v : Int) (l : List Int) : Value := .tuple #[.int .i64 (roomL a b v l), .int .i64 (roomH a b v l)]

end Go.Proofs.Ytogngghfdcpeaaa
