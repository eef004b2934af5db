/-
  Whether any super may be: the document's answer.
-/
import Derived.Test.YtojidejlohpeaaaSane8
namespace Go.Proofs.Ytojidejlohpeaaa
set_option maxRecDepth 100000
open Go.RowKit Sup

set_option maxHeartbeats 4000000 in
theorem refsane_any (w : World) (s : Sup) : Calls Try.prog 19 #[supV s] w fun e w' => e = .returned (.bool (decide s.May)) ∧ Below w.heap.size w w' := by
  have hb0 := Lib.hid (below_new w (.cells (supC s) 23))
  have hm : decide s.May = decide ((0 ≤ s.V ∧ s.V ≤ 281474976710656) ∧ (0 ≤ s.E ∧ s.E ≤ 4294967295) ∧ (0 ≤ s.B ∧ s.B ≤ 256) ∧ (0 ≤ s.C ∧ s.C ≤ 64) ∧ (1 ≤ s.L ∧ s.L ≤ 4096) ∧ (0 ≤ s.H ∧ s.H ≤ 1099511627776) ∧ (0 ≤ s.A ∧ s.A ≤ 1099511627776)) := rfl
  rw [hm]
  unfold supV supC at *
  obtain ⟨v0, v1, v2, v3, v4, v5, v6⟩ := s
  clear hm
  go_enter Try.func19, Try.ntmps19
  go_wp2_with fail
  all_goals
    go_ret
    first
      | exact ⟨by rw [decide_eq_true (by omega)]; rfl, hb0.out⟩
      | exact ⟨by rw [decide_eq_false (by omega)]; rfl, hb0.out⟩
      | exact ⟨congrArg (fun b => Ending.returned (Value.bool b)) (decide_eq_decide.2 (by omega)), hb0.out⟩

end Go.Proofs.Ytojidejlohpeaaa
