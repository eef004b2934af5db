/-
  Two spans held against each other; the statements' example.
-/
import Derived.Test.YtimpebilgoekdaaFr
import Derived.Test.YtimpebilgoekdaaMe
namespace Go.Proofs.Ytimpebilgoekdaa
set_option maxRecDepth 100000
set_option linter.unusedVariables false
set_option linter.unusedSimpArgs false
open Go.RowKit

theorem run_sp_in (a b c d : Int) (w : World) : (Op.equalIn 10000 29 (.agg #[.int .i64 a, .int .i64 b]) (.agg #[.int .i64 c, .int .i64 d])).run Try.prog w = .ok (a == c && b == d) w := by
  have hf : Try.prog.underlying 29 = some (.struct (Try.prog.fieldsOf 29)) := by kernel_rfl
  have h0 := run_part_one 3 .i64 Try.underlying3 #[.int .i64 a, .int .i64 b] 0 _ rfl w
  have h1 := run_part_one 3 .i64 Try.underlying3 #[.int .i64 a, .int .i64 b] 1 _ rfl w
  have k0 := run_part_one 3 .i64 Try.underlying3 #[.int .i64 c, .int .i64 d] 0 _ rfl w
  have k1 := run_part_one 3 .i64 Try.underlying3 #[.int .i64 c, .int .i64 d] 1 _ rfl w
  have he : ∀ x y : Int, (Op.equalIn 9999 3 (.int .i64 x) (.int .i64 y)).run Try.prog w = .ok (x == y) w := fun x y => run_eq_i64 9998 x y w
  rw [run_equalIn_agg w 9999 _ _ _ hf (by kernel_rfl)]
  simp only [Program.fieldsOf, Try.underlying29]
  have hn : ∀ s : String, (s = "Lo" ∨ s = "Hi") → s ≠ "_" := by
    intro s hs e
    subst e
    rcases hs with hs | hs <;> exact absurd hs (by decide)
  simp only [Op.eqFields]
  rw [if_pos (hn _ (.inl rfl)), if_pos (hn _ (.inr rfl))]
  clear hn hf
  cases e0 : (a == c) <;> cases e1 : (b == d) <;> simp [Sem.run_bind, h0, h1, k0, k1, Result.andThen_ok, he, e0, e1]
theorem run_sp_eql (a b c d : Int) (w : World) : (binOp .eql 29 (.agg #[.int .i64 a, .int .i64 b]) (.agg #[.int .i64 c, .int .i64 d])).run Try.prog w = .ok (.bool (a == c && b == d)) w := by
  simp only [binOp]
  simp [Op.equal, Op.maxDepth, run_sp_in a b c d w]
theorem run_sp_neq (a b c d : Int) (w : World) : (binOp .neq 29 (.agg #[.int .i64 a, .int .i64 b]) (.agg #[.int .i64 c, .int .i64 d])).run Try.prog w = .ok (.bool (!(a == c && b == d))) w := by
  simp only [binOp]
  simp [Op.equal, Op.maxDepth, run_sp_in a b c d w]
theorem run_sp_guard (op : BinOp) (x y : Operand) (s t : Array Value) (w : World) : (eqGuard op 29 x y (.agg s) (.agg t)).run Try.prog w = .ok () w :=
  run_eqGuard_agg (P := Try.prog) w _ _ _ _ _ _ (by kernel_rfl)
theorem run_rs_in (a b c d : Int) (w : World) : (Op.equalIn 10000 24 (.agg #[.int .i64 a, .int .i64 b]) (.agg #[.int .i64 c, .int .i64 d])).run Try.prog w = .ok (a == c && b == d) w := by
  have hf : Try.prog.underlying 24 = some (.struct (Try.prog.fieldsOf 24)) := by kernel_rfl
  have h0 := run_part_one 3 .i64 Try.underlying3 #[.int .i64 a, .int .i64 b] 0 _ rfl w
  have h1 := run_part_one 3 .i64 Try.underlying3 #[.int .i64 a, .int .i64 b] 1 _ rfl w
  have k0 := run_part_one 3 .i64 Try.underlying3 #[.int .i64 c, .int .i64 d] 0 _ rfl w
  have k1 := run_part_one 3 .i64 Try.underlying3 #[.int .i64 c, .int .i64 d] 1 _ rfl w
  have he : ∀ x y : Int, (Op.equalIn 9999 3 (.int .i64 x) (.int .i64 y)).run Try.prog w = .ok (x == y) w := fun x y => run_eq_i64 9998 x y w
  rw [run_equalIn_agg w 9999 _ _ _ hf (by kernel_rfl)]
  simp only [Program.fieldsOf, Try.underlying24]
  have hn : ∀ s : String, (s = "Lo" ∨ s = "Hi") → s ≠ "_" := by
    intro s hs e
    subst e
    rcases hs with hs | hs <;> exact absurd hs (by decide)
  simp only [Op.eqFields]
  rw [if_pos (hn _ (.inl rfl)), if_pos (hn _ (.inr rfl))]
  clear hn hf
  cases e0 : (a == c) <;> cases e1 : (b == d) <;> simp [Sem.run_bind, h0, h1, k0, k1, Result.andThen_ok, he, e0, e1]
theorem run_rs_eql (a b c d : Int) (w : World) : (binOp .eql 24 (.agg #[.int .i64 a, .int .i64 b]) (.agg #[.int .i64 c, .int .i64 d])).run Try.prog w = .ok (.bool (a == c && b == d)) w := by
  simp only [binOp]
  simp [Op.equal, Op.maxDepth, run_rs_in a b c d w]
theorem run_rs_neq (a b c d : Int) (w : World) : (binOp .neq 24 (.agg #[.int .i64 a, .int .i64 b]) (.agg #[.int .i64 c, .int .i64 d])).run Try.prog w = .ok (.bool (!(a == c && b == d))) w := by
  simp only [binOp]
  simp [Op.equal, Op.maxDepth, run_rs_in a b c d w]
theorem run_rs_guard (op : BinOp) (x y : Operand) (s t : Array Value) (w : World) : (eqGuard op 24 x y (.agg s) (.agg t)).run Try.prog w = .ok () w :=
  run_eqGuard_agg (P := Try.prog) w _ _ _ _ _ _ (by kernel_rfl)

set_option maxHeartbeats 1000000 in
theorem awake_any (w : World) : Calls Try.prog 10 #[] w fun e w' => e = .returned (.bool true) ∧ Below w.heap.size w w' := by
  have HN : Hid ((reachE 5 [-3, 4] = 0 ∧ reachL 5 [-3, 4] = 2) ∧ reachH 5 [-3, 4] = 9) := by show _ ∧ _; decide
  have HL := Lib.hid (show Ls (w.alloc (.cells #[.int .i64 (-3), .int .i64 4] 3)) (some ⟨w.heap.size, 0, none⟩) 2 [-3, 4] from
    Ls.new w [-3, 4] (by decide))
  have HB := Lib.hid (below_new w (.cells #[.int .i64 (-3), .int .i64 4] 3))
  have hr := reach_any 5 (by decide) (some ⟨w.heap.size, 0, none⟩) 2 2 [-3, 4] _ HL.out
  unfold reV at hr
  rw [HN.out.1.1, HN.out.1.2, HN.out.2] at hr
  have hh : Says 21 #[spV 2 9, .int .i64 5] (.bool true) := holds_any 2 9 5
  have heq := run_sp_eql
  have hgu := run_sp_guard
  go_enter Try.func10, Try.ntmps10
  go_wp2_with fail
  refine hr.mono ?_
  rintro e w1 ⟨rfl, hb1⟩
  have HB1 := Lib.hid (below_two HB.out hb1)
  have HB2 := Lib.hid (below_two HB1.out (below_new w1 (.cells (spC 2 9) 29)))
  clear hb1 hr
  go_wp2_with fail
  refine (hh _).mono ?_
  rintro e w2 ⟨rfl, hb2⟩
  have HB3 := Lib.hid (below_two HB2.out hb2)
  clear hb2 hh
  go_wp2_with fail
  go_ret
  exact ⟨rfl, HB3.out⟩
end Go.Proofs.Ytimpebilgoekdaa
