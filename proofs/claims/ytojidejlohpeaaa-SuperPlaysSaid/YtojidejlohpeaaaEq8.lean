/-
  Two supers held against each other; the statements' example.
-/
import Derived.Test.YtojidejlohpeaaaSave8
import Derived.Test.YtojidejlohpeaaaLay8
import Derived.Laws.StructEq
namespace Go.Proofs.Ytojidejlohpeaaa
set_option maxRecDepth 100000
open Go.RowKit Crc Wm Sup

/-- are two the same? -/
def supEq (s t : Sup) : Bool := decide (s.V = t.V ∧ s.E = t.E ∧ s.B = t.B ∧ s.C = t.C ∧ s.L = t.L ∧ s.H = t.H ∧ s.A = t.A)
theorem supEq_self (s : Sup) : supEq s s = true := decide_eq_true ⟨rfl, rfl, rfl, rfl, rfl, rfl, rfl⟩
theorem supEq_iff {s t : Sup} : supEq s t = true ↔ s = t := by
  constructor
  · intro h
    obtain ⟨h0, h1, h2, h3, h4, h5, h6⟩ := of_decide_eq_true h
    cases s
    cases t
    simp_all
  · rintro rfl
    exact supEq_self s

theorem run_eq_i64 (d : Nat) (x y : Int) (w : World) : (Op.equalIn (d + 1) 3 (.int .i64 x) (.int .i64 y)).run Try.prog w = .ok (x == y) w := by
  simp [Op.equalIn, run_underlying Try.underlying3]
theorem run_part_sup (s : Sup) (w : World) : ((part 3 (supC s) 0).run Try.prog w = .ok (.int .i64 s.V) w ∧ (part 3 (supC s) 1).run Try.prog w = .ok (.int .i64 s.E) w ∧ (part 3 (supC s) 2).run Try.prog w = .ok (.int .i64 s.B) w ∧ (part 3 (supC s) 3).run Try.prog w = .ok (.int .i64 s.C) w) ∧
    (part 3 (supC s) 4).run Try.prog w = .ok (.int .i64 s.L) w ∧ (part 3 (supC s) 5).run Try.prog w = .ok (.int .i64 s.H) w ∧ (part 3 (supC s) 6).run Try.prog w = .ok (.int .i64 s.A) w := by
  have hagg : (isAgg 3).run Try.prog w = .ok false w := by
    unfold isAgg
    rw [Sem.run_bind, run_underlying Try.underlying3 w]
    rfl
  refine ⟨⟨?_, ?_, ?_, ?_⟩, ?_, ?_, ?_⟩ <;> simp [part, supC, Sem.run_bind, hagg]


theorem run_sup_in (s t : Sup) (w : World) : (Op.equalIn 10000 29 (.agg (supC s)) (.agg (supC t))).run Try.prog w = .ok (supEq s t) w := by
  have hf : Try.prog.underlying 29 = some (.struct (Try.prog.fieldsOf 29)) := by kernel_rfl
  obtain ⟨⟨h0, h1, h2, h3⟩, h4, h5, h6⟩ := run_part_sup s w
  obtain ⟨⟨k0, k1, k2, k3⟩, k4, k5, k6⟩ := run_part_sup t w
  have he : ∀ x y : Int, (Op.equalIn 9999 3 (.int .i64 x) (.int .i64 y)).run Try.prog w = .ok (x == y) w := fun x y => run_eq_i64 9998 x y w
  rw [run_equalIn_agg w 9999 _ _ _ hf (by kernel_rfl)]
  simp only [Program.fieldsOf, Try.underlying29]
  have hn : ∀ s : String, (s = "Version" ∨ s = "Epoch" ∨ s = "Blocks" ∨ s = "Counters" ∨ s = "Log" ∨ s = "Head" ∨ s = "Applied") → s ≠ "_" := by
    intro s hs e
    subst e
    rcases hs with hs | hs | hs | hs | hs | hs | hs <;> exact absurd hs (by decide)
  simp only [Op.eqFields]
  rw [if_pos (hn _ (.inl rfl)), if_pos (hn _ (.inr (.inl rfl))), if_pos (hn _ (.inr (.inr (.inl rfl)))), if_pos (hn _ (.inr (.inr (.inr (.inl rfl))))), if_pos (hn _ (.inr (.inr (.inr (.inr (.inl rfl)))))), if_pos (hn _ (.inr (.inr (.inr (.inr (.inr (.inl rfl))))))), if_pos (hn _ (.inr (.inr (.inr (.inr (.inr (.inr rfl)))))))]
  clear hn hf
  simp only [Sem.run_bind, h0, k0, Result.andThen_ok, he]
  unfold supEq
  clear h0 k0
  generalize supC s = xs at *
  generalize supC t = ys at *
  generalize s.V = a0 at *
  generalize s.E = a1 at *
  generalize s.B = a2 at *
  generalize s.C = a3 at *
  generalize s.L = a4 at *
  generalize s.H = a5 at *
  generalize s.A = a6 at *
  generalize t.V = b0 at *
  generalize t.E = b1 at *
  generalize t.B = b2 at *
  generalize t.C = b3 at *
  generalize t.L = b4 at *
  generalize t.H = b5 at *
  generalize t.A = b6 at *
  by_cases e0 : a0 = b0
  · by_cases e1 : a1 = b1
    · by_cases e2 : a2 = b2
      · by_cases e3 : a3 = b3
        · by_cases e4 : a4 = b4
          · by_cases e5 : a5 = b5
            · by_cases e6 : a6 = b6
              · simp [Sem.run_bind, *]
              · simp [Sem.run_bind, *]
            · simp [Sem.run_bind, *]
          · simp [Sem.run_bind, *]
        · simp [Sem.run_bind, *]
      · simp [Sem.run_bind, *]
    · simp [Sem.run_bind, *]
  · simp [*]
theorem run_sup_eql (s t : Sup) (w : World) : (binOp .eql 29 (supV s) (supV t)).run Try.prog w = .ok (.bool (supEq s t)) w := by
  unfold supV
  rw [run_eql_struct, run_sup_in]
  rfl
theorem run_sup_neq (s t : Sup) (w : World) : (binOp .neq 29 (supV s) (supV t)).run Try.prog w = .ok (.bool (!supEq s t)) w := by
  unfold supV
  rw [run_neq_struct, run_sup_in]
  rfl
theorem run_sup_guard (op : BinOp) (x y : Operand) (s t : Sup) (w : World) : (eqGuard op 29 x y (supV s) (supV t)).run Try.prog w = .ok () w :=
  run_eqGuard_agg (P := Try.prog) w _ _ _ _ _ _ (by kernel_rfl)


theorem run_ref_in (s t : Sup) (w : World) : (Op.equalIn 10000 23 (.agg (supC s)) (.agg (supC t))).run Try.prog w = .ok (supEq s t) w := by
  have hf : Try.prog.underlying 23 = some (.struct (Try.prog.fieldsOf 23)) := by kernel_rfl
  obtain ⟨⟨h0, h1, h2, h3⟩, h4, h5, h6⟩ := run_part_sup s w
  obtain ⟨⟨k0, k1, k2, k3⟩, k4, k5, k6⟩ := run_part_sup t w
  have he : ∀ x y : Int, (Op.equalIn 9999 3 (.int .i64 x) (.int .i64 y)).run Try.prog w = .ok (x == y) w := fun x y => run_eq_i64 9998 x y w
  rw [run_equalIn_agg w 9999 _ _ _ hf (by kernel_rfl)]
  simp only [Program.fieldsOf, Try.underlying23]
  have hn : ∀ s : String, (s = "Version" ∨ s = "Epoch" ∨ s = "Blocks" ∨ s = "Counters" ∨ s = "Log" ∨ s = "Head" ∨ s = "Applied") → s ≠ "_" := by
    intro s hs e
    subst e
    rcases hs with hs | hs | hs | hs | hs | hs | hs <;> exact absurd hs (by decide)
  simp only [Op.eqFields]
  rw [if_pos (hn _ (.inl rfl)), if_pos (hn _ (.inr (.inl rfl))), if_pos (hn _ (.inr (.inr (.inl rfl)))), if_pos (hn _ (.inr (.inr (.inr (.inl rfl))))), if_pos (hn _ (.inr (.inr (.inr (.inr (.inl rfl)))))), if_pos (hn _ (.inr (.inr (.inr (.inr (.inr (.inl rfl))))))), if_pos (hn _ (.inr (.inr (.inr (.inr (.inr (.inr rfl)))))))]
  clear hn hf
  simp only [Sem.run_bind, h0, k0, Result.andThen_ok, he]
  unfold supEq
  clear h0 k0
  generalize supC s = xs at *
  generalize supC t = ys at *
  generalize s.V = a0 at *
  generalize s.E = a1 at *
  generalize s.B = a2 at *
  generalize s.C = a3 at *
  generalize s.L = a4 at *
  generalize s.H = a5 at *
  generalize s.A = a6 at *
  generalize t.V = b0 at *
  generalize t.E = b1 at *
  generalize t.B = b2 at *
  generalize t.C = b3 at *
  generalize t.L = b4 at *
  generalize t.H = b5 at *
  generalize t.A = b6 at *
  by_cases e0 : a0 = b0
  · by_cases e1 : a1 = b1
    · by_cases e2 : a2 = b2
      · by_cases e3 : a3 = b3
        · by_cases e4 : a4 = b4
          · by_cases e5 : a5 = b5
            · by_cases e6 : a6 = b6
              · simp [Sem.run_bind, *]
              · simp [Sem.run_bind, *]
            · simp [Sem.run_bind, *]
          · simp [Sem.run_bind, *]
        · simp [Sem.run_bind, *]
      · simp [Sem.run_bind, *]
    · simp [Sem.run_bind, *]
  · simp [*]
theorem run_ref_eql (s t : Sup) (w : World) : (binOp .eql 23 (supV s) (supV t)).run Try.prog w = .ok (.bool (supEq s t)) w := by
  unfold supV
  rw [run_eql_struct, run_ref_in]
  rfl
theorem run_ref_neq (s t : Sup) (w : World) : (binOp .neq 23 (supV s) (supV t)).run Try.prog w = .ok (.bool (!supEq s t)) w := by
  unfold supV
  rw [run_neq_struct, run_ref_in]
  rfl
theorem run_ref_guard (op : BinOp) (x y : Operand) (s t : Sup) (w : World) : (eqGuard op 23 x y (supV s) (supV t)).run Try.prog w = .ok () w :=
  run_eqGuard_agg (P := Try.prog) w _ _ _ _ _ _ (by kernel_rfl)


/-- a new block of nothing -/
theorem zero_new (w : World) (t : TypeId) : SupAt (w.alloc (.cells #[.int .i64 0, .int .i64 0, .int .i64 0, .int .i64 0, .int .i64 0, .int .i64 0, .int .i64 0] t)) w.heap.size t Sup.zero := heap_alloc_new w _

end Go.Proofs.Ytojidejlohpeaaa
