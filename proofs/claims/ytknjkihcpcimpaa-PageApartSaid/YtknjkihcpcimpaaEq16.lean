/-
  Three cells held against each other.
-/
import Derived.Test.YtknjkihcpcimpaaApartWalk
import Derived.Laws.StructEq
import Derived.ChangeKeysEq
namespace Go.Proofs.Ytknjkihcpcimpaa
set_option maxRecDepth 100000
set_option linter.unusedVariables false
set_option linter.unusedSimpArgs false
open Go.RowKit Crc Wm Pg

theorem run_eq_i64 (d : Nat) (x y : Int) (w : World) : (Op.equalIn (d + 1) 3 (.int .i64 x) (.int .i64 y)).run Try.prog w = .ok (x == y) w := by
  simp [Op.equalIn, run_underlying Try.underlying3]

/-- the type of a cell -/
structure CeTy (ty : TypeId) : Prop where
  hf : Try.prog.underlying ty = some (.struct (Try.prog.fieldsOf ty))
  hs : Try.prog.stoodInHeld ty = false
  hn : (Try.prog.fieldsOf ty).toList.map (fun f => (f.name, f.type, f.offset)) = [("Value", 3, 0), ("Lsn", 3, 1)]
  hi : (Try.prog.info? ty).isSome = true
  hc : Try.prog.cellsOf ty = 2
  hz : (Try.prog.info? ty).map (·.size) = some 2
theorem ceP : CeTy 31 := ⟨by kernel_rfl, by kernel_rfl, by kernel_rfl, by kernel_rfl, by kernel_rfl, by kernel_rfl⟩
theorem ceR : CeTy 24 := ⟨by kernel_rfl, by kernel_rfl, by kernel_rfl, by kernel_rfl, by kernel_rfl, by kernel_rfl⟩

theorem run_agg_int (w : World) : (isAgg 3).run Try.prog w = .ok false w := by
  unfold isAgg
  rw [Sem.run_bind, run_underlying Try.underlying3 w]
  rfl

theorem run_ce_in {ty : TypeId} (h : CeTy ty) (a b c d : Int) (w : World) : (Op.equalIn 9999 ty (.agg #[.int .i64 a, .int .i64 b]) (.agg #[.int .i64 c, .int .i64 d])).run Try.prog w = .ok (a == c && b == d) w := by
  have he : ∀ x y : Int, (Op.equalIn 9998 3 (.int .i64 x) (.int .i64 y)).run Try.prog w = .ok (x == y) w := fun x y => run_eq_i64 9997 x y w
  rw [run_equalIn_struct (P := Try.prog) w 9998 _ _ _ h.hf h.hs]
  have hn := h.hn
  rcases hfs : (Try.prog.fieldsOf ty).toList with _ | ⟨f, _ | ⟨g, _ | ⟨k, r⟩⟩⟩
  · rw [hfs] at hn; simp at hn
  · rw [hfs] at hn; simp at hn
  · rw [hfs] at hn
    simp only [List.map_cons, List.map_nil, List.cons.injEq, Prod.mk.injEq, and_true] at hn
    obtain ⟨⟨n1, t1, o1⟩, n2, t2, o2⟩ := hn
    have p1 : ∀ x y : Int, (part 3 #[.int .i64 x, .int .i64 y] 0).run Try.prog w = .ok (.int .i64 x) w := fun x y => by
      simp [part, Sem.run_bind, run_agg_int]
    have p2 : ∀ x y : Int, (part 3 #[.int .i64 x, .int .i64 y] 1).run Try.prog w = .ok (.int .i64 y) w := fun x y => by
      simp [part, Sem.run_bind, run_agg_int]
    have e1 : f.name ≠ "_" := by rw [n1]; decide
    have e2 : g.name ≠ "_" := by rw [n2]; decide
    simp only [Op.eqFields]
    rw [if_pos e1, if_pos e2, t1, t2, o1, o2]
    simp only [Sem.run_bind, p1, p2, Result.andThen_ok, he]
    generalize (a == c) = p
    cases p
    · simp
    · by_cases h2 : b = d
      · simp [Sem.run_bind, p2, he, Result.andThen_ok, h2]
      · simp [Sem.run_bind, p2, he, Result.andThen_ok, h2]
  · rw [hfs] at hn; simp at hn

def c3Eq (x y : C3) : Bool := (x.a.V == y.a.V && x.a.L == y.a.L) && ((x.b.V == y.b.V && x.b.L == y.b.L) && (x.c.V == y.c.V && x.c.L == y.c.L))
theorem c3Eq_iff (x y : C3) : c3Eq x y = true ↔ x = y := by
  obtain ⟨⟨_, _⟩, ⟨_, _⟩, ⟨_, _⟩⟩ := x
  obtain ⟨⟨_, _⟩, ⟨_, _⟩, ⟨_, _⟩⟩ := y
  unfold c3Eq
  simp only [Bool.and_eq_true, beq_iff_eq, C3.mk.injEq, Ce.mk.injEq]
theorem c3Eq_self (x : C3) : c3Eq x x = true := (c3Eq_iff x x).2 rfl

theorem run_part_c3 {ty : TypeId} (h : CeTy ty) (x : C3) (w : World) : (part ty (c3C x) (0 * 2)).run Try.prog w = .ok (.agg #[.int .i64 x.a.V, .int .i64 x.a.L]) w ∧ (part ty (c3C x) (1 * 2)).run Try.prog w = .ok (.agg #[.int .i64 x.b.V, .int .i64 x.b.L]) w ∧ (part ty (c3C x) (2 * 2)).run Try.prog w = .ok (.agg #[.int .i64 x.c.V, .int .i64 x.c.L]) w := by
  have ha : (isAgg ty).run Try.prog w = .ok true w := by
    unfold isAgg
    rw [Sem.run_bind, run_underlying h.hf w]
    rfl
  obtain ⟨i, hi⟩ := Option.isSome_iff_exists.1 h.hi
  have hs : (sizeOf ty).run Try.prog w = .ok 2 w := by
    rw [run_sizeOf w hi, h.hc]
  refine ⟨?_, ?_, ?_⟩ <;> (unfold part; simp only [Sem.run_bind, ha, hs, Result.andThen_ok, if_true, Sem.run_pure, Sem.run_ite]; rfl)

theorem run_c3_in {arr ty : TypeId} (h : CeTy ty) (hu : Try.prog.underlying arr = some (.array 3 ty)) (x y : C3) (w : World) : (Op.equalIn 10000 arr (.agg (c3C x)) (.agg (c3C y))).run Try.prog w = .ok (c3Eq x y) w := by
  obtain ⟨i, hi⟩ := Option.isSome_iff_exists.1 h.hi
  rw [run_equalIn_array (P := Try.prog) w 9999 _ _ hu hi, h.hc]
  obtain ⟨p0, p1, p2⟩ := run_part_c3 h x w
  obtain ⟨q0, q1, q2⟩ := run_part_c3 h y w
  have hr : List.range 3 = [0, 1, 2] := by decide
  rw [hr]
  have hc := fun a b c d => run_ce_in h a b c d w
  simp only [Op.eqItems, Sem.run_bind, p0, q0, Result.andThen_ok, hc]
  unfold c3Eq
  generalize (x.a.V == y.a.V && x.a.L == y.a.L) = b0 at *
  cases b0
  · simp
  · simp only [Bool.not_true, Bool.false_eq_true, if_false, Sem.run_bind, p1, q1, Result.andThen_ok, hc, Bool.true_and]
    generalize (x.b.V == y.b.V && x.b.L == y.b.L) = b1 at *
    cases b1
    · simp
    · simp only [Bool.not_true, Bool.false_eq_true, if_false, Sem.run_bind, p2, q2, Result.andThen_ok, hc, Bool.true_and]
      generalize (x.c.V == y.c.V && x.c.L == y.c.L) = b2 at *
      cases b2 <;> simp

theorem run_c3P_eql (x y : C3) (w : World) : (binOp .eql 32 (c3V x) (c3V y)).run Try.prog w = .ok (.bool (c3Eq x y)) w := by
  unfold c3V
  rw [run_eql_struct, run_c3_in ceP Try.underlying32]
  rfl
theorem run_c3P_neq (x y : C3) (w : World) : (binOp .neq 32 (c3V x) (c3V y)).run Try.prog w = .ok (.bool (!c3Eq x y)) w := by
  unfold c3V
  rw [run_neq_struct, run_c3_in ceP Try.underlying32]
  rfl
theorem run_c3R_eql (x y : C3) (w : World) : (binOp .eql 25 (c3V x) (c3V y)).run Try.prog w = .ok (.bool (c3Eq x y)) w := by
  unfold c3V
  rw [run_eql_struct, run_c3_in ceR Try.underlying25]
  rfl
theorem run_c3P_guard (op : BinOp) (x y : Operand) (s t : C3) (w : World) : (eqGuard op 32 x y (c3V s) (c3V t)).run Try.prog w = .ok () w :=
  run_eqGuard_agg (P := Try.prog) w _ _ _ _ _ _ (by kernel_rfl)
theorem run_c3R_guard (op : BinOp) (x y : Operand) (s t : C3) (w : World) : (eqGuard op 25 x y (c3V s) (c3V t)).run Try.prog w = .ok () w :=
  run_eqGuard_agg (P := Try.prog) w _ _ _ _ _ _ (by kernel_rfl)

end Go.Proofs.Ytknjkihcpcimpaa
