/-
  Two arrays of numbers, each entry one: '==' says so, in every world.
-/
import Derived.Test.YtanabocgglidhaaTable
import Derived.Laws.StructEq
namespace Go.Proofs.Ytanabocgglidhaa
open Go.RowKit Crc

theorem run_part_arr (f : Nat → BitVec 32) (i : Nat) (hi : i < 256) (w : World) : (part 23 (arr f) (i * 1)).run Try.prog w = .ok (.int .u32 (word (f i))) w := by
  have hagg : (isAgg 23).run Try.prog w = .ok false w := by
    unfold isAgg
    rw [Sem.run_bind, run_underlying Try.underlying23 w]
    rfl
  have hg := get_arr f i hi
  simp [part, Sem.run_bind, hagg, hg]

theorem run_eq_u32 (d : Nat) (x y : Int) (w : World) : (Op.equalIn (d + 1) 23 (.int .u32 x) (.int .u32 y)).run Try.prog w = .ok (x == y) w := by
  simp [Op.equalIn, run_underlying Try.underlying23]

theorem run_eq_loop (d : Nat) (f : Nat → BitVec 32) (w : World) : ∀ is : List Nat, (∀ i ∈ is, i < 256) →
    (forIn is ((none, ()) : Option Bool × Unit) fun i (_ : Option Bool × Unit) => (do
      let a ← part 23 (arr f) (i * 1)
      let b ← part 23 (arr f) (i * 1)
      let r ← Op.equalIn (d + 1) 23 a b
      if (!r) = true then pure (ForInStep.done (some false, ())) else pure (ForInStep.yield (none, ())) : Sem _)).run Try.prog w = .ok (none, ()) w := by
  intro is
  induction is with
  | nil => intro _; rfl
  | cons i is ih =>
    intro h
    have hi := h i (by simp)
    have h1 := run_part_arr f i hi w
    have h2 := run_eq_u32 d (word (f i)) (word (f i)) w
    have h3 := ih fun j hj => h j (by simp [hj])
    rw [List.forIn_cons]
    simp only [Sem.run_bind, h1, h2, Result.andThen_ok, beq_self_eq_true, Bool.not_true, Bool.false_eq_true, if_false, Sem.run_pure]
    simpa only [Sem.run_bind] using h3

theorem run_arr_eq (d : Nat) (f : Nat → BitVec 32) (w : World) : (Op.equalIn (d + 2) 28 (.agg (arr f)) (.agg (arr f))).run Try.prog w = .ok true w := by
  have hs : (sizeOf 23).run Try.prog w = .ok 1 w := by
    have : (Try.prog.info? 23).map (·.size) = some 1 := by kernel_rfl
    cases hq : Try.prog.info? 23 with
    | none => simp [hq] at this
    | some i => simp [hq] at this; simp [sizeOf, typeInfo, hq, this]
  unfold Op.equalIn
  rw [Sem.run_bind, run_underlying Try.underlying28 w]
  simp only [Result.andThen_ok]
  rw [Sem.run_bind, hs]
  simp only [Result.andThen_ok]
  rw [Std.Legacy.Range.forIn_eq_forIn_range', Sem.run_bind, run_eq_loop d f w _ (by intro i hi; simpa using hi)]
  rfl

theorem run_tables (f : Nat → BitVec 32) (w : World) : (binOp .eql 28 (.agg (arr f)) (.agg (arr f))).run Try.prog w = .ok (.bool true) w := by
  simp only [binOp]
  simp [Op.equal, Op.maxDepth, run_arr_eq 9998 f w]

end Go.Proofs.Ytanabocgglidhaa
