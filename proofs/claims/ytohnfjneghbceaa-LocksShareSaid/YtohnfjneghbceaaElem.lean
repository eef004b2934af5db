/-
  A lock stored into a row; a row's end cleared.
-/
import Derived.Test.YtohnfjneghbceaaWith
import Derived.Laws.CopyRow
namespace Go.Proofs.Ytohnfjneghbceaa
set_option maxRecDepth 100000
set_option linter.unusedVariables false
open Go.RowKit Go.Shelf Go.Sort

def lk4 (z : Lk) : List Value := [.int .i64 z.b, .int .i64 z.x, .int .i64 z.h, .int .i64 z.k]
theorem lkC_set : ∀ (C : List Lk) (i : Nat) (z : Lk), i < C.length → lkC (C.set i z) = (lkC C).take (i * 4) ++ lk4 z ++ (lkC C).drop (i * 4 + 4)
  | [], i, z, h => by simp at h
  | y :: C, 0, z, _ => rfl
  | y :: C, i + 1, z, h => by
    have ih := lkC_set C i z (by simpa using h)
    rw [show (i + 1) * 4 = i * 4 + 1 + 1 + 1 + 1 from by omega, show i * 4 + 1 + 1 + 1 + 1 + 4 = (i * 4 + 4) + 1 + 1 + 1 + 1 from by omega]
    show lkC (y :: C.set i z) = _
    simp only [lkC, List.take_succ_cons, List.drop_succ_cons, List.cons_append, ih]
theorem lkC_take : ∀ (C : List Lk) (i : Nat), lkC (C.take i) = (lkC C).take (i * 4)
  | [], i => by simp [lkC]
  | y :: C, 0 => rfl
  | y :: C, i + 1 => by
    rw [show (i + 1) * 4 = i * 4 + 1 + 1 + 1 + 1 from by omega]
    simp only [lkC, List.take_succ_cons, lkC_take C i]

/-- a part of a list's head put in another one's place -/
theorem take_put {α : Type} (X P vs : List α) (a m N : Nat) (hv : vs.length = m) (hP : X.take N = P) (hN : N ≤ X.length) (ha : a + m ≤ N) : (X.take a ++ vs ++ X.drop (a + m)).take N = P.take a ++ vs ++ P.drop (a + m) := by
  subst hP
  have hX := List.take_append_drop N X
  have h1 : X.drop (a + m) = (X.take N).drop (a + m) ++ X.drop N := by
    conv => lhs; rw [← hX]
    rw [List.drop_append_of_le_length (by rw [List.length_take]; omega)]
  have h2 : X.take a = (X.take N).take a := by rw [List.take_take, Nat.min_eq_left (by omega)]
  rw [h1, h2, ← List.append_assoc, List.take_left']
  simp only [List.length_append, List.length_take, List.length_drop]
  omega

theorem lock_sizeOf (W : World) : (Go.sizeOf 53).run Try.prog W = .ok 4 W := Try.sizeOf53 W

theorem own_put {W : World} {base g n cap i : Nat} {C : List Lk} (z : Lk) (h : OwnLk W base (.slice (some ⟨g, 0, none⟩) n cap) C) (hn : C.length = n) (hi : i < n) :
    ∃ W', (storeVar 53 ⟨g, i * 4, none⟩ (.agg #[.int .i64 z.b, .int .i64 z.x, .int .i64 z.h, .int .i64 z.k])).run Try.prog W = .ok () W' ∧ OwnLk W' base (.slice (some ⟨g, 0, none⟩) n cap) (C.set i z) ∧ W.grownBy W' (some g) := by
  subst hn
  rcases h.2 with ⟨e, _⟩ | ⟨g', cap', cur, e, hb, hh, hnc, hcm, hcs, ht⟩
  · cases e
  · injection e with e1 e2 e3
    injection e1 with e1
    injection e1 with e1
    subst e1
    subst e3
    have hst := run_storeCells_at Try.prog g (i * 4) 53 (lk4 z) 0 cur W hh (by show i * 4 + 0 + 4 ≤ cur.size; omega) (fun v hv => by simp [lk4] at hv; rcases hv with rfl | rfl | rfl | rfl <;> rfl)
    refine ⟨_, ?_, ⟨?_, .inr ⟨g, cap, (cur.toList.take (i * 4 + 0) ++ lk4 z ++ cur.toList.drop (i * 4 + 0 + (lk4 z).length)).toArray, ?_, hb, setRow_heap _ _ _ _ _ _ hh, by rw [List.length_set]; exact hnc, hcm, ?_, ?_⟩⟩, setRow_grown _ _ _⟩
    · simp only [storeVar, Value.cells, Sem.run_bind, lock_sizeOf, Result.andThen_ok]
      simp only [List.size_toArray, List.length_cons, List.length_nil, ne_eq, Nat.reduceAdd, not_true_eq_false, if_false]
      exact hst
    · rw [length_lkC, List.length_set]
    · rw [List.length_set]
    · rw [List.size_toArray]
      simp only [List.length_append, List.length_take, List.length_drop, Array.length_toList]
      show min (i * 4 + 0) cur.size + 4 + (cur.size - (i * 4 + 0 + 4)) = cap * 4
      omega
    · rw [List.length_set, lkC_set C i z hi]
      have := take_put cur.toList (lkC C) (lk4 z) (i * 4) 4 (C.length * 4) rfl ht (by have h9 : cur.toList.length = cap * 4 := (by rw [Array.length_toList]; exact hcs); omega) (by omega)
      exact this

theorem zeroCells_one (n : Nat) : ∀ v ∈ (Builtin.zeroCells (Value.agg #[.int .i64 0, .int .i64 0, .int .i64 0, .int .i64 0]).cells n).toList, v.oneCell' = true := by
  intro v hv
  simp only [Builtin.zeroCells, Value.cells, Array.toList_map, List.mem_map] at hv
  obtain ⟨i, _, rfl⟩ := hv
  have h4 : i % 4 = 0 ∨ i % 4 = 1 ∨ i % 4 = 2 ∨ i % 4 = 3 := by omega
  show ((#[Value.int .i64 0, .int .i64 0, .int .i64 0, .int .i64 0] : Array Value)[i % 4]!).oneCell' = true
  rcases h4 with h | h | h | h <;> rw [h] <;> rfl
theorem zeroCells_len (n : Nat) : (Builtin.zeroCells (Value.agg #[.int .i64 0, .int .i64 0, .int .i64 0, .int .i64 0]).cells n).toList.length = n * 4 := by
  simp [Builtin.zeroCells, Value.cells]

theorem own_clear {W : World} {base g n cap i : Nat} {C : List Lk} (h : OwnLk W base (.slice (some ⟨g, 0, none⟩) n cap) C) (hn : C.length = n) (hi : i < n) (c2 : Nat) :
    ∃ W', (∀ ty, (Builtin.clear_ #[47] ty #[.slice (some ⟨g, i * 4, none⟩) (n - i) c2]).run Try.prog W = .ok (.tuple #[]) W') ∧ OwnLk W' base (.slice (some ⟨g, 0, none⟩) i cap) (C.take i) ∧ W.grownBy W' (some g) := by
  subst hn
  rcases h.2 with ⟨e, _⟩ | ⟨g', cap', cur, e, hb, hh, hnc, hcm, hcs, ht⟩
  · cases e
  · injection e with e1 e2 e3
    injection e1 with e1
    injection e1 with e1
    subst e1
    subst e3
    obtain ⟨vs, hvs⟩ : ∃ vs, vs = (Builtin.zeroCells (Value.agg #[.int .i64 0, .int .i64 0, .int .i64 0, .int .i64 0]).cells (C.length - i)).toList := ⟨_, rfl⟩
    have hvl : vs.length = (C.length - i) * 4 := by rw [hvs]; exact zeroCells_len _
    have hv1 : ∀ v ∈ vs, v.oneCell' = true := by rw [hvs]; exact zeroCells_one _
    have hst := run_storeCells_at Try.prog g (i * 4) 53 vs 0 cur W hh (by rw [hvl]; omega) hv1
    have hlen : (C.take i).length = i := by rw [List.length_take]; omega
    refine ⟨W.setRow g (cur.toList.take (i * 4 + 0) ++ vs ++ cur.toList.drop (i * 4 + 0 + vs.length)).toArray, fun ty => ?_, ⟨?_, .inr ⟨g, cap, (cur.toList.take (i * 4 + 0) ++ vs ++ cur.toList.drop (i * 4 + 0 + vs.length)).toArray, ?_, hb, setRow_heap _ _ _ _ _ _ hh, by rw [hlen]; omega, hcm, ?_, ?_⟩⟩, setRow_grown _ _ _⟩
    · obtain ⟨m, hm⟩ : ∃ m, C.length - i = m + 1 := ⟨C.length - i - 1, by omega⟩
      rw [hm] at hvs ⊢
      have hz : ∀ W, (zeroValue 53).run Try.prog W = .ok (.agg #[.int .i64 0, .int .i64 0, .int .i64 0, .int .i64 0]) W := fun W => Try.zeroValue53 W
      simp only [Builtin.clear_, Sem.run_bind, run_underlying Try.underlying47, Result.andThen_ok, hz, List.getElem?_toArray, List.getElem?_cons_zero]
      rw [← hvs, hst]
      rfl
    · rw [length_lkC]
    · rw [hlen]
    · rw [List.size_toArray]
      simp only [List.length_append, List.length_take, List.length_drop, Array.length_toList]
      omega
    · rw [hlen, lkC_take, ← ht, List.take_take, Nat.min_eq_left (by omega)]
      rw [List.append_assoc, List.take_left' (by rw [List.length_take, Array.length_toList]; omega)]
      rfl

/-- 'l[i] = z', into a row of the call's own -/
theorem wpList_store_elem {ops : Array Oper} {rest : List Oper} {o : Oper} {a : Act} {W : World} {Q : Exit → Act → World → Prop} (hgd : o.guard = none) (x u : Operand) (ho : o.op = .store 53 x u) {base g n cap i : Nat} {C : List Lk} (z : Lk)
    (hx : a.eval x = .pointer (some ⟨g, i * 4, none⟩)) (hy : a.eval u = .agg #[.int .i64 z.b, .int .i64 z.x, .int .i64 z.h, .int .i64 z.k]) (hown : OwnLk W base (.slice (some ⟨g, 0, none⟩) n cap) C) (hn : C.length = n) (hi : i < n)
    (h : ∀ w', OwnLk w' base (.slice (some ⟨g, 0, none⟩) n cap) (C.set i z) → W.grownBy w' (some g) → wpList Try.prog ops Q rest (a.put o.dst undef) w') : wpList Try.prog ops Q (o :: rest) a W := by
  refine wpList_plain hgd fun K hK => ?_
  obtain ⟨w', hrun, h1, h2⟩ := own_put z hown hn hi
  unfold Oper.wp execOp
  simp only [ho, hx, hy, Instr.storeAt, Instr.sureAddr, Sem.run_bind, Sem.run_pure, Result.andThen_ok, hrun]
  exact hK _ _ (h w' h1 h2)
theorem wp_store_elem {o : Oper} {a : Act} {W : World} {K : Act → World → Prop} {Q : Exit → Act → World → Prop} (x u : Operand) (ho : o.op = .store 53 x u) {base g n cap i : Nat} {C : List Lk} (z : Lk)
    (hx : a.eval x = .pointer (some ⟨g, i * 4, none⟩)) (hy : a.eval u = .agg #[.int .i64 z.b, .int .i64 z.x, .int .i64 z.h, .int .i64 z.k]) (hown : OwnLk W base (.slice (some ⟨g, 0, none⟩) n cap) C) (hn : C.length = n) (hi : i < n)
    (h : ∀ w', OwnLk w' base (.slice (some ⟨g, 0, none⟩) n cap) (C.set i z) → W.grownBy w' (some g) → K (a.put o.dst undef) w') : o.wp Try.prog a W K Q := by
  obtain ⟨w', hrun, h1, h2⟩ := own_put z hown hn hi
  unfold Oper.wp execOp
  simp only [ho, hx, hy, Instr.storeAt, Instr.sureAddr, Sem.run_bind, Sem.run_pure, Result.andThen_ok, hrun]
  exact h w' h1 h2
end Go.Proofs.Ytohnfjneghbceaa
