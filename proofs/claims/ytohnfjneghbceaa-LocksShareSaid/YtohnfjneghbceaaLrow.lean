/-
  Locks in a row: as they lie, of the call's own, appended, cut.
-/
import Derived.Test.YtohnfjneghbceaaLk
import Derived.Test.YtohnfjneghbceaaKin
namespace Go.Proofs.Ytohnfjneghbceaa
set_option maxRecDepth 100000
set_option linter.unusedVariables false
open Go.RowKit Go.Shelf Go.Maps

/-- a row's cells -/
def lkC : List Lk → List Value
  | [] => []
  | x :: l => .int .i64 x.b :: .int .i64 x.x :: .int .i64 x.h :: .int .i64 x.k :: lkC l
theorem length_lkC : ∀ l : List Lk, (lkC l).length = l.length * 4
  | [] => rfl
  | x :: l => by simp [lkC, length_lkC l]; omega
theorem lkC_append : ∀ a b : List Lk, lkC (a ++ b) = lkC a ++ lkC b
  | [], _ => rfl
  | x :: a, b => by simp [lkC, lkC_append a b]
theorem lkC_get : ∀ (l : List Lk) (i : Nat) (x : Lk), l[i]? = some x → (lkC l)[i * 4]? = some (.int .i64 x.b) ∧ (lkC l)[i * 4 + 1]? = some (.int .i64 x.x) ∧ (lkC l)[i * 4 + 2]? = some (.int .i64 x.h) ∧ (lkC l)[i * 4 + 3]? = some (.int .i64 x.k)
  | [], i, x, h => by simp at h
  | y :: l, 0, x, h => by simp at h; subst h; exact ⟨rfl, rfl, rfl, rfl⟩
  | y :: l, i + 1, x, h => by
    have := lkC_get l i x (by simpa using h)
    rw [show (i + 1) * 4 = i * 4 + 1 + 1 + 1 + 1 from by omega]
    exact this
theorem lkC_inv : ∀ (l : List Lk) (j : Nat) (u : Value), (lkC l)[j]? = some u → ∃ i x, l[i]? = some x ∧ ((j = i * 4 ∧ u = .int .i64 x.b) ∨ (j = i * 4 + 1 ∧ u = .int .i64 x.x) ∨ (j = i * 4 + 2 ∧ u = .int .i64 x.h) ∨ (j = i * 4 + 3 ∧ u = .int .i64 x.k))
  | [], j, u, h => by simp [lkC] at h
  | x :: l, 0, u, h => by simp [lkC] at h; exact ⟨0, x, rfl, .inl ⟨rfl, h.symm⟩⟩
  | x :: l, 1, u, h => by simp [lkC] at h; exact ⟨0, x, rfl, .inr (.inl ⟨rfl, h.symm⟩)⟩
  | x :: l, 2, u, h => by simp [lkC] at h; exact ⟨0, x, rfl, .inr (.inr (.inl ⟨rfl, h.symm⟩))⟩
  | x :: l, 3, u, h => by simp [lkC] at h; exact ⟨0, x, rfl, .inr (.inr (.inr ⟨rfl, h.symm⟩))⟩
  | x :: l, j + 4, u, h => by
    have h : (lkC l)[j]? = some u := by simpa [lkC] using h
    obtain ⟨i, y, h1, h2⟩ := lkC_inv l j u h
    refine ⟨i + 1, y, by simpa using h1, ?_⟩
    rcases h2 with ⟨h2, h3⟩ | ⟨h2, h3⟩ | ⟨h2, h3⟩ | ⟨h2, h3⟩
    · exact .inl ⟨by omega, h3⟩
    · exact .inr (.inl ⟨by omega, h3⟩)
    · exact .inr (.inr (.inl ⟨by omega, h3⟩))
    · exact .inr (.inr (.inr ⟨by omega, h3⟩))
theorem lkC_one (l : List Lk) : ∀ u ∈ lkC l, u.oneCell' = true := by
  intro u hu
  obtain ⟨j, hj, rfl⟩ := List.getElem_of_mem hu
  obtain ⟨i, x, _, h⟩ := lkC_inv l j _ (List.getElem?_eq_getElem hj)
  rcases h with ⟨_, h⟩ | ⟨_, h⟩ | ⟨_, h⟩ | ⟨_, h⟩ <;> rw [h] <;> rfl


theorem lk_facts : (Try.prog.info? 53).map (fun i => (i.zero, i.size, i.bytes)) = some (some (.agg #[.int .i64 0, .int .i64 0, .int .i64 0, .int .i64 0]), 4, 32) := by kernel_rfl

/-- a lock's cells at a place -/
structure CellsAt (W : World) (b o : Nat) (y : Lk) : Prop where
  c0 : W.cell? ⟨b, o, none⟩ = some (.int .i64 y.b)
  c1 : W.cell? ⟨b, o + 1, none⟩ = some (.int .i64 y.x)
  c2 : W.cell? ⟨b, o + 2, none⟩ = some (.int .i64 y.h)
  c3 : W.cell? ⟨b, o + 3, none⟩ = some (.int .i64 y.k)
theorem CellsAt.turn {S : Nat → Prop} {W V : World} {b o : Nat} {y : Lk} (h : CellsAt W b o y) (ht : Turn S W V) (hS : ¬ S b) : CellsAt V b o y :=
  ⟨ht.cell h.c0 hS, ht.cell h.c1 hS, ht.cell h.c2 hS, ht.cell h.c3 hS⟩

/-- locks lie there -/
def LkAt (W : World) (A : Option Addr) (l : List Lk) : Prop :=
  l = [] ∨ ∃ b o, A = some ⟨b, o, none⟩ ∧ b < W.heap.size ∧ ∀ i y, l[i]? = some y → CellsAt W b (o + i * 4) y
theorem LkAt.nil (W : World) (A : Option Addr) : LkAt W A [] := .inl rfl
theorem LkAt.turn {S : Nat → Prop} {W V : World} {A : Option Addr} {l : List Lk} (h : LkAt W A l) (ht : Turn S W V) (hS : ∀ b o, A = some ⟨b, o, none⟩ → l = [] ∨ ¬ S b) : LkAt V A l := by
  rcases h with h | ⟨b, o, rfl, hb, hc⟩
  · exact .inl h
  · rcases hS b o rfl with h | h
    · exact .inl h
    · exact .inr ⟨b, o, rfl, Nat.lt_of_lt_of_le hb ht.size, fun i y hy => (hc i y hy).turn ht h⟩
theorem LkAt.below {W V : World} {A : Option Addr} {l : List Lk} (h : LkAt W A l) (hb : Below W.heap.size W V) : LkAt V A l :=
  h.turn (S := fun _ => False) (Turn.ofBelow hb) (fun _ _ _ => .inr fun h => h)
theorem LkAt.get {W : World} {A : Option Addr} {l : List Lk} (h : LkAt W A l) {i : Nat} {y : Lk} (hy : l[i]? = some y) : ∃ b o, A = some ⟨b, o, none⟩ ∧ b < W.heap.size ∧ CellsAt W b (o + i * 4) y := by
  rcases h with rfl | ⟨b, o, e, hb, hc⟩
  · simp at hy
  · exact ⟨b, o, e, hb, hc i y hy⟩
theorem LkAt.left {W : World} {A : Option Addr} {l r : List Lk} (h : LkAt W A (l ++ r)) : LkAt W A l := by
  rcases h with h | ⟨b, o, e, hb, hc⟩
  · exact .inl (List.append_eq_nil_iff.1 h).1
  · exact .inr ⟨b, o, e, hb, fun i y hy => hc i y (by rw [List.getElem?_append_left (List.getElem?_eq_some_iff.1 hy).1]; exact hy)⟩
theorem LkAt.right {W : World} {b o n : Nat} {l r : List Lk} (h : LkAt W (some ⟨b, o, none⟩) (l ++ r)) (hn : l.length = n) : LkAt W (some ⟨b, o + n * 4, none⟩) r := by
  subst hn
  rcases h with h | ⟨b', o', e, hb, hc⟩
  · exact .inl (List.append_eq_nil_iff.1 h).2
  · injection e with e
    injection e with e1 e2
    subst e1; subst e2
    refine .inr ⟨b, _, rfl, hb, fun i y hy => ?_⟩
    have := hc (l.length + i) y (by rw [List.getElem?_append_right (by omega), Nat.add_sub_cancel_left]; exact hy)
    rw [show o + (l.length + i) * 4 = o + l.length * 4 + i * 4 from by omega] at this
    exact this

/-- a row of the call's own -/
def OwnLk (w : World) (base : Nat) (v : Value) (l : List Lk) : Prop := w.ownsRow base 53 4 v l.length (lkC l)
theorem OwnLk.nil (w : World) (base : Nat) : OwnLk w base (.slice none 0 0) [] := World.ownsRow_nil _ _ _ _
theorem OwnLk.form {w : World} {base : Nat} {v : Value} {l : List Lk} (h : OwnLk w base v l) : ∃ A c, v = .slice A l.length c ∧ l.length ≤ c ∧ LkAt w A l ∧ (A = none ∨ ∃ g, A = some ⟨g, 0, none⟩ ∧ base ≤ g ∧ g < w.heap.size) := by
  rcases h.2 with ⟨rfl, hn⟩ | ⟨g, cap, cur, rfl, hg, _, hnc, _⟩
  · have : l = [] := List.eq_nil_of_length_eq_zero hn
    subst this
    exact ⟨none, 0, rfl, Nat.le_refl _, .inl rfl, .inl rfl⟩
  · refine ⟨_, cap, rfl, hnc, .inr ⟨g, 0, rfl, (h.lt g rfl).2, fun i x hx => ?_⟩, .inr ⟨g, rfl, hg, (h.lt g rfl).2⟩⟩
    have hi : i < l.length := (List.getElem?_eq_some_iff.1 hx).1
    have ht := lkC_get l i x hx
    rw [Nat.zero_add]
    exact ⟨(h.cellAt (i * 4) (by omega)).trans ht.1, (h.cellAt (i * 4 + 1) (by omega)).trans ht.2.1, (h.cellAt (i * 4 + 2) (by omega)).trans ht.2.2.1, (h.cellAt (i * 4 + 3) (by omega)).trans ht.2.2.2⟩
theorem OwnLk.turn {S : Nat → Prop} {w w' : World} {base : Nat} {v : Value} {l : List Lk} (h : OwnLk w base v l) (ht : Turn S w w') (hS : ∀ k, v.ownBlock = some k → ¬ S k) : OwnLk w' base v l := by
  refine ⟨h.1, ?_⟩
  rcases h.2 with h2 | ⟨g, c, cur, e, hg, hh, rest⟩
  · exact .inl h2
  · exact .inr ⟨g, c, cur, e, hg, (ht.block g (lt_of_block hh) (hS g (by rw [e]; rfl))).trans hh, rest⟩
theorem OwnLk.below {w w' : World} {base : Nat} {v : Value} {l : List Lk} (h : OwnLk w base v l) (hb : Below w.heap.size w w') : OwnLk w' base v l := h.turn (S := fun _ => False) (Turn.ofBelow hb) (fun _ _ h => h)
theorem OwnLk.lt {w : World} {base : Nat} {v : Value} {l : List Lk} (h : OwnLk w base v l) : ∀ k, v.ownBlock = some k → base ≤ k ∧ k < w.heap.size := World.ownsRow.lt h
theorem OwnLk.le {w : World} {base b : Nat} {v : Value} {l : List Lk} (h : OwnLk w base v l) (hb : b ≤ base) : OwnLk w b v l := by
  refine ⟨h.1, ?_⟩
  rcases h.2 with h2 | ⟨g, c, cur, e, hg, rest⟩
  · exact .inl h2
  · exact .inr ⟨g, c, cur, e, Nat.le_trans hb hg, rest⟩

theorem lkCells {W : World} {b o : Nat} {l : List Lk} (hc : ∀ i y, l[i]? = some y → CellsAt W b (o + i * 4) y) : ∀ j u, (lkC l)[j]? = some u → W.cell? ⟨b, o + j, none⟩ = some u := by
  intro j u hu
  obtain ⟨i, x, hx, h⟩ := lkC_inv l j u hu
  obtain ⟨h0, h1, h2, h3⟩ := hc i x hx
  rcases h with ⟨rfl, rfl⟩ | ⟨rfl, rfl⟩ | ⟨rfl, rfl⟩ | ⟨rfl, rfl⟩
  · exact h0
  · exact h1
  · exact h2
  · exact h3

/-- 'append(l, m...)' -/
theorem run_append_lks {w : World} {base : Nat} {v : Value} {l m : List Lk} {A : Option Addr} {n c : Nat} (hown : OwnLk w base v l) (hm : LkAt w A m) (hn : m.length = n) (hA : A = none ∨ ∃ b o, A = some ⟨b, o, none⟩) (hlen : l.length + m.length ≤ 1000000) (hbase : base ≤ w.heap.size) (ty : TypeId) :
    ∃ v' w', (Builtin.append_ #[47, 47] ty #[v, .slice A n c]).run Try.prog w = .ok v' w' ∧ OwnLk w' base v' (l ++ m) ∧ w.grownBy w' v.ownBlock ∧ (v'.ownBlock = v.ownBlock ∨ v'.ownBlock = some w.heap.size) := by
  subst hn
  obtain ⟨i0, hi, hz, hs1, hb⟩ := parts_of lk_facts
  rcases hA with rfl | ⟨b, o, rfl⟩
  · have hm0 : m = [] := by
      rcases hm with h | ⟨b, o, e, _⟩
      · exact h
      · cases e
    subst hm0
    refine ⟨v, w, ?_, by rw [List.append_nil]; exact hown, ⟨rfl, rfl, rfl, Nat.le_refl _, fun _ _ _ => rfl⟩, .inl rfl⟩
    rcases hown.2 with ⟨rfl, hn⟩ | ⟨g, cap, cur, rfl, _, _, hnc, _⟩
    · simp [Builtin.append_, run_underlying Try.underlying47, sizeOf, typeInfo, hi, Builtin.lenOf, Builtin.firstCells]
    · simp [Builtin.append_, run_underlying Try.underlying47, sizeOf, typeInfo, hi, Builtin.lenOf, Builtin.firstCells, loadCells, storeCells, hnc]
  · have hcells : ∀ j u, (lkC m)[j]? = some u → w.cell? ⟨b, o + j, none⟩ = some u := by
      rcases hm with rfl | ⟨b', o', e, _, hc⟩
      · intro j u hu; simp [lkC] at hu
      · injection e with e
        injection e with e1 e2
        subst e1; subst e2
        exact lkCells hc
    obtain ⟨v', w', h1, h2, h3, _, h5⟩ := run_append_own_at w base 47 ty 53 i0 _ 4 32 Try.underlying47 hi hz hs1 hb rfl (by decide) v l.length (lkC l) hown ⟨b, o, none⟩ m.length c (lkC m) (length_lkC m) (fun j u hu => by rw [addr_add]; exact hcells j u hu) (lkC_one m) (by unfold maxLen; omega) (by omega) hbase
    refine ⟨v', w', h1, ?_, h3, h5⟩
    unfold OwnLk
    rw [List.length_append, lkC_append]
    exact h2

/-- the same, as an operation; 'append(l, x)' too, where the slice of one stands built -/
theorem wpList_append_lks {ops : Array Oper} {rest : List Oper} {o : Oper} {a : Act} {w : World} {Q : Exit → Act → World → Prop} (hgd : o.guard = none) (s x : Operand)
    (ho : o.op = .call { callee := .builtin .append, args := #[s, x], argTypes := #[47, 47] }) (base : Nat) (v : Value) (l m : List Lk) (hs : a.eval s = v) (hown : OwnLk w base v l)
    (A : Option Addr) (n c : Nat) (hx : a.eval x = .slice A n c) (hm : LkAt w A m) (hn : m.length = n) (hA : A = none ∨ ∃ b o, A = some ⟨b, o, none⟩) (hlen : l.length + m.length ≤ 1000000) (hbase : base ≤ w.heap.size)
    (h : ∀ v' w', OwnLk w' base v' (l ++ m) → w.grownBy w' v.ownBlock → (v'.ownBlock = v.ownBlock ∨ v'.ownBlock = some w.heap.size) → wpList Try.prog ops Q rest (a.put o.dst v') w') : wpList Try.prog ops Q (o :: rest) a w := by
  refine wpList_plain hgd fun K hK => ?_
  obtain ⟨v', w', hr, h2, h3, h4⟩ := run_append_lks (c := c) hown hm hn hA hlen hbase o.type
  unfold Oper.wp execOp
  simp only [ho, resolve, invoke, builtin, Sem.run_bind, Sem.run_pure, Result.andThen_ok, List.map_toArray, List.map_cons, List.map_nil, hs, hx, hr]
  exact hK _ _ (h v' w' h2 h3 h4)
theorem LkAt.one {W : World} {b : Nat} {y : Lk} (hb : b < W.heap.size) (h : CellsAt W b 0 y) : LkAt W (some ⟨b, 0, none⟩) [y] := .inr ⟨b, 0, rfl, hb, fun i z hz => by
  match i, hz with
  | 0, hz => injection hz with hz; subst hz; exact h
  | i + 1, hz => simp at hz⟩
theorem LkAt.new (w : World) (y : Lk) (t : TypeId) : LkAt (w.alloc (.cells #[.int .i64 y.b, .int .i64 y.x, .int .i64 y.h, .int .i64 y.k] t)) (some ⟨w.heap.size, 0, none⟩) [y] :=
  LkAt.one (by simp) ⟨(cell_new w _ _ 0).trans rfl, (cell_new w _ _ 1).trans rfl, (cell_new w _ _ 2).trans rfl, (cell_new w _ _ 3).trans rfl⟩

theorem LkAt.new1 (w : World) (o : Obj) (y : Lk) (t : TypeId) : LkAt ((w.alloc o).alloc (.cells #[.int .i64 y.b, .int .i64 y.x, .int .i64 y.h, .int .i64 y.k] t)) (some ⟨w.heap.size + 1, 0, none⟩) [y] := by
  have h := LkAt.new (w.alloc o) y t
  rwa [World.size_alloc] at h

theorem cloneK_any (A : Option Addr) (l : List Lk) (n cap : Nat) (w : World) (hl : l.length = n) (hn : n ≤ 100000) (hA : A = none ∨ ∃ b o, A = some ⟨b, o, none⟩) (hT : LkAt w A l) :
    Calls Try.prog 54 #[.slice A n cap] w fun e w' => ∃ A' k', e = .returned (.slice A' n k') ∧ OwnLk w' w.heap.size (.slice A' n k') l ∧ Below w.heap.size w w' := by
  subst hl
  rcases hA with rfl | ⟨b, o, rfl⟩
  · have hm0 : l = [] := by
      rcases hT with h | ⟨b, o, e, _⟩
      · exact h
      · cases e
    subst hm0
    refine (AnyE.slices_Clone_nil (P := Try.prog) (ρ := Try.cloneK_ren) Try.cloneK 0 cap w).mono ?_
    rintro e w' ⟨rfl, rfl⟩
    exact ⟨none, 0, rfl, World.ownsRow_nil _ _ _ _, Below.refl _ _⟩
  · obtain ⟨i0, hi, hz, hs1, hb⟩ := parts_of lk_facts
    have hcells : ∀ j u, (lkC l)[j]? = some u → w.cell? ⟨b, o + j, none⟩ = some u := by
      rcases hT with rfl | ⟨b', o', e, _, hc⟩
      · intro j u hu; simp [lkC] at hu
      · injection e with e
        injection e with e1 e2
        subst e1; subst e2
        exact lkCells hc
    refine (AnyE.slices_Clone (P := Try.prog) (ρ := Try.cloneK_ren) Try.cloneK i0 _ 4 32 hi hz hs1 hb rfl (by decide) Try.sizeOf53 b o l.length cap (lkC l) w (length_lkC l) (by unfold maxLen; omega) (by omega) hcells (lkC_one l)).mono ?_
    rintro e w' ⟨v, rfl, ho, _, hb⟩
    obtain ⟨A', k', rfl, _⟩ := OwnLk.form (l := l) ho
    exact ⟨A', k', rfl, ho, hb⟩
end Go.Proofs.Ytohnfjneghbceaa
