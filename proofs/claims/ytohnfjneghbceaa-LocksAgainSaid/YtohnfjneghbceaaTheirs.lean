/-
  Locks as the document has them; two rows of one list held against each other.
-/
import Derived.Test.YtohnfjneghbceaaApartWalk
import Derived.Laws.StructEq
namespace Go.Proofs.Ytohnfjneghbceaa
set_option maxRecDepth 100000
set_option linter.unusedVariables false
set_option linter.unusedSimpArgs false
open Go.RowKit Go.Shelf Go.Maps

theorem rf_facts : (Try.prog.info? 95).map (fun i => (i.zero, i.size, i.bytes)) = some (some (.agg #[.int .i64 0, .int .i64 0, .int .i64 0, .int .i64 0]), 4, 32) := by kernel_rfl
/-- a row of the call's own -/
def OwnRf (w : World) (base : Nat) (v : Value) (l : List Lk) : Prop := w.ownsRow base 95 4 v l.length (lkC l)
theorem OwnRf.nil (w : World) (base : Nat) : OwnRf w base (.slice none 0 0) [] := World.ownsRow_nil _ _ _ _
theorem OwnRf.form {w : World} {base : Nat} {v : Value} {l : List Lk} (h : OwnRf w base v l) : ∃ A c, v = .slice A l.length c ∧ LkAt w A l := by
  rcases h.2 with ⟨rfl, hn⟩ | ⟨g, cap, cur, rfl, hg, _, hnc, _⟩
  · have : l = [] := List.eq_nil_of_length_eq_zero hn
    subst this
    exact ⟨none, 0, rfl, .inl rfl⟩
  · refine ⟨_, cap, rfl, .inr ⟨g, 0, rfl, (World.ownsRow.lt h g rfl).2, fun i x hx => ?_⟩⟩
    have hi : i < l.length := (List.getElem?_eq_some_iff.1 hx).1
    have ht := lkC_get l i x hx
    rw [Nat.zero_add]
    exact ⟨(World.ownsRow.cellAt h (i * 4) (by omega)).trans ht.1, (World.ownsRow.cellAt h (i * 4 + 1) (by omega)).trans ht.2.1, (World.ownsRow.cellAt h (i * 4 + 2) (by omega)).trans ht.2.2.1, (World.ownsRow.cellAt h (i * 4 + 3) (by omega)).trans ht.2.2.2⟩
theorem OwnRf.below {w w' : World} {base : Nat} {v : Value} {l : List Lk} (h : OwnRf w base v l) (hb : Below w.heap.size w w') : OwnRf w' base v l := by
  refine ⟨h.1, ?_⟩
  rcases h.2 with h2 | ⟨g, c, cur, e, hg, hh, rest⟩
  · exact .inl h2
  · exact .inr ⟨g, c, cur, e, hg, (hb.block g (lt_of_block hh)).trans hh, rest⟩
theorem OwnRf.lt {w : World} {base : Nat} {v : Value} {l : List Lk} (h : OwnRf w base v l) : ∀ k, v.ownBlock = some k → base ≤ k ∧ k < w.heap.size := World.ownsRow.lt h

/-- 'append(l, m...)' -/
theorem run_append_rf {w : World} {base : Nat} {v : Value} {l m : List Lk} {A : Option Addr} {n c : Nat} (hown : OwnRf w base v l) (hm : LkAt w A m) (hn : m.length = n) (hA : A = none ∨ ∃ b o, A = some ⟨b, o, none⟩) (hlen : l.length + m.length ≤ 1000000) (hbase : base ≤ w.heap.size) (ty : TypeId) :
    ∃ v' w', (Builtin.append_ #[65, 65] ty #[v, .slice A n c]).run Try.prog w = .ok v' w' ∧ OwnRf w' base v' (l ++ m) ∧ w.grownBy w' v.ownBlock ∧ (v'.ownBlock = v.ownBlock ∨ v'.ownBlock = some w.heap.size) := by
  subst hn
  obtain ⟨i0, hi, hz, hs1, hb⟩ := parts_of rf_facts
  rcases hA with rfl | ⟨b, o, rfl⟩
  · have hm0 : m = [] := by
      rcases hm with h | ⟨b, o, e, _⟩
      · exact h
      · cases e
    subst hm0
    refine ⟨v, w, ?_, by rw [List.append_nil]; exact hown, ⟨rfl, rfl, rfl, Nat.le_refl _, fun _ _ _ => rfl⟩, .inl rfl⟩
    rcases hown.2 with ⟨rfl, hn⟩ | ⟨g, cap, cur, rfl, _, _, hnc, _⟩
    · simp [Builtin.append_, run_underlying Try.underlying65, sizeOf, typeInfo, hi, Builtin.lenOf, Builtin.firstCells]
    · simp [Builtin.append_, run_underlying Try.underlying65, sizeOf, typeInfo, hi, Builtin.lenOf, Builtin.firstCells, loadCells, storeCells, hnc]
  · have hcells : ∀ j u, (lkC m)[j]? = some u → w.cell? ⟨b, o + j, none⟩ = some u := by
      rcases hm with rfl | ⟨b', o', e, _, hc⟩
      · intro j u hu; simp [lkC] at hu
      · injection e with e
        injection e with e1 e2
        subst e1; subst e2
        exact lkCells hc
    obtain ⟨v', w', h1, h2, h3, _, h5⟩ := run_append_own_at w base 65 ty 95 i0 _ 4 32 Try.underlying65 hi hz hs1 hb rfl (by decide) v l.length (lkC l) hown ⟨b, o, none⟩ m.length c (lkC m) (length_lkC m) (fun j u hu => by rw [addr_add]; exact hcells j u hu) (lkC_one m) (by unfold maxLen; omega) (by omega) hbase
    refine ⟨v', w', h1, ?_, h3, h5⟩
    unfold OwnRf
    rw [List.length_append, lkC_append]
    exact h2

theorem wp_append_rf {o : Oper} {a : Act} {w : World} {K : Act → World → Prop} {Q : Exit → Act → World → Prop} (s x : Operand)
    (ho : o.op = .call { callee := .builtin .append, args := #[s, x], argTypes := #[65, 65] }) (base : Nat) (v : Value) (l m : List Lk) (hs : a.eval s = v) (hown : OwnRf w base v l)
    (A : Option Addr) (n c : Nat) (hx : a.eval x = .slice A n c) (hm : LkAt w A m) (hn : m.length = n) (hA : A = none ∨ ∃ b o, A = some ⟨b, o, none⟩) (hlen : l.length + m.length ≤ 1000000) (hbase : base ≤ w.heap.size)
    (h : ∀ v' w', OwnRf w' base v' (l ++ m) → w.grownBy w' v.ownBlock → (v'.ownBlock = v.ownBlock ∨ v'.ownBlock = some w.heap.size) → K (a.put o.dst v') w') : o.wp Try.prog a w K Q := by
  obtain ⟨v', w', hr, h2, h3, h4⟩ := run_append_rf (c := c) hown hm hn hA hlen hbase o.type
  unfold Oper.wp execOp
  simp only [ho, resolve, invoke, builtin, Sem.run_bind, Sem.run_pure, Result.andThen_ok, List.map_toArray, List.map_cons, List.map_nil, hs, hx, hr]
  exact h v' w' h2 h3 h4

theorem run_eq_i64 (d : Nat) (x y : Int) (w : World) : (Op.equalIn (d + 1) 3 (.int .i64 x) (.int .i64 y)).run Try.prog w = .ok (x == y) w := by
  simp [Op.equalIn, run_underlying Try.underlying3]
theorem run_part_lk (p s b e : Int) (w : World) : (part 3 #[.int .i64 p, .int .i64 s, .int .i64 b, .int .i64 e] 0).run Try.prog w = .ok (.int .i64 p) w ∧ (part 3 #[.int .i64 p, .int .i64 s, .int .i64 b, .int .i64 e] 1).run Try.prog w = .ok (.int .i64 s) w ∧
    (part 3 #[.int .i64 p, .int .i64 s, .int .i64 b, .int .i64 e] 2).run Try.prog w = .ok (.int .i64 b) w ∧ (part 3 #[.int .i64 p, .int .i64 s, .int .i64 b, .int .i64 e] 3).run Try.prog w = .ok (.int .i64 e) w := by
  have hagg : (isAgg 3).run Try.prog w = .ok false w := by
    unfold isAgg
    rw [Sem.run_bind, run_underlying Try.underlying3 w]
    rfl
  refine ⟨?_, ?_, ?_, ?_⟩ <;> simp [part, Sem.run_bind, hagg]
theorem run_lk_in (p s b e : Int) (w : World) : (Op.equalIn 10000 95 (.agg #[.int .i64 p, .int .i64 s, .int .i64 b, .int .i64 e]) (.agg #[.int .i64 p, .int .i64 s, .int .i64 b, .int .i64 e])).run Try.prog w = .ok true w := by
  have hf : Try.prog.underlying 95 = some (.struct (Try.prog.fieldsOf 95)) := by kernel_rfl
  obtain ⟨h0, h1, h2, h3⟩ := run_part_lk p s b e w
  have he : ∀ x y : Int, (Op.equalIn 9999 3 (.int .i64 x) (.int .i64 y)).run Try.prog w = .ok (x == y) w := fun x y => run_eq_i64 9998 x y w
  rw [run_equalIn_agg w 9999 _ _ _ hf (by kernel_rfl)]
  simp only [Program.fieldsOf, Try.underlying95]
  have hn : ∀ s : String, (s = "Block" ∨ s = "Tx" ∨ s = "Held" ∨ s = "Kept") → s ≠ "_" := by
    intro s hs e
    subst e
    rcases hs with hs | hs | hs | hs <;> exact absurd hs (by decide)
  simp only [Op.eqFields]
  rw [if_pos (hn _ (.inl rfl)), if_pos (hn _ (.inr (.inl rfl))), if_pos (hn _ (.inr (.inr (.inl rfl)))), if_pos (hn _ (.inr (.inr (.inr rfl))))]
  clear hn hf
  simp [Sem.run_bind, h0, h1, h2, h3, Result.andThen_ok, he]
theorem run_lk_neq (p s b e : Int) (w : World) : (binOp .neq 95 (.agg #[.int .i64 p, .int .i64 s, .int .i64 b, .int .i64 e]) (.agg #[.int .i64 p, .int .i64 s, .int .i64 b, .int .i64 e])).run Try.prog w = .ok (.bool false) w := by
  rw [run_neq_struct, run_lk_in]
  rfl
theorem run_lk_guard (op : BinOp) (x y : Operand) (s t : Array Value) (w : World) : (eqGuard op 95 x y (.agg s) (.agg t)).run Try.prog w = .ok () w :=
  run_eqGuard_agg (P := Try.prog) w _ _ _ _ _ _ (by kernel_rfl)


set_option maxHeartbeats 1000000 in
theorem theirs_any (A : Option Addr) (L : List Lk) (n k : Nat) (hN : L.length = n) (hn : n ≤ 16384) (w : World) (hL : LkAt w A L) :
    Calls Try.prog 35 #[.slice A n k] w fun e w' => ∃ B c, e = .returned (.slice B n c) ∧ LkAt w' B L ∧ Below w.heap.size w w' := by
  have HN := Lib.hid hN
  have HL := Lib.hid hL
  clear hN hL
  go_enter Try.func35, Try.ntmps35
  go_wp2_with fail
  go_loopw [3, 4] (fun lv iv wr => ∃ j : Nat, iv = .int .i64 (j : Int) ∧ j ≤ n ∧ Hid (OwnRf wr w.heap.size lv (L.take j)) ∧ Hid (Below w.heap.size w wr)) (fun _ iv _ => n - (intOf iv).toNat)
  case atStart => exact ⟨0, rfl, Nat.zero_le _, OwnRf.nil _ _, Below.refl _ _⟩
  case round =>
    obtain ⟨j, rfl, hj, HO, HB⟩ := hrel
    rcases Nat.lt_or_ge j n with hlt | hge
    · obtain ⟨y, hy⟩ : ∃ y, L[j]? = some y := ⟨L[j]'(by rw [HN.out]; exact hlt), List.getElem?_eq_getElem (by rw [HN.out]; exact hlt)⟩
      obtain ⟨b, o, rfl, hb, hc⟩ := HL.out.get hy
      have hct := hc.turn (S := fun _ => False) (Turn.ofBelow (S := fun _ => False) (HB.out.mono (Nat.le_refl _) |> fun h => (⟨h.os, h.tape, h.output, h.size, h.block⟩ : Below w.heap.size w wr))) (fun h => h)
      have hnb : ¬ u3.ownBlock = some b := fun e => by have := (HO.out.lt b e).1; omega
      have k0 : ∀ V, Turn (fun q => u3.ownBlock = some q) wr V → V.cell? ⟨b, o + j * 4, none⟩ = some (.int .i64 y.b) := fun V hV => (hct.turn hV hnb).c0
      have k1 : ∀ V, Turn (fun q => u3.ownBlock = some q) wr V → V.cell? ⟨b, o + j * 4 + 1, none⟩ = some (.int .i64 y.x) := fun V hV => (hct.turn hV hnb).c1
      have k2 : ∀ V, Turn (fun q => u3.ownBlock = some q) wr V → V.cell? ⟨b, o + j * 4 + 2, none⟩ = some (.int .i64 y.h) := fun V hV => (hct.turn hV hnb).c2
      have k3 : ∀ V, Turn (fun q => u3.ownBlock = some q) wr V → V.cell? ⟨b, o + j * 4 + 3, none⟩ = some (.int .i64 y.k) := fun V hV => (hct.turn hV hnb).c3
      have HTK := Lib.hid (show L.take (j + 1) = L.take j ++ [y] by rw [List.take_add_one, hy]; rfl)
      clear hy hc hct hb
      go_upto_region 5 with fail
      refine wp_region_turn (X := (fun q => u3.ownBlock = some q)) (by kernel_rfl) ?_
      have hS : Turn (fun q => u3.ownBlock = some q) wr (World.drew wr) := (Turn.refl _ _).drew
      refine wpAnyH_take (i := 0) (oi := ⟨some 11, _, _, _, _, _⟩) (v := ?_) rfl (by kernel_rfl) (by kernel_rfl) (by kernel_rfl) (fun _ _ _ h => h) (Or.inl ⟨by rfl, ?_⟩) hS ?_
      rotate_left
      · intro W hW; go_simp; with_reducible rfl
      try simp only [Act.put, List.setIfInBounds_toArray, List.set_cons_zero, List.set_cons_succ]
      refine wpAnyH_take (i := 1) (oi := ⟨some 12, _, _, _, _, _⟩) (v := ?_) rfl (by kernel_rfl) (by kernel_rfl) (by kernel_rfl) (fun _ _ _ h => h) (Or.inl ⟨by rfl, ?_⟩) hS ?_
      rotate_left
      · intro W hW; go_simp; with_reducible rfl
      try simp only [Act.put, List.setIfInBounds_toArray, List.set_cons_zero, List.set_cons_succ]
      refine wpAnyH_take (i := 2) (oi := ⟨some 13, _, _, _, _, _⟩) (v := ?_) rfl (by kernel_rfl) (by kernel_rfl) (by kernel_rfl) (fun _ _ _ h => h) (Or.inl ⟨by rfl, ?_⟩) hS ?_
      rotate_left
      · intro W hW; go_simp; with_reducible rfl
      try simp only [Act.put, List.setIfInBounds_toArray, List.set_cons_zero, List.set_cons_succ]
      refine wpAnyH_take (i := 3) (oi := ⟨some 14, _, _, _, _, _⟩) (v := ?_) rfl (by kernel_rfl) (by kernel_rfl) (by kernel_rfl) (fun _ _ _ h => h) (Or.inl ⟨by rfl, ?_⟩) hS ?_
      rotate_left
      · intro W hW; go_simp; with_reducible rfl
      try simp only [Act.put, List.setIfInBounds_toArray, List.set_cons_zero, List.set_cons_succ]
      refine wpAnyH_take (i := 4) (oi := ⟨some 15, _, _, _, _, _⟩) (v := ?_) rfl (by kernel_rfl) (by kernel_rfl) (by kernel_rfl) (fun _ _ _ h => h) (Or.inl ⟨by rfl, ?_⟩) hS ?_
      rotate_left
      · intro W hW; go_simp; with_reducible rfl
      try simp only [Act.put, List.setIfInBounds_toArray, List.set_cons_zero, List.set_cons_succ]
      refine wpAnyH_take (i := 5) (oi := ⟨some 16, _, _, _, _, _⟩) (v := ?_) rfl (by kernel_rfl) (by kernel_rfl) (by kernel_rfl) (fun _ _ _ h => h) (Or.inl ⟨by rfl, ?_⟩) hS ?_
      rotate_left
      · intro W hW; go_simp; with_reducible rfl
      try simp only [Act.put, List.setIfInBounds_toArray, List.set_cons_zero, List.set_cons_succ]
      refine wpAnyH_take (i := 6) (oi := ⟨some 17, _, _, _, _, _⟩) (v := ?_) rfl (by kernel_rfl) (by kernel_rfl) (by kernel_rfl) (fun _ _ _ h => h) (Or.inl ⟨by rfl, ?_⟩) hS ?_
      rotate_left
      · intro W hW; go_simp; with_reducible rfl
      try simp only [Act.put, List.setIfInBounds_toArray, List.set_cons_zero, List.set_cons_succ]
      refine wpAnyH_take (i := 7) (oi := ⟨some 18, _, _, _, _, _⟩) (v := ?_) rfl (by kernel_rfl) (by kernel_rfl) (by kernel_rfl) (fun _ _ _ h => h) (Or.inl ⟨by rfl, ?_⟩) hS ?_
      rotate_left
      · intro W hW; go_simp; with_reducible rfl
      try simp only [Act.put, List.setIfInBounds_toArray, List.set_cons_zero, List.set_cons_succ]
      refine wpAnyH_take (i := 8) (oi := ⟨some 19, _, _, _, _, _⟩) (v := ?_) rfl (by kernel_rfl) (by kernel_rfl) (by kernel_rfl) (fun _ _ _ h => h) (Or.inl ⟨by rfl, ?_⟩) hS ?_
      rotate_left
      · intro W hW; go_simp; with_reducible rfl
      try simp only [Act.put, List.setIfInBounds_toArray, List.set_cons_zero, List.set_cons_succ]
      refine wpAnyH_take (i := 9) (oi := ⟨some 20, _, _, _, _, _⟩) (v := ?_) rfl (by kernel_rfl) (by kernel_rfl) (by kernel_rfl) (fun _ _ _ h => h) (Or.inl ⟨by rfl, ?_⟩) hS ?_
      rotate_left
      · intro W hW; go_simp; with_reducible rfl
      try simp only [Act.put, List.setIfInBounds_toArray, List.set_cons_zero, List.set_cons_succ]
      refine wpAnyH_take (i := 10) (oi := ⟨some 21, _, _, _, _, _⟩) (v := ?_) rfl (by kernel_rfl) (by kernel_rfl) (by kernel_rfl) (fun _ _ _ h => h) (Or.inl ⟨by rfl, ?_⟩) hS ?_
      rotate_left
      · intro W hW; go_simp; with_reducible rfl
      try simp only [Act.put, List.setIfInBounds_toArray, List.set_cons_zero, List.set_cons_succ]
      refine wpAnyH_take (i := 11) (oi := ⟨some 22, _, _, _, _, _⟩) (v := ?_) rfl (by kernel_rfl) (by kernel_rfl) (by kernel_rfl) (fun _ _ _ h => h) (Or.inl ⟨by rfl, ?_⟩) hS ?_
      rotate_left
      · intro W hW; go_simp; with_reducible rfl
      try simp only [Act.put, List.setIfInBounds_toArray, List.set_cons_zero, List.set_cons_succ]
      refine wpAnyH_take (i := 12) (oi := ⟨some 23, _, _, _, _, _⟩) (v := ?_) rfl (by kernel_rfl) (by kernel_rfl) (by kernel_rfl) (fun _ _ _ h => h) (Or.inl ⟨by rfl, ?_⟩) hS ?_
      rotate_left
      · intro W hW; go_simp; with_reducible rfl
      try simp only [Act.put, List.setIfInBounds_toArray, List.set_cons_zero, List.set_cons_succ]
      refine wpAnyH_take (i := 13) (oi := ⟨some 24, _, _, _, _, _⟩) (v := ?_) rfl (by kernel_rfl) (by kernel_rfl) (by kernel_rfl) (fun _ _ _ h => h) (Or.inl ⟨by rfl, ?_⟩) hS ?_
      rotate_left
      · intro W hW; go_simp; with_reducible rfl
      try simp only [Act.put, List.setIfInBounds_toArray, List.set_cons_zero, List.set_cons_succ]
      refine wpAnyH_take (i := 14) (oi := ⟨some 25, _, _, _, _, _⟩) (v := ?_) rfl (by kernel_rfl) (by kernel_rfl) (by kernel_rfl) (fun _ _ _ h => h) (Or.inl ⟨by rfl, ?_⟩) hS ?_
      rotate_left
      · intro W hW; go_simp; with_reducible rfl
      try simp only [Act.put, List.setIfInBounds_toArray, List.set_cons_zero, List.set_cons_succ]
      refine wpAnyH_take (i := 15) (oi := ⟨some 26, _, _, _, _, _⟩) (v := ?_) rfl (by kernel_rfl) (by kernel_rfl) (by kernel_rfl) (fun _ _ _ h => h) (Or.inl ⟨by rfl, ?_⟩) hS ?_
      rotate_left
      · intro W hW; go_simp; with_reducible rfl
      try simp only [Act.put, List.setIfInBounds_toArray, List.set_cons_zero, List.set_cons_succ]
      refine wpAnyH_take (i := 16) (oi := ⟨some 27, _, _, _, _, _⟩) (v := ?_) rfl (by kernel_rfl) (by kernel_rfl) (by kernel_rfl) (fun _ _ _ h => h) (Or.inl ⟨by rfl, ?_⟩) hS ?_
      rotate_left
      · intro W hW; go_simp; with_reducible rfl
      try simp only [Act.put, List.setIfInBounds_toArray, List.set_cons_zero, List.set_cons_succ]
      refine wpAnyH_take (i := 17) (oi := ⟨some 28, _, _, _, _, _⟩) (v := ?_) rfl (by kernel_rfl) (by kernel_rfl) (by kernel_rfl) (fun _ _ _ h => h) (Or.inl ⟨by rfl, ?_⟩) hS ?_
      rotate_left
      · intro W hW; go_simp; with_reducible rfl
      try simp only [Act.put, List.setIfInBounds_toArray, List.set_cons_zero, List.set_cons_succ]
      refine wpAnyH_take (i := 18) (oi := ⟨some 29, _, _, _, _, _⟩) (v := ?_) rfl (by kernel_rfl) (by kernel_rfl) (by kernel_rfl) (fun _ _ _ h => h) (Or.inl ⟨by rfl, ?_⟩) hS ?_
      rotate_left
      · intro W hW; go_simp; with_reducible rfl
      try simp only [Act.put, List.setIfInBounds_toArray, List.set_cons_zero, List.set_cons_succ]
      refine wpAnyH_take (i := 19) (oi := ⟨some 30, _, _, _, _, _⟩) (v := ?_) rfl (by kernel_rfl) (by kernel_rfl) (by kernel_rfl) (fun _ _ _ h => h) (Or.inl ⟨by rfl, ?_⟩) hS ?_
      rotate_left
      · intro W hW; go_simp; with_reducible rfl
      try simp only [Act.put, List.setIfInBounds_toArray, List.set_cons_zero, List.set_cons_succ]
      refine wpAnyH_take (i := 20) (oi := ⟨some 31, _, _, _, _, _⟩) (v := ?_) rfl (by kernel_rfl) (by kernel_rfl) (by kernel_rfl) (fun _ _ _ h => h) (Or.inl ⟨by rfl, ?_⟩) hS ?_
      rotate_left
      · intro W hW; go_simp; with_reducible rfl
      try simp only [Act.put, List.setIfInBounds_toArray, List.set_cons_zero, List.set_cons_succ]
      refine wpAnyH_take (i := 21) (oi := ⟨some 32, _, _, _, _, _⟩) (v := ?_) rfl (by kernel_rfl) (by kernel_rfl) (by kernel_rfl) (fun _ _ _ h => h) (Or.inl ⟨by rfl, ?_⟩) hS ?_
      rotate_left
      · intro W hW; go_simp; with_reducible rfl
      try simp only [Act.put, List.setIfInBounds_toArray, List.set_cons_zero, List.set_cons_succ]
      refine wpAnyH_ready (rs := [22]) (by kernel_rfl) (by simp) ?_
      refine AllReadyH.cons (o := ⟨some 33, _, _, _, _, _⟩) rfl (fun Kr hKr => ?_) AllReadyH.nil
      -- operation 22: a step
      go_simp
      show Kr _ _
      refine hKr.out _ _ ?_ (fun _ => ?_)
      · exact hS.alloc _
      clear hKr Kr
      replace hS : Turn (fun q => u3.ownBlock = some q) wr ((World.drew wr).alloc (.cells #[.int .i64 y.b, .int .i64 y.x, .int .i64 y.h, .int .i64 y.k] 95)) := hS.alloc _
      try simp only [Act.put, List.setIfInBounds_toArray, List.set_cons_zero, List.set_cons_succ]
      refine wpAnyH_ready (rs := [23]) (by kernel_rfl) (by simp) ?_
      refine AllReadyH.cons (o := ⟨some 34, _, _, _, _, _⟩) rfl (fun Kr hKr => ?_) AllReadyH.nil
      -- operation 23: a step
      refine wp_append_rf _ _ rfl w.heap.size u3 (L.take j) [y] rfl ((show OwnRf (World.drew wr) w.heap.size u3 (L.take j) from HO.out).below (below_new _ _)) _ 1 1 rfl (LkAt.new (World.drew wr) y _) rfl (.inr ⟨_, _, rfl⟩) (by simp; omega) (by have h1 := HB.out.size; show w.heap.size ≤ ((World.drew wr).alloc _).heap.size; rw [World.size_alloc]; exact Nat.le_succ_of_le h1) ?_
      intro v5 w5 hown5 hg5 hat5
      show Kr _ _
      refine hKr.out _ _ ?_ (fun _ => ?_)
      · exact hS.grown hg5 (fun q e => .inl e)
      clear hKr Kr
      replace hS : Turn (fun q => u3.ownBlock = some q) wr w5 := hS.grown hg5 (fun q e => .inl e)
      try simp only [Act.put, List.setIfInBounds_toArray, List.set_cons_zero, List.set_cons_succ]
      refine wpAnyH_take (i := 24) (oi := ⟨some 3, _, _, _, _, _⟩) (v := ?_) rfl (by kernel_rfl) (by kernel_rfl) (by kernel_rfl) (fun _ _ _ h => h) (Or.inl ⟨by rfl, ?_⟩) hS ?_
      rotate_left
      · intro W hW; go_simp; with_reducible rfl
      try simp only [Act.put, List.setIfInBounds_toArray, List.set_cons_zero, List.set_cons_succ]
      refine wpAnyH_done (by kernel_rfl) ?_ _
      have HS := Lib.hid hS
      have HO5 := Lib.hid hown5
      clear hS hown5 hg5 hat5 k0 k1 k2 k3
      go_wp2
      go_roundw
      case rel => exact ⟨j + 1, by simp, by omega, by rw [HTK.out]; exact HO5.out, HB.out.trans (HS.out.below (fun q e => (HO.out.lt q e).1) HB.out.size)⟩
      case measure => simp [intOf]; omega
    · obtain rfl : j = n := by omega
      go_wp2
      go_ret
      have h1 := HO.out
      rw [List.take_of_length_le (by rw [HN.out]; omega)] at h1
      obtain ⟨B, c, hv, hl⟩ := h1.form
      rw [HN.out] at hv
      exact ⟨B, c, by rw [← hv]; rfl, hl, HB.out⟩

set_option maxHeartbeats 1000000 in
theorem same_any (A B : Option Addr) (L : List Lk) (n k c : Nat) (hN : L.length = n) (hn : n ≤ 16384) (w : World) (hA : LkAt w A L) (hB : LkAt w B L) :
    Calls Try.prog 34 #[.slice A n k, .slice B n c] w fun e w' => e = .returned (.bool true) ∧ Below w.heap.size w w' := by
  have HN := Lib.hid hN
  have HA := Lib.hid hA
  have HBB := Lib.hid hB
  clear hN hA hB
  have hneq := fun (y : Lk) W => run_lk_neq y.b y.x y.h y.k W
  have hgu := run_lk_guard
  go_enter Try.func34, Try.ntmps34
  go_wp2_with fail
  go_loopw [5] (fun iv wr => ∃ j : Nat, iv = .int .i64 (j : Int) ∧ j ≤ n ∧ Hid (Below w.heap.size w wr)) (fun iv _ => n - (intOf iv).toNat)
  case atStart => exact ⟨0, rfl, Nat.zero_le _, Below.refl _ _⟩
  case round =>
    obtain ⟨j, rfl, hj, HB⟩ := hrel
    rcases Nat.lt_or_ge j n with hlt | hge
    · obtain ⟨y, hy⟩ : ∃ y, L[j]? = some y := ⟨L[j]'(by rw [HN.out]; exact hlt), List.getElem?_eq_getElem (by rw [HN.out]; exact hlt)⟩
      obtain ⟨b, o, rfl, hb, hc⟩ := (HA.out.below HB.out).get hy
      obtain ⟨b2, o2, rfl, hb2, hc2⟩ := (HBB.out.below HB.out).get hy
      have l1 : ∀ V, Since wr V → CellsAt V b (o + j * 4) y := fun V hV => hc.turn (S := fun _ => False) (Turn.ofBelow hV) (fun h => h)
      have l2 : ∀ V, Since wr V → CellsAt V b2 (o2 + j * 4) y := fun V hV => hc2.turn (S := fun _ => False) (Turn.ofBelow hV) (fun h => h)
      have k0 : ∀ V, Since wr V → V.cell? ⟨b, o + j * 4, none⟩ = some (.int .i64 y.b) := fun V hV => (l1 V hV).c0
      have k1 : ∀ V, Since wr V → V.cell? ⟨b, o + j * 4 + 1, none⟩ = some (.int .i64 y.x) := fun V hV => (l1 V hV).c1
      have k2 : ∀ V, Since wr V → V.cell? ⟨b, o + j * 4 + 2, none⟩ = some (.int .i64 y.h) := fun V hV => (l1 V hV).c2
      have k3 : ∀ V, Since wr V → V.cell? ⟨b, o + j * 4 + 3, none⟩ = some (.int .i64 y.k) := fun V hV => (l1 V hV).c3
      have m0 : ∀ V, Since wr V → V.cell? ⟨b2, o2 + j * 4, none⟩ = some (.int .i64 y.b) := fun V hV => (l2 V hV).c0
      have m1 : ∀ V, Since wr V → V.cell? ⟨b2, o2 + j * 4 + 1, none⟩ = some (.int .i64 y.x) := fun V hV => (l2 V hV).c1
      have m2 : ∀ V, Since wr V → V.cell? ⟨b2, o2 + j * 4 + 2, none⟩ = some (.int .i64 y.h) := fun V hV => (l2 V hV).c2
      have m3 : ∀ V, Since wr V → V.cell? ⟨b2, o2 + j * 4 + 3, none⟩ = some (.int .i64 y.k) := fun V hV => (l2 V hV).c3
      clear l1 l2 hc hc2 hy hb hb2
      go_upto_region 6 with fail
      refine wp_region_since (by kernel_rfl) ?_
      have hS : Since wr (World.drew wr) := (Below.refl _ _).drew
      refine wpAnyH_take (i := 0) (oi := ⟨some 17, _, _, _, _, _⟩) (v := ?_) rfl (by kernel_rfl) (by kernel_rfl) (by kernel_rfl) (fun _ _ _ h => h) (Or.inl ⟨by rfl, ?_⟩) hS ?_
      rotate_left
      · intro W hW; go_simp; with_reducible rfl
      try simp only [Act.put, List.setIfInBounds_toArray, List.set_cons_zero, List.set_cons_succ]
      refine wpAnyH_take (i := 1) (oi := ⟨some 18, _, _, _, _, _⟩) (v := ?_) rfl (by kernel_rfl) (by kernel_rfl) (by kernel_rfl) (fun _ _ _ h => h) (Or.inl ⟨by rfl, ?_⟩) hS ?_
      rotate_left
      · intro W hW; go_simp; with_reducible rfl
      try simp only [Act.put, List.setIfInBounds_toArray, List.set_cons_zero, List.set_cons_succ]
      refine wpAnyH_take (i := 2) (oi := ⟨some 19, _, _, _, _, _⟩) (v := ?_) rfl (by kernel_rfl) (by kernel_rfl) (by kernel_rfl) (fun _ _ _ h => h) (Or.inl ⟨by rfl, ?_⟩) hS ?_
      rotate_left
      · intro W hW; go_simp; with_reducible rfl
      try simp only [Act.put, List.setIfInBounds_toArray, List.set_cons_zero, List.set_cons_succ]
      refine wpAnyH_take (i := 3) (oi := ⟨some 20, _, _, _, _, _⟩) (v := ?_) rfl (by kernel_rfl) (by kernel_rfl) (by kernel_rfl) (fun _ _ _ h => h) (Or.inl ⟨by rfl, ?_⟩) hS ?_
      rotate_left
      · intro W hW; go_simp; with_reducible rfl
      try simp only [Act.put, List.setIfInBounds_toArray, List.set_cons_zero, List.set_cons_succ]
      refine wpAnyH_take (i := 4) (oi := ⟨some 21, _, _, _, _, _⟩) (v := ?_) rfl (by kernel_rfl) (by kernel_rfl) (by kernel_rfl) (fun _ _ _ h => h) (Or.inl ⟨by rfl, ?_⟩) hS ?_
      rotate_left
      · intro W hW; go_simp; with_reducible rfl
      try simp only [Act.put, List.setIfInBounds_toArray, List.set_cons_zero, List.set_cons_succ]
      refine wpAnyH_take (i := 5) (oi := ⟨some 22, _, _, _, _, _⟩) (v := ?_) rfl (by kernel_rfl) (by kernel_rfl) (by kernel_rfl) (fun _ _ _ h => h) (Or.inl ⟨by rfl, ?_⟩) hS ?_
      rotate_left
      · intro W hW; go_simp; with_reducible rfl
      try simp only [Act.put, List.setIfInBounds_toArray, List.set_cons_zero, List.set_cons_succ]
      refine wpAnyH_take (i := 6) (oi := ⟨some 23, _, _, _, _, _⟩) (v := ?_) rfl (by kernel_rfl) (by kernel_rfl) (by kernel_rfl) (fun _ _ _ h => h) (Or.inl ⟨by rfl, ?_⟩) hS ?_
      rotate_left
      · intro W hW; go_simp; with_reducible rfl
      try simp only [Act.put, List.setIfInBounds_toArray, List.set_cons_zero, List.set_cons_succ]
      refine wpAnyH_take (i := 7) (oi := ⟨some 24, _, _, _, _, _⟩) (v := ?_) rfl (by kernel_rfl) (by kernel_rfl) (by kernel_rfl) (fun _ _ _ h => h) (Or.inl ⟨by rfl, ?_⟩) hS ?_
      rotate_left
      · intro W hW; go_simp; with_reducible rfl
      try simp only [Act.put, List.setIfInBounds_toArray, List.set_cons_zero, List.set_cons_succ]
      refine wpAnyH_take (i := 8) (oi := ⟨some 25, _, _, _, _, _⟩) (v := ?_) rfl (by kernel_rfl) (by kernel_rfl) (by kernel_rfl) (fun _ _ _ h => h) (Or.inl ⟨by rfl, ?_⟩) hS ?_
      rotate_left
      · intro W hW; go_simp; with_reducible rfl
      try simp only [Act.put, List.setIfInBounds_toArray, List.set_cons_zero, List.set_cons_succ]
      refine wpAnyH_done (by kernel_rfl) ?_ _
      have HS := Lib.hid hS
      clear hS k0 k1 k2 k3 m0 m1 m2 m3
      go_wp2
      go_roundw
      case rel => exact ⟨j + 1, by simp, by omega, HB.out.trans (Below.mono HS.out HB.out.size)⟩
      case measure => simp [intOf]; omega
    · obtain rfl : j = n := by omega
      go_wp2
      go_ret
      exact ⟨rfl, HB.out⟩
end Go.Proofs.Ytohnfjneghbceaa
