/-
  Two pairs held against each other; lots that are the same; a ring taken over from the document's kind into the program's, and back.
-/
import Derived.Test.YtkdppepeenokbaaRefSpans
import Derived.Laws.StructEq
import Derived.Laws.ResultCell
namespace Go.Proofs.Ytkdppepeenokbaa
open Go.RowKit

theorem run_part_pair0 (x y : Int) (w : World) : (part 3 #[.int .i64 x, .int .i64 y] (0 * 1)).run Try.prog w = .ok (.int .i64 x) w := by
  have hagg : (isAgg 3).run Try.prog w = .ok false w := by
    unfold isAgg
    rw [Sem.run_bind, run_underlying Try.underlying3 w]
    rfl
  simp [part, Sem.run_bind, hagg]
theorem run_part_pair1 (x y : Int) (w : World) : (part 3 #[.int .i64 x, .int .i64 y] (1 * 1)).run Try.prog w = .ok (.int .i64 y) w := by
  have hagg : (isAgg 3).run Try.prog w = .ok false w := by
    unfold isAgg
    rw [Sem.run_bind, run_underlying Try.underlying3 w]
    rfl
  simp [part, Sem.run_bind, hagg]
theorem run_eq_i64 (d : Nat) (x y : Int) (w : World) : (Op.equalIn (d + 1) 3 (.int .i64 x) (.int .i64 y)).run Try.prog w = .ok (x == y) w := by
  simp [Op.equalIn, run_underlying Try.underlying3]

theorem run_pair_in (d : Nat) (x y u v : Int) (w : World) : (Op.equalIn (d + 2) 47 (.agg #[.int .i64 x, .int .i64 y]) (.agg #[.int .i64 u, .int .i64 v])).run Try.prog w = .ok (x == u && y == v) w := by
  have hs : (sizeOf 3).run Try.prog w = .ok 1 w := by
    have : (Try.prog.info? 3).map (·.size) = some 1 := by kernel_rfl
    cases hq : Try.prog.info? 3 with
    | none => simp [hq] at this
    | some i => simp [hq] at this; simp [sizeOf, typeInfo, hq, this]
  unfold Op.equalIn
  rw [Sem.run_bind, run_underlying Try.underlying47 w]
  simp only [Result.andThen_ok]
  rw [Sem.run_bind, hs]
  simp only [Result.andThen_ok]
  rw [Std.Legacy.Range.forIn_eq_forIn_range', Sem.run_bind]
  have h0 := run_part_pair0 x y w
  have h0' := run_part_pair0 u v w
  have h1 := run_part_pair1 x y w
  have h1' := run_part_pair1 u v w
  have e0 := run_eq_i64 d x u w
  have e1 := run_eq_i64 d y v w
  show Result.andThen (Sem.run Try.prog (forIn (List.range' 0 2 1) _ _) w) _ = _
  simp only [List.range'_succ, List.range'_zero, List.forIn_cons, List.forIn_nil, Sem.run_bind, h0, h0', e0, Result.andThen_ok, Nat.zero_add]
  cases x == u with
  | false => simp only [Bool.not_false, if_true, Sem.run_pure, Result.andThen_ok, Bool.false_and]
  | true =>
    simp only [Bool.not_true, Bool.false_eq_true, if_false, Sem.run_pure, Result.andThen_ok, Sem.run_bind, h1, h1', e1, Bool.true_and]
    cases y == v with
    | false => simp only [Bool.not_false, if_true, Sem.run_pure, Result.andThen_ok]
    | true => simp only [Bool.not_true, Bool.false_eq_true, if_false, Sem.run_pure, Result.andThen_ok]

theorem run_pair_eql (x y u v : Int) (w : World) : (binOp .eql 47 (.agg #[.int .i64 x, .int .i64 y]) (.agg #[.int .i64 u, .int .i64 v])).run Try.prog w = .ok (.bool (x == u && y == v)) w := by
  simp only [binOp]
  simp [Op.equal, Op.maxDepth, run_pair_in 9998 x y u v w]
theorem run_pair_neq (x y u v : Int) (w : World) : (binOp .neq 47 (.agg #[.int .i64 x, .int .i64 y]) (.agg #[.int .i64 u, .int .i64 v])).run Try.prog w = .ok (.bool (!(x == u && y == v))) w := by
  simp only [binOp]
  simp [Op.equal, Op.maxDepth, run_pair_in 9998 x y u v w]
theorem run_pair_same (x y : Int) (w : World) : (binOp .neq 47 (.agg #[.int .i64 x, .int .i64 y]) (.agg #[.int .i64 x, .int .i64 y])).run Try.prog w = .ok (.bool false) w := by
  rw [run_pair_neq]
  simp

theorem run_part_ring (r : Rg) (w : World) : ((part 3 (rgC r) 0).run Try.prog w = .ok (.int .i64 r.F) w ∧ (part 3 (rgC r) 1).run Try.prog w = .ok (.int .i64 r.S) w) ∧ (part 3 (rgC r) 2).run Try.prog w = .ok (.int .i64 r.H) w ∧ (part 3 (rgC r) 3).run Try.prog w = .ok (.int .i64 r.T) w := by
  have hagg : (isAgg 3).run Try.prog w = .ok false w := by
    unfold isAgg
    rw [Sem.run_bind, run_underlying Try.underlying3 w]
    rfl
  refine ⟨⟨?_, ?_⟩, ?_, ?_⟩ <;> simp [part, Sem.run_bind, hagg]
theorem run_eq_i64_self (d : Nat) (x : Int) (w : World) : (Op.equalIn (d + 1) 3 (.int .i64 x) (.int .i64 x)).run Try.prog w = .ok true w := by
  rw [run_eq_i64, beq_self_eq_true]

theorem run_ring_eql (r : Rg) (w : World) : (binOp .eql 23 (rgV r) (rgV r)).run Try.prog w = .ok (.bool true) w := by
  have hf : Try.prog.underlying 23 = some (.struct (Try.prog.fieldsOf 23)) := by kernel_rfl
  obtain ⟨⟨h0, h1⟩, h2, h3⟩ := run_part_ring r w
  have he := fun x => run_eq_i64_self 9998 x w
  rw [run_eql_struct, run_equalIn_agg w 9999 _ _ _ hf (by kernel_rfl)]
  simp only [Program.fieldsOf, Try.underlying23]
  have hn : ∀ s : String, (s = "From" ∨ s = "Size" ∨ s = "Head" ∨ s = "Tail") → s ≠ "_" := by
    intro s hs e
    subst e
    rcases hs with hs | hs | hs | hs <;> exact absurd hs (by decide)
  simp only [Op.eqFields]
  rw [if_pos (hn _ (.inl rfl)), if_pos (hn _ (.inr (.inl rfl))), if_pos (hn _ (.inr (.inr (.inl rfl)))), if_pos (hn _ (.inr (.inr (.inr rfl))))]
  simp only [Sem.run_bind, h0, h1, h2, h3, Result.andThen_ok, he, Bool.not_true, Bool.false_eq_true, if_false, Sem.run_pure]

set_option maxRecDepth 100000 in
theorem same_any (w : World) {A B : Option Addr} {n m : Nat} (ca cb : Nat) {l : List (Int × Int)} (hn : n = l.length) (hm : m = l.length) (hb : n ≤ 1000) (hA : Lt w w.heap.size A l) (hB : Lt w w.heap.size B l) :
    Calls Try.prog 26 #[.slice A n ca, .slice B m cb] w fun e w' => e = .returned (.bool true) ∧ Below w.heap.size w w' := by
  obtain rfl : m = n := by omega
  have HN := Lib.hid hn
  have HA := Lib.hid hA
  have HB := Lib.hid hB
  clear hn hm hA hB
  go_enter Try.func26, Try.ntmps26
  go_wp2_with fail
  go_loopw [5] (fun u wr => ∃ j : Nat, u = .int .i64 (j : Int) ∧ j ≤ m ∧ Hid (Below w.heap.size w wr)) (fun u _ => m - (intOf u).toNat)
  case atStart => exact ⟨0, rfl, by omega, Below.refl _ _⟩
  case round =>
    obtain ⟨j, rfl, hj, HW⟩ := hrel
    rcases Nat.lt_or_ge j m with hlt | hge
    · rcases HA.out with h0 | ⟨g, rfl, hg, hc⟩
      · have := HN.out; rw [h0] at this; simp at this; omega
      rcases HB.out with h0 | ⟨g2, rfl, hg2, hc2⟩
      · have := HN.out; rw [h0] at this; simp at this; omega
      have hjl : j < l.length := by have := HN.out; omega
      have k1 := (HW.out.cell (p := ⟨g, j * 2, none⟩) hg).trans (hc j _ (List.getElem?_eq_getElem hjl)).1
      have k2 := (HW.out.cell (p := ⟨g, j * 2 + 1, none⟩) hg).trans (hc j _ (List.getElem?_eq_getElem hjl)).2
      have k3 := (HW.out.cell (p := ⟨g2, j * 2, none⟩) hg2).trans (hc2 j _ (List.getElem?_eq_getElem hjl)).1
      have k4 := (HW.out.cell (p := ⟨g2, j * 2 + 1, none⟩) hg2).trans (hc2 j _ (List.getElem?_eq_getElem hjl)).2
      generalize l[j] = z at k1 k2 k3 k4
      obtain ⟨x, y⟩ := z
      simp only at k1 k2 k3 k4
      have hdj : decide ((j : Int) < (m : Int)) = true := decide_eq_true (by omega)
      have hdj2 : decide (j < m) = true := decide_eq_true (by omega)
      have heq := run_pair_same x y
      clear hc hc2 hg hg2 hjl
      go_wp2_with fail
      go_quiet (fail)
      go_wp2_with fail
      refine ⟨⟨j + 1, by go_num, by omega, Lib.hid (below_drewN HW.out _)⟩, by simp [intOf]; omega⟩
    · obtain rfl : j = m := by omega
      have hdj : decide ((j : Int) < (j : Int)) = false := decide_eq_false (by omega)
      have hdj2 : decide (j < j) = false := decide_eq_false (by omega)
      go_wp2_with fail
      go_ret
      exact ⟨rfl, HW.out⟩

theorem results_cell_one {fn : Func} {p : Tmp} {ty : TypeId} (h : fn.results = #[.cell p ty]) (tmps : Array Value) (P : Program) (w : World) :
    (results fn tmps).run P w = ((asAddr (tmps.getD p undef)).run P w).andThen fun a w₁ => (loadVar ty a).run P w₁ := by
  simp only [results, h]
  simp [Sem.run_bind, Result.andThen]

theorem ours_any (r : Rg) : Says 10 #[rgV r] (rgV r) := by
  intro w
  have HB := Lib.hid (fun v => below_two (below_new w (.cells (rgC r) 23)) (below_new _ (.cells v 25)))
  obtain ⟨F, S, H, T⟩ := r
  go_enter Try.func10, Try.ntmps10
  go_wp2_with fail
  exact bodyPost_ret (v := rgV ⟨F, S, H, T⟩) (by rw [results_cell_one rfl]; go_simp) rfl ⟨rfl, HB.out _⟩

theorem theirs_any (r : Rg) : Says 25 #[rgV r] (rgV r) := by
  intro w
  have HB := Lib.hid (fun v => below_two (below_new w (.cells (rgC r) 25)) (below_new _ (.cells v 23)))
  obtain ⟨F, S, H, T⟩ := r
  go_enter Try.func25, Try.ntmps25
  go_wp2_with fail
  exact bodyPost_ret (v := rgV ⟨F, S, H, T⟩) (by rw [results_cell_one rfl]; go_simp) rfl ⟨rfl, HB.out _⟩

end Go.Proofs.Ytkdppepeenokbaa
