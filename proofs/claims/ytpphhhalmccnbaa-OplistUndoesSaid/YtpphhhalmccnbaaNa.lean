/-
  A wide number told as an int; what '==' and '!=' of two numbers each say.
-/
import Derived.Test.YtpphhhalmccnbaaWd
namespace Go.Proofs.Ytpphhhalmccnbaa
set_option maxRecDepth 100000
set_option linter.unusedVariables false
set_option linter.unusedSimpArgs false
open Go.RowKit

theorem run_eq_i64 (d : Nat) (x y : Int) (w : World) : (Op.equalIn (d + 1) 3 (.int .i64 x) (.int .i64 y)).run Try.prog w = .ok (x == y) w := by
  simp [Op.equalIn, run_underlying Try.underlying3]
theorem run_eq_u64 (d : Nat) (x y : Int) (w : World) : (Op.equalIn (d + 1) 101 (.int .u64 x) (.int .u64 y)).run Try.prog w = .ok (x == y) w := by
  simp [Op.equalIn, run_underlying Try.underlying101]
theorem run_part_one (t : TypeId) (k : IntKind) (ht : Try.prog.underlying t = some (.int k)) (vs : Array Value) (o : Nat) (v : Value) (hv : vs[o]? = some v) (w : World) : (part t vs o).run Try.prog w = .ok v w := by
  have hagg : (isAgg t).run Try.prog w = .ok false w := by
    unfold isAgg
    rw [Sem.run_bind, run_underlying ht w]
    rfl
  simp [part, Sem.run_bind, hagg, hv]

theorem run_wide_in (a b c d : Int) (w : World) : (Op.equalIn 10000 103 (.agg #[.int .i64 a, .int .u64 b]) (.agg #[.int .i64 c, .int .u64 d])).run Try.prog w = .ok (a == c && b == d) w := by
  have hf : Try.prog.underlying 103 = some (.struct (Try.prog.fieldsOf 103)) := by kernel_rfl
  have h0 := run_part_one 3 .i64 Try.underlying3 #[.int .i64 a, .int .u64 b] 0 _ rfl w
  have h1 := run_part_one 101 .u64 Try.underlying101 #[.int .i64 a, .int .u64 b] 1 _ rfl w
  have k0 := run_part_one 3 .i64 Try.underlying3 #[.int .i64 c, .int .u64 d] 0 _ rfl w
  have k1 := run_part_one 101 .u64 Try.underlying101 #[.int .i64 c, .int .u64 d] 1 _ rfl w
  have he : ∀ x y : Int, (Op.equalIn 9999 3 (.int .i64 x) (.int .i64 y)).run Try.prog w = .ok (x == y) w := fun x y => run_eq_i64 9998 x y w
  have hu : ∀ x y : Int, (Op.equalIn 9999 101 (.int .u64 x) (.int .u64 y)).run Try.prog w = .ok (x == y) w := fun x y => run_eq_u64 9998 x y w
  rw [run_equalIn_agg w 9999 _ _ _ hf (by kernel_rfl)]
  simp only [Program.fieldsOf, Try.underlying103]
  have hn : ∀ s : String, (s = "high" ∨ s = "low") → s ≠ "_" := by
    intro s hs e
    subst e
    rcases hs with hs | hs <;> exact absurd hs (by decide)
  simp only [Op.eqFields]
  rw [if_pos (hn _ (.inl rfl)), if_pos (hn _ (.inr rfl))]
  clear hn hf
  cases e0 : (a == c) <;> cases e1 : (b == d) <;> simp [Sem.run_bind, h0, h1, k0, k1, Result.andThen_ok, he, hu, e0, e1]
theorem run_wide_neq (a b c d : Int) (w : World) : (binOp .neq 103 (.agg #[.int .i64 a, .int .u64 b]) (.agg #[.int .i64 c, .int .u64 d])).run Try.prog w = .ok (.bool (!(a == c && b == d))) w := by
  simp only [binOp]
  simp [Op.equal, Op.maxDepth, run_wide_in a b c d w]
theorem run_wide_guard (op : BinOp) (x y : Operand) (s t : Array Value) (w : World) : (eqGuard op 103 x y (.agg s) (.agg t)).run Try.prog w = .ok () w :=
  run_eqGuard_agg (P := Try.prog) w _ _ _ _ _ _ (by kernel_rfl)

/-- a number, told: its answer, its error -/
def tlV (x : Int) : Int := if okI x then x else 0
def tlE (x : Int) : Int := if okI x then 0 else 12
theorem tl_ok (x : Int) : okI (tlV x) := by unfold tlV; split; assumption; decide
theorem tlE_bd (x : Int) : tlE x = 0 ∨ tlE x = 12 := by unfold tlE; split <;> simp

set_option maxHeartbeats 1000000 in
theorem narrow_any (x : Int) : Says 49 #[wdV x] (.tuple #[.int .i64 (tlV x), .int .i64 (tlE x)]) := by
  intro w
  have h0 := widen_any (nwI x) (nw_ok x)
  have hc : IntKind.i64.wrap (wlo x) = nwI x := rfl
  have HX := Lib.hid (Bk.new w (wdC x) 103)
  have HB := Lib.hid (below_new w (.cells (wdC x) 103))
  have hgu := run_wide_guard
  rcases Classical.em (okI x) with hx | hx
  · have HV : Hid (tlV x = x) := by show _ = _; unfold tlV; rw [if_pos hx]
    have HE : Hid (tlE x = 0) := by show _ = _; unfold tlE; rw [if_pos hx]
    have HN := Lib.hid (nw_self hx)
    have heq : ∀ w : World, (binOp .neq 103 (.agg #[.int .i64 (whi (nwI x)), .int .u64 (wlo (nwI x))]) (.agg #[.int .i64 (whi x), .int .u64 (wlo x)])).run Try.prog w = .ok (.bool false) w := fun w => by
      rw [nw_self hx, run_wide_neq]; simp
    clear hx
    rw [HV.out, HE.out]
    go_enter Try.func49, Try.ntmps49
    go_wp2_with fail
    generalize w.alloc (.cells (wdC x) 103) = w1 at *
    have x0 : ∀ V, Since w1 V → V.cell? ⟨w.heap.size, 0, none⟩ = some (.int .i64 (whi x)) := fun V hV => (HX.out.below hV).w0
    have x1 : ∀ V, Since w1 V → V.cell? ⟨w.heap.size, 1, none⟩ = some (.int .u64 (wlo x)) := fun V hV => (HX.out.below hV).w1
    refine wp_region_since (by kernel_rfl) ?_
    have hS : Since w1 (World.drew w1) := (Below.refl _ _).drew
    refine wpAnyH_take (i := 0) (oi := ⟨some 8, _, _, _, _, _⟩) (v := ?_) rfl (by kernel_rfl) (by kernel_rfl) (by kernel_rfl) (fun _ _ _ h => h) (Or.inl ⟨by rfl, ?_⟩) hS ?_
    rotate_left
    · intro W hW; go_simp; with_reducible rfl
    try simp only [Act.put, List.setIfInBounds_toArray, List.set_cons_zero, List.set_cons_succ]
    refine wpAnyH_take (i := 2) (oi := ⟨some 10, _, _, _, _, _⟩) (v := ?_) rfl (by kernel_rfl) (by kernel_rfl) (by kernel_rfl) (fun _ _ _ h => h) (Or.inl ⟨by rfl, ?_⟩) hS ?_
    rotate_left
    · intro W hW; go_simp; with_reducible rfl
    try simp only [Act.put, List.setIfInBounds_toArray, List.set_cons_zero, List.set_cons_succ]
    refine wpAnyH_ready (rs := [1]) (by kernel_rfl) (by simp) ?_
    refine AllReadyH.cons (o := ⟨some 9, _, _, _, _, _⟩) rfl (fun Kr hKr => ?_) AllReadyH.nil
    -- operation 1: a call
    go_simp
    refine (h0 _).mono ?_
    rintro e w2 ⟨rfl, hb2⟩
    show Kr _ _
    refine hKr.out _ _ ?_ (fun _ => ?_)
    · exact since_trans hS hb2
    clear hKr Kr
    refine wpAnyH_since (since_trans hS hb2) ?_
    clear hS
    have hS : Since w2 w2 := Below.refl _ _
    try simp only [Act.put, List.setIfInBounds_toArray, List.set_cons_zero, List.set_cons_succ]
    refine wpAnyH_take (i := 3) (oi := ⟨some 11, _, _, _, _, _⟩) (v := ?_) rfl (by kernel_rfl) (by kernel_rfl) (by kernel_rfl) (fun _ _ _ h => h) (Or.inl ⟨by rfl, ?_⟩) hS ?_
    rotate_left
    · intro W hW; go_simp; with_reducible rfl
    try simp only [Act.put, List.setIfInBounds_toArray, List.set_cons_zero, List.set_cons_succ]
    refine wpAnyH_done (by kernel_rfl) ?_ _
    go_wp2_with fail
    go_ret2
    exact ⟨by rw [HN.out]; rfl, below_two HB.out ((Below.refl _ _).drew.trans hb2)⟩
  · have HV : Hid (tlV x = 0) := by show _ = _; unfold tlV; rw [if_neg hx]
    have HE : Hid (tlE x = 12) := by show _ = _; unfold tlE; rw [if_neg hx]
    have heq : ∀ w : World, (binOp .neq 103 (.agg #[.int .i64 (whi (nwI x)), .int .u64 (wlo (nwI x))]) (.agg #[.int .i64 (whi x), .int .u64 (wlo x)])).run Try.prog w = .ok (.bool true) w := fun w => by
      rw [run_wide_neq]; have h := nw_other hx; simp; omega
    clear hx
    rw [HV.out, HE.out]
    go_enter Try.func49, Try.ntmps49
    go_wp2_with fail
    generalize w.alloc (.cells (wdC x) 103) = w1 at *
    have x0 : ∀ V, Since w1 V → V.cell? ⟨w.heap.size, 0, none⟩ = some (.int .i64 (whi x)) := fun V hV => (HX.out.below hV).w0
    have x1 : ∀ V, Since w1 V → V.cell? ⟨w.heap.size, 1, none⟩ = some (.int .u64 (wlo x)) := fun V hV => (HX.out.below hV).w1
    refine wp_region_since (by kernel_rfl) ?_
    have hS : Since w1 (World.drew w1) := (Below.refl _ _).drew
    refine wpAnyH_take (i := 0) (oi := ⟨some 8, _, _, _, _, _⟩) (v := ?_) rfl (by kernel_rfl) (by kernel_rfl) (by kernel_rfl) (fun _ _ _ h => h) (Or.inl ⟨by rfl, ?_⟩) hS ?_
    rotate_left
    · intro W hW; go_simp; with_reducible rfl
    try simp only [Act.put, List.setIfInBounds_toArray, List.set_cons_zero, List.set_cons_succ]
    refine wpAnyH_take (i := 2) (oi := ⟨some 10, _, _, _, _, _⟩) (v := ?_) rfl (by kernel_rfl) (by kernel_rfl) (by kernel_rfl) (fun _ _ _ h => h) (Or.inl ⟨by rfl, ?_⟩) hS ?_
    rotate_left
    · intro W hW; go_simp; with_reducible rfl
    try simp only [Act.put, List.setIfInBounds_toArray, List.set_cons_zero, List.set_cons_succ]
    refine wpAnyH_ready (rs := [1]) (by kernel_rfl) (by simp) ?_
    refine AllReadyH.cons (o := ⟨some 9, _, _, _, _, _⟩) rfl (fun Kr hKr => ?_) AllReadyH.nil
    -- operation 1: a call
    go_simp
    refine (h0 _).mono ?_
    rintro e w2 ⟨rfl, hb2⟩
    show Kr _ _
    refine hKr.out _ _ ?_ (fun _ => ?_)
    · exact since_trans hS hb2
    clear hKr Kr
    refine wpAnyH_since (since_trans hS hb2) ?_
    clear hS
    have hS : Since w2 w2 := Below.refl _ _
    try simp only [Act.put, List.setIfInBounds_toArray, List.set_cons_zero, List.set_cons_succ]
    refine wpAnyH_take (i := 3) (oi := ⟨some 11, _, _, _, _, _⟩) (v := ?_) rfl (by kernel_rfl) (by kernel_rfl) (by kernel_rfl) (fun _ _ _ h => h) (Or.inl ⟨by rfl, ?_⟩) hS ?_
    rotate_left
    · intro W hW; go_simp; with_reducible rfl
    try simp only [Act.put, List.setIfInBounds_toArray, List.set_cons_zero, List.set_cons_succ]
    refine wpAnyH_done (by kernel_rfl) ?_ _
    go_wp2_with fail
    go_ret2
    exact ⟨rfl, below_two HB.out ((Below.refl _ _).drew.trans hb2)⟩
end Go.Proofs.Ytpphhhalmccnbaa
