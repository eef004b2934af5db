/-
  Ops that are the same: the document's SameOps answers yes.
-/
import Derived.Test.YtpphhhalmccnbaaUm
import Derived.Test.YtpphhhalmccnbaaUi
namespace Go.Proofs.Ytpphhhalmccnbaa
set_option maxRecDepth 100000
set_option linter.unusedVariables false
set_option linter.unusedSimpArgs false
open Go.RowKit

theorem run_op_in (c b : Int) (w : World) : (Op.equalIn 10000 70 (.agg #[.int .i64 c, .int .i64 b]) (.agg #[.int .i64 c, .int .i64 b])).run Try.prog w = .ok true w := by
  have hf : Try.prog.underlying 70 = some (.struct (Try.prog.fieldsOf 70)) := by kernel_rfl
  have h0 := run_part_one 3 .i64 Try.underlying3 #[.int .i64 c, .int .i64 b] 0 _ rfl w
  have h1 := run_part_one 3 .i64 Try.underlying3 #[.int .i64 c, .int .i64 b] 1 _ rfl w
  have he : ∀ x y : Int, (Op.equalIn 9999 3 (.int .i64 x) (.int .i64 y)).run Try.prog w = .ok (x == y) w := fun x y => run_eq_i64 9998 x y w
  rw [run_equalIn_agg w 9999 _ _ _ hf (by kernel_rfl)]
  simp only [Program.fieldsOf, Try.underlying70]
  have hn : ∀ s : String, (s = "Counter" ∨ s = "By") → s ≠ "_" := by
    intro s hs e
    subst e
    rcases hs with hs | hs <;> exact absurd hs (by decide)
  simp only [Op.eqFields]
  rw [if_pos (hn _ (.inl rfl)), if_pos (hn _ (.inr rfl))]
  clear hn hf
  simp [Sem.run_bind, h0, h1, Result.andThen_ok, he]
theorem run_op_neq (c b : Int) (w : World) : (binOp .neq 70 (.agg #[.int .i64 c, .int .i64 b]) (.agg #[.int .i64 c, .int .i64 b])).run Try.prog w = .ok (.bool false) w := by
  simp only [binOp]
  simp [Op.equal, Op.maxDepth, run_op_in c b w]
theorem run_op_guard (op : BinOp) (x y : Operand) (s t : Array Value) (w : World) : (eqGuard op 70 x y (.agg s) (.agg t)).run Try.prog w = .ok () w :=
  run_eqGuard_agg (P := Try.prog) w _ _ _ _ _ _ (by kernel_rfl)
/-- an op's cells -/
theorem op_cells {W : World} {A : Option Addr} {l : List (Int × Int)} {n i : Nat} (h : RQ.At W A l) (hn : l.length = n) (hi : i < n) : ∃ b o, A = some ⟨b, o, none⟩ ∧ b < W.heap.size ∧
    W.cell? ⟨b, o + i * 2, none⟩ = some (.int .i64 (l.getD i (0, 0)).1) ∧ W.cell? ⟨b, o + i * 2 + 1, none⟩ = some (.int .i64 (l.getD i (0, 0)).2) := by
  have hl : i < l.length := by rw [hn]; exact hi
  have hx : l[i]? = some (l.getD i (0, 0)) := by rw [List.getD_eq_getElem?_getD, List.getElem?_eq_getElem hl]; rfl
  obtain ⟨b, o, e, hb, hc⟩ := h.get rq_ok hx
  exact ⟨b, o, e, hb, hc 0 _ rfl, hc 1 _ rfl⟩

set_option maxHeartbeats 1000000 in
theorem sameops_any (A B : Option Addr) (n a b : Nat) (l : List (Int × Int)) (hl : l.length = n) (hn : n ≤ 3000) (w : World) (hA : RQ.At w A l) (hB : RQ.At w B l) :
    Calls Try.prog 22 #[.slice A n a, .slice B n b] w fun e w' => e = .returned (.bool true) ∧ Below w.heap.size w w' := by
  have HA := Lib.hid hA
  have HB := Lib.hid hB
  have HN := Lib.hid hl
  clear hA hB hl
  have hneq := run_op_neq
  have hgu := run_op_guard
  go_enter Try.func22, Try.ntmps22
  go_wp2_with fail
  go_loopw [5] (fun u wr => ∃ j : Nat, u = .int .i64 (j : Int) ∧ j ≤ n ∧ Hid (Below w.heap.size w wr)) (fun u _ => n - (intOf u).toNat)
  case atStart => exact ⟨0, rfl, Nat.zero_le _, Lib.hid (Below.refl _ _)⟩
  case round =>
    obtain ⟨j, rfl, hj, HW⟩ := hrel
    rcases Nat.lt_or_ge j n with hlt | hge
    · obtain ⟨b1, o1, e1, hb1, h0, h1⟩ := op_cells HA.out HN.out hlt
      obtain ⟨b2, o2, e2, hb2, g0, g1⟩ := op_cells HB.out HN.out hlt
      subst e1
      subst e2
      generalize l.getD j (0, 0) = p at *
      obtain ⟨c, bb⟩ := p
      simp only at h0 h1 g0 g1
      have k0 := (HW.out.cell (p := ⟨b1, o1 + j * 2, none⟩) hb1).trans h0
      have k1 := (HW.out.cell (p := ⟨b1, o1 + j * 2 + 1, none⟩) hb1).trans h1
      have m0 := (HW.out.cell (p := ⟨b2, o2 + j * 2, none⟩) hb2).trans g0
      have m1 := (HW.out.cell (p := ⟨b2, o2 + j * 2 + 1, none⟩) hb2).trans g1
      have hd4 : decide ((j : Int) < (n : Int)) = true := decide_eq_true (by omega)
      have hd5 : decide (j < n) = true := decide_eq_true hlt
      have hi1 : (j : Int) < (n : Int) := by omega
      clear h0 h1 g0 g1 hb1 hb2
      go_wp2_with fail
      go_quiet (fail)
      go_wp2_with fail
      exact ⟨⟨j + 1, rfl, hlt, Lib.hid (below_drewN HW.out _)⟩, by simp [intOf] <;> omega⟩
    · obtain rfl : j = n := by omega
      have hd4 : decide ((j : Int) < (j : Int)) = false := decide_eq_false (by omega)
      have hd5 : decide (j < j) = false := decide_eq_false (by omega)
      go_wp2_with fail
      go_ret
      exact ⟨rfl, HW.out⟩
end Go.Proofs.Ytpphhhalmccnbaa
