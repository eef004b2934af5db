/-
  Entries that are the same: the document's Same answers yes.
-/
import Derived.Test.YtpphhhalmccnbaaUe
namespace Go.Proofs.Ytpphhhalmccnbaa
set_option maxRecDepth 100000
set_option linter.unusedVariables false
set_option linter.unusedSimpArgs false
open Go.RowKit

theorem run_eq_b (d : Nat) (x y : Bool) (w : World) : (Op.equalIn (d + 1) 4 (.bool x) (.bool y)).run Try.prog w = .ok (x == y) w := by
  have h : Try.prog.underlying 4 = some .bool := Try.underlying4
  simp [Op.equalIn, run_underlying h, Result.andThen]
theorem run_part_bool (vs : Array Value) (o : Nat) (v : Value) (hv : vs[o]? = some v) (w : World) : (part 4 vs o).run Try.prog w = .ok v w := by
  have h : Try.prog.underlying 4 = some .bool := Try.underlying4
  simp [part, run_underlying h, Result.andThen, hv]
theorem run_en_in (p s b : Int) (e : Bool) (w : World) : (Op.equalIn 10000 73 (.agg #[.int .i64 p, .int .i64 s, .int .i64 b, .bool e]) (.agg #[.int .i64 p, .int .i64 s, .int .i64 b, .bool e])).run Try.prog w = .ok true w := by
  have hf : Try.prog.underlying 73 = some (.struct (Try.prog.fieldsOf 73)) := by kernel_rfl
  have h0 := run_part_one 3 .i64 Try.underlying3 #[.int .i64 p, .int .i64 s, .int .i64 b, .bool e] 0 _ rfl w
  have h1 := run_part_one 3 .i64 Try.underlying3 #[.int .i64 p, .int .i64 s, .int .i64 b, .bool e] 1 _ rfl w
  have h2 := run_part_one 3 .i64 Try.underlying3 #[.int .i64 p, .int .i64 s, .int .i64 b, .bool e] 2 _ rfl w
  have h3 := run_part_bool #[.int .i64 p, .int .i64 s, .int .i64 b, .bool e] 3 _ rfl w
  have he : ∀ x y : Int, (Op.equalIn 9999 3 (.int .i64 x) (.int .i64 y)).run Try.prog w = .ok (x == y) w := fun x y => run_eq_i64 9998 x y w
  have hb : ∀ x y : Bool, (Op.equalIn 9999 4 (.bool x) (.bool y)).run Try.prog w = .ok (x == y) w := fun x y => run_eq_b 9998 x y w
  rw [run_equalIn_agg w 9999 _ _ _ hf (by kernel_rfl)]
  simp only [Program.fieldsOf, Try.underlying73]
  have hn : ∀ s : String, (s = "Tx" ∨ s = "Counter" ∨ s = "By" ∨ s = "Undo") → s ≠ "_" := by
    intro s hs e
    subst e
    rcases hs with hs | hs | hs | hs <;> exact absurd hs (by decide)
  simp only [Op.eqFields]
  rw [if_pos (hn _ (.inl rfl)), if_pos (hn _ (.inr (.inl rfl))), if_pos (hn _ (.inr (.inr (.inl rfl)))), if_pos (hn _ (.inr (.inr (.inr rfl))))]
  clear hn hf
  simp [Sem.run_bind, h0, h1, h2, h3, Result.andThen_ok, he, hb]
theorem run_en_neq (p s b : Int) (e : Bool) (w : World) : (binOp .neq 73 (.agg #[.int .i64 p, .int .i64 s, .int .i64 b, .bool e]) (.agg #[.int .i64 p, .int .i64 s, .int .i64 b, .bool e])).run Try.prog w = .ok (.bool false) w := by
  simp only [binOp]
  simp [Op.equal, Op.maxDepth, run_en_in p s b e w]
theorem run_en_guard (op : BinOp) (x y : Operand) (s t : Array Value) (w : World) : (eqGuard op 73 x y (.agg s) (.agg t)).run Try.prog w = .ok () w :=
  run_eqGuard_agg (P := Try.prog) w _ _ _ _ _ _ (by kernel_rfl)

set_option maxHeartbeats 1000000 in
theorem same_any (A B : Option Addr) (n a b : Nat) (l : List En) (hn : n ≤ 3000) (w : World) (hA : EsAt REr w A n l) (hB : EsAt REr w B n l) :
    Calls Try.prog 12 #[.slice A n a, .slice B n b] w fun e w' => e = .returned (.bool true) ∧ Below w.heap.size w w' := by
  have HA := Lib.hid hA
  have HB := Lib.hid hB
  clear hA hB
  have hneq := run_en_neq
  have hgu := run_en_guard
  go_enter Try.func12, Try.ntmps12
  go_wp2_with fail
  go_loopw [5] (fun u wr => ∃ j : Nat, u = .int .i64 (j : Int) ∧ j ≤ n ∧ Hid (Below w.heap.size w wr)) (fun u _ => n - (intOf u).toNat)
  case atStart => exact ⟨0, rfl, Nat.zero_le _, Lib.hid (Below.refl _ _)⟩
  case round =>
    obtain ⟨j, rfl, hj, HW⟩ := hrel
    rcases Nat.lt_or_ge j n with hlt | hge
    · obtain ⟨b1, o1, e1, hb1, hok1, hget, h0, h1, h2, h3⟩ := HA.out.er hlt
      obtain ⟨b2, o2, e2, hb2, hok2, _, g0, g1, g2, g3⟩ := HB.out.er hlt
      subst e1
      subst e2
      generalize l.getD j enD = p at *
      obtain ⟨pc, px, u, d⟩ := p
      simp only at h0 h1 h2 h3 g0 g1 g2 g3
      have k0 := (HW.out.cell (p := ⟨b1, o1 + j * 4, none⟩) hb1).trans h0
      have k1 := (HW.out.cell (p := ⟨b1, o1 + j * 4 + 1, none⟩) hb1).trans h1
      have k2 := (HW.out.cell (p := ⟨b1, o1 + j * 4 + 2, none⟩) hb1).trans h2
      have k3 := (HW.out.cell (p := ⟨b1, o1 + j * 4 + 3, none⟩) hb1).trans h3
      have m0 := (HW.out.cell (p := ⟨b2, o2 + j * 4, none⟩) hb2).trans g0
      have m1 := (HW.out.cell (p := ⟨b2, o2 + j * 4 + 1, none⟩) hb2).trans g1
      have m2 := (HW.out.cell (p := ⟨b2, o2 + j * 4 + 2, none⟩) hb2).trans g2
      have m3 := (HW.out.cell (p := ⟨b2, o2 + j * 4 + 3, none⟩) hb2).trans g3
      have hd4 : decide ((j : Int) < (n : Int)) = true := decide_eq_true (by omega)
      have hd5 : decide (j < n) = true := decide_eq_true hlt
      have hi1 : (j : Int) < (n : Int) := by omega
      clear h0 h1 h2 h3 g0 g1 g2 g3 hb1 hb2 hget hok1 hok2
      go_wp2_with fail
      go_quiet (fail)
      go_wp2_with fail
      exact ⟨⟨j + 1, rfl, hlt, Lib.hid (below_drewN HW.out _)⟩, by simp [intOf] <;> omega⟩
    · obtain rfl : j = n := by omega
      have hd4 : decide ((j : Int) < (j : Int)) = false := decide_eq_false (by omega)
      have hd5 : decide (j < j) = false := decide_eq_false (by omega)
      go_wp2_with fail
      go_ret
      exact ⟨rfl, HW.out⟩
end Go.Proofs.Ytpphhhalmccnbaa
