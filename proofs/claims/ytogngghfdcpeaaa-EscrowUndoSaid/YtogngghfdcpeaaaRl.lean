/-
  Tables that are one: the document's SamePends and Same answer yes.
-/
import Derived.Test.YtogngghfdcpeaaaRk
namespace Go.Proofs.Ytogngghfdcpeaaa
set_option maxRecDepth 100000
set_option linter.unusedVariables false
set_option linter.unusedSimpArgs false
open Go.RowKit

theorem run_pd_in (p s b e : Int) (w : World) : (Op.equalIn 10000 74 (.agg #[.int .i64 p, .int .i64 s, .int .i64 b, .int .i64 e]) (.agg #[.int .i64 p, .int .i64 s, .int .i64 b, .int .i64 e])).run Try.prog w = .ok true w := by
  have hf : Try.prog.underlying 74 = some (.struct (Try.prog.fieldsOf 74)) := by kernel_rfl
  have h0 := run_part_one 3 .i64 Try.underlying3 #[.int .i64 p, .int .i64 s, .int .i64 b, .int .i64 e] 0 _ rfl w
  have h1 := run_part_one 3 .i64 Try.underlying3 #[.int .i64 p, .int .i64 s, .int .i64 b, .int .i64 e] 1 _ rfl w
  have h2 := run_part_one 3 .i64 Try.underlying3 #[.int .i64 p, .int .i64 s, .int .i64 b, .int .i64 e] 2 _ rfl w
  have h3 := run_part_one 3 .i64 Try.underlying3 #[.int .i64 p, .int .i64 s, .int .i64 b, .int .i64 e] 3 _ rfl w
  have he : ∀ x y : Int, (Op.equalIn 9999 3 (.int .i64 x) (.int .i64 y)).run Try.prog w = .ok (x == y) w := fun x y => run_eq_i64 9998 x y w
  rw [run_equalIn_agg w 9999 _ _ _ hf (by kernel_rfl)]
  simp only [Program.fieldsOf, Try.underlying74]
  have hn : ∀ s : String, (s = "Counter" ∨ s = "Tx" ∨ s = "Up" ∨ s = "Down") → s ≠ "_" := by
    intro s hs e
    subst e
    rcases hs with hs | hs | hs | hs <;> exact absurd hs (by decide)
  simp only [Op.eqFields]
  rw [if_pos (hn _ (.inl rfl)), if_pos (hn _ (.inr (.inl rfl))), if_pos (hn _ (.inr (.inr (.inl rfl)))), if_pos (hn _ (.inr (.inr (.inr rfl))))]
  clear hn hf
  simp [Sem.run_bind, h0, h1, h2, h3, Result.andThen_ok, he]
theorem run_pd_neq (p s b e : Int) (w : World) : (binOp .neq 74 (.agg #[.int .i64 p, .int .i64 s, .int .i64 b, .int .i64 e]) (.agg #[.int .i64 p, .int .i64 s, .int .i64 b, .int .i64 e])).run Try.prog w = .ok (.bool false) w := by
  simp only [binOp]
  simp [Op.equal, Op.maxDepth, run_pd_in p s b e w]
theorem run_pd_guard (op : BinOp) (x y : Operand) (s t : Array Value) (w : World) : (eqGuard op 74 x y (.agg s) (.agg t)).run Try.prog w = .ok () w :=
  run_eqGuard_agg (P := Try.prog) w _ _ _ _ _ _ (by kernel_rfl)
theorem run_ct_in (p s b : Int) (w : World) : (Op.equalIn 10000 72 (.agg #[.int .i64 p, .int .i64 s, .int .i64 b]) (.agg #[.int .i64 p, .int .i64 s, .int .i64 b])).run Try.prog w = .ok true w := by
  have hf : Try.prog.underlying 72 = some (.struct (Try.prog.fieldsOf 72)) := by kernel_rfl
  have h0 := run_part_one 3 .i64 Try.underlying3 #[.int .i64 p, .int .i64 s, .int .i64 b] 0 _ rfl w
  have h1 := run_part_one 3 .i64 Try.underlying3 #[.int .i64 p, .int .i64 s, .int .i64 b] 1 _ rfl w
  have h2 := run_part_one 3 .i64 Try.underlying3 #[.int .i64 p, .int .i64 s, .int .i64 b] 2 _ rfl w
  have he : ∀ x y : Int, (Op.equalIn 9999 3 (.int .i64 x) (.int .i64 y)).run Try.prog w = .ok (x == y) w := fun x y => run_eq_i64 9998 x y w
  rw [run_equalIn_agg w 9999 _ _ _ hf (by kernel_rfl)]
  simp only [Program.fieldsOf, Try.underlying72]
  have hn : ∀ s : String, (s = "Lo" ∨ s = "Hi" ∨ s = "Value") → s ≠ "_" := by
    intro s hs e
    subst e
    rcases hs with hs | hs | hs <;> exact absurd hs (by decide)
  simp only [Op.eqFields]
  rw [if_pos (hn _ (.inl rfl)), if_pos (hn _ (.inr (.inl rfl))), if_pos (hn _ (.inr (.inr rfl)))]
  clear hn hf
  simp [Sem.run_bind, h0, h1, h2, Result.andThen_ok, he]
theorem run_ct_neq (p s b : Int) (w : World) : (binOp .neq 72 (.agg #[.int .i64 p, .int .i64 s, .int .i64 b]) (.agg #[.int .i64 p, .int .i64 s, .int .i64 b])).run Try.prog w = .ok (.bool false) w := by
  simp only [binOp]
  simp [Op.equal, Op.maxDepth, run_ct_in p s b w]
theorem run_ct_guard (op : BinOp) (x y : Operand) (s t : Array Value) (w : World) : (eqGuard op 72 x y (.agg s) (.agg t)).run Try.prog w = .ok () w :=
  run_eqGuard_agg (P := Try.prog) w _ _ _ _ _ _ (by kernel_rfl)

set_option maxHeartbeats 1000000 in
theorem samep_any (A B : Option Addr) (n a b : Nat) (l : List Pd) (hn : l.length = n) (hm : n ≤ 3000) (w : World) (hA : RPr.At w A l) (hB : RPr.At w B l) :
    Calls Try.prog 22 #[.slice A n a, .slice B n b] w fun e w' => e = .returned (.bool true) ∧ Below w.heap.size w w' := by
  have HN := Lib.hid hn
  have HA := Lib.hid hA
  have HB := Lib.hid hB
  clear hn hA hB
  have hneq := run_pd_neq
  have hgu := run_pd_guard
  go_enter Try.func22, Try.ntmps22
  go_wp2_with fail
  go_loopw [5] (fun u wr => ∃ j : Nat, u = .int .i64 (j : Int) ∧ j ≤ n ∧ Hid (Below w.heap.size w wr)) (fun u _ => n - (intOf u).toNat)
  case atStart => exact ⟨0, rfl, Nat.zero_le _, Lib.hid (Below.refl _ _)⟩
  case round =>
    obtain ⟨j, rfl, hj, HW⟩ := hrel
    rcases Nat.lt_or_ge j n with hlt | hge
    · obtain ⟨b1, o1, e1, hb1, hget, h0, h1, h2, h3⟩ := pd_cells HA.out HN.out hlt
      obtain ⟨b2, o2, e2, hb2, _, g0, g1, g2, g3⟩ := pd_cells HB.out HN.out hlt
      subst e1
      subst e2
      generalize l.getD j pdD = p at *
      obtain ⟨pc, px, u, d⟩ := p
      simp only at h0 h1 h2 h3 g0 g1 g2 g3
      have k0 := (HW.out.cell (p := ⟨b1, o1 + j * 4, none⟩) hb1).trans h0
      have k1 := (HW.out.cell (p := ⟨b1, o1 + j * 4 + 1, none⟩) hb1).trans h1
      have k2 := (HW.out.cell (p := ⟨b1, o1 + j * 4 + 2, none⟩) hb1).trans h2
      have k3 := (HW.out.cell (p := ⟨b1, o1 + j * 4 + 3, none⟩) hb1).trans h3
      have m0 := (HW.out.cell (p := ⟨b2, o2 + j * 4, none⟩) hb2).trans g0
      have m1 := (HW.out.cell (p := ⟨b2, o2 + j * 4 + 1, none⟩) hb2).trans g1
      have m2 := (HW.out.cell (p := ⟨b2, o2 + j * 4 + 2, none⟩) hb2).trans g2
      have m3 := (HW.out.cell (p := ⟨b2, o2 + j * 4 + 3, none⟩) hb2).trans g3
      have hd4 : decide ((j : Int) < (n : Int)) = true := decide_eq_true (by omega)
      have hd5 : decide (j < n) = true := decide_eq_true hlt
      have hi1 : (j : Int) < (n : Int) := by omega
      clear h0 h1 h2 h3 g0 g1 g2 g3 hb1 hb2 hget
      go_wp2_with fail
      go_quiet (fail)
      go_wp2_with fail
      exact ⟨⟨j + 1, rfl, hlt, Lib.hid (below_drewN HW.out _)⟩, by simp [intOf]; omega⟩
    · obtain rfl : j = n := by omega
      have hd4 : decide ((j : Int) < (j : Int)) = false := decide_eq_false (by omega)
      have hd5 : decide (j < j) = false := decide_eq_false (by omega)
      go_wp2_with fail
      go_ret
      exact ⟨rfl, HW.out⟩

set_option maxHeartbeats 1000000 in
theorem same13_any (A B A' B' : Option Addr) (n a m b a' b' : Nat) (t : Tb) (hn : n ≤ 3000) (hm : m ≤ 3000) (w : World) (ht : TbAt w A n B m t) (hs : TbAt w A' n B' m t) :
    Calls Try.prog 13 #[tbV A n a B m b, tbV A' n a' B' m b'] w fun e w' => e = .returned (.bool true) ∧ Below w.heap.size w w' := by
  have HT := Lib.hid ht
  have HS := Lib.hid hs
  have HX := Lib.hid ((Bk.new w (tbC A n a B m b) 25).al (.cells (tbC A' n a' B' m b') 25))
  have HY := Bk.new (w.alloc (.cells (tbC A n a B m b) 25)) (tbC A' n a' B' m b') 25
  rw [size_al] at HY
  have HY := Lib.hid HY
  have HB := Lib.hid (below_two (below_new w (.cells (tbC A n a B m b) 25)) (below_new _ (.cells (tbC A' n a' B' m b') 25)))
  have hsp := fun V hV => samep_any B B' m b b' t.P HT.out.pl hm V (HT.out.below hV).atP (HS.out.below hV).atP
  have hneq := run_ct_neq
  have hgu := run_ct_guard
  have x0 := HX.out.t0
  have x1 := HX.out.t1
  have y0 := HY.out.t0
  have y1 := HY.out.t1
  clear ht hs
  go_enter Try.func13, Try.ntmps13
  go_wp2_with fail
  refine (hsp _ HB.out).mono ?_
  rintro e w1 ⟨rfl, hb⟩
  replace HX := Lib.hid (HX.out.below hb)
  replace HY := Lib.hid (HY.out.below hb)
  replace HB := Lib.hid (HB.out.trans (hb.mono HB.out.size))
  clear hb hsp x0 x1 y0 y1
  go_wp2_with fail
  go_loopw [5] (fun u wr => ∃ j : Nat, u = .int .i64 (j : Int) ∧ j ≤ n ∧ Hid (Below w.heap.size w wr) ∧ Hid (Bk wr w.heap.size (tbC A n a B m b) 25) ∧ Hid (Bk wr (w.heap.size + 1) (tbC A' n a' B' m b') 25)) (fun u _ => n - (intOf u).toNat)
  case atStart => exact ⟨0, rfl, Nat.zero_le _, HB, HX, HY⟩
  case round =>
    obtain ⟨j, rfl, hj, HW, HXj, HYj⟩ := hrel
    have x0 := HXj.out.t0
    have y0 := HYj.out.t0
    rcases Nat.lt_or_ge j n with hlt | hge
    · obtain ⟨b1, o1, e1, hb1, _, h0, h1, h2⟩ := HT.out.c hlt
      obtain ⟨b2, o2, e2, hb2, _, g0, g1, g2⟩ := HS.out.c hlt
      subst e1
      subst e2
      generalize t.C.getD j ctD = p at *
      obtain ⟨lo, hi, v⟩ := p
      simp only at h0 h1 h2 g0 g1 g2
      have k0 := (HW.out.cell (p := ⟨b1, o1 + j * 3, none⟩) hb1).trans h0
      have k1 := (HW.out.cell (p := ⟨b1, o1 + j * 3 + 1, none⟩) hb1).trans h1
      have k2 := (HW.out.cell (p := ⟨b1, o1 + j * 3 + 2, none⟩) hb1).trans h2
      have m0 := (HW.out.cell (p := ⟨b2, o2 + j * 3, none⟩) hb2).trans g0
      have m1 := (HW.out.cell (p := ⟨b2, o2 + j * 3 + 1, none⟩) hb2).trans g1
      have m2 := (HW.out.cell (p := ⟨b2, o2 + j * 3 + 2, none⟩) hb2).trans g2
      have hd4 : decide ((j : Int) < (n : Int)) = true := decide_eq_true (by omega)
      have hd5 : decide (j < n) = true := decide_eq_true hlt
      have hi1 : (j : Int) < (n : Int) := by omega
      clear h0 h1 h2 g0 g1 g2 hb1 hb2
      go_wp2_with fail
      go_quiet (fail)
      go_wp2_with fail
      exact ⟨⟨j + 1, rfl, hlt, Lib.hid (below_drewN HW.out _), Lib.hid (HXj.out.below (below_drewN (Below.refl _ _) _)), Lib.hid (HYj.out.below (below_drewN (Below.refl _ _) _))⟩, by simp [intOf]; omega⟩
    · obtain rfl : j = n := by omega
      have hd4 : decide ((j : Int) < (j : Int)) = false := decide_eq_false (by omega)
      have hd5 : decide (j < j) = false := decide_eq_false (by omega)
      go_wp2_with fail
      go_ret
      exact ⟨rfl, HW.out⟩
end Go.Proofs.Ytogngghfdcpeaaa
