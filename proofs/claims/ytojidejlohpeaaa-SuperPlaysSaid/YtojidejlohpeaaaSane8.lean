/-
  A super in memory; the list of its numbers, and whether any may be: the program's answer and the document's.
-/
import Derived.Test.YtojidejlohpeaaaSp
import Derived.Test.YtojidejlohpeaaaBase
import Derived.Test.YtojidejlohpeaaaWireA
import Derived.BigRegion
import Derived.BigQuiet
import Derived.LoopTactic
import Derived.Deep.QuietTactic
import Derived.Deep.CutRange
namespace Go.Proofs.Ytojidejlohpeaaa
set_option maxRecDepth 100000
open Go.RowKit Crc Wm Sup

/-- a super as Go has it, and in a block -/
def supC (s : Sup) : Array Value := #[.int .i64 s.V, .int .i64 s.E, .int .i64 s.B, .int .i64 s.C, .int .i64 s.L, .int .i64 s.H, .int .i64 s.A]
def supV (s : Sup) : Value := .agg (supC s)
theorem supC_at (s : Sup) (i : Nat) (h : i < 7) : (supC s)[i]? = some (.int .i64 (s.at_ i)) := by
  rcases i with _ | _ | _ | _ | _ | _ | _ | i <;> first | omega | simp [supC, at_]

/-- the list of its numbers: where each stands, its bounds, how many bytes it has -/
def fieldC (g : Nat) : Array Value :=
  #[.pointer (some ⟨g, 0, none⟩), .int .i64 0, .int .i64 281474976710656, .int .i64 8, .pointer (some ⟨g, 1, none⟩), .int .i64 0, .int .i64 4294967295, .int .i64 4, .pointer (some ⟨g, 2, none⟩), .int .i64 0, .int .i64 256, .int .i64 2,
    .pointer (some ⟨g, 3, none⟩), .int .i64 0, .int .i64 64, .int .i64 2, .pointer (some ⟨g, 4, none⟩), .int .i64 1, .int .i64 4096, .int .i64 2, .pointer (some ⟨g, 5, none⟩), .int .i64 0, .int .i64 1099511627776, .int .i64 8, .pointer (some ⟨g, 6, none⟩), .int .i64 0, .int .i64 1099511627776, .int .i64 8]
theorem fieldC_at (g i : Nat) (h : i < 7) : (fieldC g)[i * 4]? = some (.pointer (some ⟨g, i, none⟩)) ∧ (fieldC g)[i * 4 + 1]? = some (.int .i64 (lo i)) ∧ (fieldC g)[i * 4 + 2]? = some (.int .i64 (hi i)) ∧ (fieldC g)[i * 4 + 3]? = some (.int .i64 (sz i : Int)) := by
  rcases i with _ | _ | _ | _ | _ | _ | _ | i <;> first | omega | exact ⟨rfl, rfl, rfl, rfl⟩

/-- the list lies in block q -/
def Flds (W : World) (q g : Nat) : Prop := W.heap[q]? = some (.cells (fieldC g) 75 (0, 0))
theorem Flds.cell {W : World} {q g : Nat} (h : Flds W q g) {i : Nat} (hi : i < 7) : W.cell? ⟨q, i * 4, none⟩ = some (.pointer (some ⟨g, i, none⟩)) ∧ W.cell? ⟨q, i * 4 + 1, none⟩ = some (.int .i64 (lo i)) ∧ W.cell? ⟨q, i * 4 + 2, none⟩ = some (.int .i64 (Sup.hi i)) ∧ W.cell? ⟨q, i * 4 + 3, none⟩ = some (.int .i64 (sz i : Int)) := by
  obtain ⟨h0, h1, h2, h3⟩ := fieldC_at g i hi
  exact ⟨(cell_of_row _ _ _ _ _ _ h).trans h0, (cell_of_row _ _ _ _ _ _ h).trans h1, (cell_of_row _ _ _ _ _ _ h).trans h2, (cell_of_row _ _ _ _ _ _ h).trans h3⟩

set_option maxHeartbeats 1000000 in
theorem fields_any (w : World) (g : Nat) : Calls Try.prog 38 #[.pointer (some ⟨g, 0, none⟩)] w fun e w' => ∃ q, e = .returned (.slice (some ⟨q, 0, none⟩) 7 7) ∧ Flds w' q g ∧ Below w.heap.size w w' ∧ w.heap.size ≤ q := by
  go_enter Try.func38, Try.ntmps38
  go_wp2
  go_region
  go_wp2
  go_ret
  exact ⟨_, rfl, heap_alloc_new _ _, by first | exact (Below.refl _ _).alloc (Nat.le_refl _) _ | exact ((Below.refl _ _).drew).alloc (Nat.le_refl _) _, by first | exact Nat.le_refl _ | simp⟩

/-- a super lies in block g -/
def SupAt (W : World) (g : Nat) (t : TypeId) (s : Sup) : Prop := W.heap[g]? = some (.cells (supC s) t (0, 0))
theorem SupAt.cell {W : World} {g : Nat} {t : TypeId} {s : Sup} (h : SupAt W g t s) {i : Nat} (hi : i < 7) : W.cell? ⟨g, i, none⟩ = some (.int .i64 (s.at_ i)) := (cell_of_row _ _ _ _ _ _ h).trans (supC_at s i hi)


/-- below all blocks of before, as it was -/
theorem SupAt.below {W V : World} {g : Nat} {t : TypeId} {s : Sup} (h : SupAt W g t s) (hb : Below W.heap.size W V) : SupAt V g t s := (hb.block g (lt_of_block h)).trans h
theorem Flds.below {W V : World} {q g : Nat} (h : Flds W q g) (hb : Below W.heap.size W V) : Flds V q g := (hb.block q (lt_of_block h)).trans h

/-- the cells of one number's row, in a block of its own -/
theorem row_cells (w : World) (a b c d : Value) : (w.alloc (.cells #[a, b, c, d] 75)).cell? ⟨w.heap.size, 0, none⟩ = some a ∧ (w.alloc (.cells #[a, b, c, d] 75)).cell? ⟨w.heap.size, 1, none⟩ = some b ∧
    (w.alloc (.cells #[a, b, c, d] 75)).cell? ⟨w.heap.size, 2, none⟩ = some c ∧ (w.alloc (.cells #[a, b, c, d] 75)).cell? ⟨w.heap.size, 3, none⟩ = some d := by
  refine ⟨?_, ?_, ?_, ?_⟩ <;> (rw [cell_of_row _ _ _ _ _ _ (heap_alloc_new w _)]; rfl)

set_option maxHeartbeats 1000000 in
theorem sane_any (w : World) (s : Sup) : Calls Try.prog 18 #[supV s] w fun e w' => e = .returned (.bool (decide s.May)) ∧ Below w.heap.size w w' := by
  have hs0 : SupAt (w.alloc (.cells (supC s) 29)) w.heap.size 29 s := heap_alloc_new w _
  have hb0 := below_new w (.cells (supC s) 29)
  unfold supV
  obtain ⟨C, hC⟩ : ∃ C, C = supC s := ⟨_, rfl⟩
  rw [← hC] at hs0 hb0 ⊢
  clear hC
  have HS0 := Lib.hid hs0
  have HB0 := Lib.hid hb0
  clear hs0 hb0
  go_enter Try.func18, Try.ntmps18
  go_wp2_with fail
  generalize w.alloc (.cells C 29) = w0 at *
  refine (fields_any w0 w.heap.size).mono ?_
  rintro e w1 ⟨q, rfl, hf1, hb1, hq1⟩
  have HS1 := Lib.hid (HS0.out.below hb1)
  have HF1 := Lib.hid hf1
  have HB1 := Lib.hid (HB0.out.trans (hb1.mono HB0.out.size))
  clear hf1 hb1 hq1 HS0 HB0
  go_wp2_with fail
  go_loopw [7] (fun u wr => ∃ j : Nat, u = .int .i64 (j : Int) ∧ j ≤ 7 ∧ Hid (s.okTo j) ∧ Hid (Below w1.heap.size w1 wr)) (fun u _ => 7 - (intOf u).toNat)
  case atStart => exact ⟨0, rfl, by omega, okTo_zero s, Below.refl _ _⟩
  case round =>
    obtain ⟨j, rfl, hj, HOK, HBR⟩ := hrel
    rcases Nat.lt_or_ge j 7 with hlt | hge
    · obtain ⟨k0, k1, k2, k3⟩ := (HF1.out.below HBR.out).cell hlt
      have ks := (HS1.out.below HBR.out).cell hlt
      have hks : w.heap.size < wr.heap.size := lt_of_block (HS1.out.below HBR.out)
      have HNX := Lib.hid (okTo_succ (s := s) (n := j))
      have HALL := Lib.hid (fun h : s.May => okTo_all.2 h j hlt)
      generalize s.at_ j = x at *
      generalize lo j = a at *
      generalize Sup.hi j = b at *
      generalize ((sz j : Nat) : Int) = z at *
      have hdj : decide ((j : Int) < 7) = true := decide_eq_true (by omega)
      go_upto_region 4 with fail
      obtain ⟨d0, d1, d2, d3⟩ := row_cells wr (.pointer (some ⟨w.heap.size, j, none⟩)) (.int .i64 a) (.int .i64 b) (.int .i64 z)
      have ds := (World.cell?_alloc_lt wr (.cells #[.pointer (some ⟨w.heap.size, j, none⟩), .int .i64 a, .int .i64 b, .int .i64 z] 75) ⟨w.heap.size, j, none⟩ hks).trans ks
      have HB2 := Lib.hid (HBR.out.alloc HBR.out.size (.cells #[.pointer (some ⟨w.heap.size, j, none⟩), .int .i64 a, .int .i64 b, .int .i64 z] 75))
      generalize wr.alloc (.cells #[.pointer (some ⟨w.heap.size, j, none⟩), .int .i64 a, .int .i64 b, .int .i64 z] 75) = W0 at *
      clear k0 k1 k2 k3 ks hks HBR
      generalize wr.heap.size = y at *
      by_cases h1 : x < a
      · have e1 : decide (x < a) = true := decide_eq_true h1
        go_quiet (fail)
        go_wp2_with fail
        go_ret
        exact ⟨by rw [decide_eq_false (fun h => by have := HALL.out h; omega)]; rfl, HB1.out.trans ((below_drewN HB2.out _).mono HB1.out.size)⟩
      · have e1 : decide (x < a) = false := decide_eq_false h1
        by_cases h2 : b < x
        · have e2 : decide (b < x) = true := decide_eq_true h2
          go_quiet (fail)
          go_wp2_with fail
          go_ret
          exact ⟨by rw [decide_eq_false (fun h => by have := HALL.out h; omega)]; rfl, HB1.out.trans ((below_drewN HB2.out _).mono HB1.out.size)⟩
        · have e2 : decide (b < x) = false := decide_eq_false h2
          have HOK2 : Hid (s.okTo (j + 1)) := Lib.hid (HNX.out.2 ⟨HOK.out, by omega, by omega⟩)
          clear HNX HALL
          go_quiet (fail)
          go_wp2_with fail
          go_roundw
          case rel => exact ⟨j + 1, by go_num, by omega, HOK2, below_drewN HB2.out _⟩
          case measure => simp [intOf]; omega
    · obtain rfl : j = 7 := by omega
      go_wp2_with fail
      go_ret
      exact ⟨by rw [decide_eq_true (okTo_all.1 HOK.out)]; rfl, HB1.out.trans (HBR.out.mono HB1.out.size)⟩

end Go.Proofs.Ytojidejlohpeaaa
