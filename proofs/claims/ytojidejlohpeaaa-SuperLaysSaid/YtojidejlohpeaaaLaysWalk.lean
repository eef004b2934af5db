/-
  SuperLays: the walk: blocks, counters and the log lie one behind the other, apart; as many sectors as they need.
-/
import Derived.Test.YtojidejlohpeaaaWake8
import Derived.Test.YtojidejlohpeaaaIn7
namespace Go.Proofs.Ytojidejlohpeaaa
set_option maxRecDepth 100000
open Go.RowKit Crc Wm Sup

theorem zero_not : ¬ Sup.zero.May := by unfold Sup.zero Sup.May; decide

set_option maxHeartbeats 2000000 in
theorem lays_walk (x y z : Int) (w : World) : Calls Try.prog 7 #[.int .i64 x, .int .i64 y, .int .i64 z] w fun e w' => e = .returned (.bool true) ∧ Below w.heap.size w w' := by
  obtain ⟨b, hb, hx⟩ := low x 255 8 (by decide) (by omega)
  obtain ⟨c, hc, hy⟩ := low y 63 6 (by decide) (by omega)
  obtain ⟨l, hl, hz⟩ := low z 1023 10 (by decide) (by omega)
  have hm : (⟨0, 0, (b : Int), (c : Int), 1 + (l : Int), 0, 0⟩ : Sup).May := may_mk (by omega) (by omega) (by omega) (by omega) (by omega) (by omega) (by omega)
  obtain ⟨n, hn⟩ : ∃ n : Nat, ((c : Int) + 2) / 3 = (n : Int) := ⟨(c + 2) / 3, by omega⟩
  have hn1 : c ≤ 3 * n := by omega
  have hn2 : 3 * n < c + 3 := by omega
  have hlv := layV_yes hm
  simp only [hn] at hlv
  have HLV := Lib.hid hlv
  have HLZ := Lib.hid (layV_no zero_not)
  clear hlv hm hn
  go_enter Try.func7, Try.ntmps7
  go_wp2_with fail
  refine (awake_any w).mono ?_
  rintro e w1 ⟨rfl, hb1⟩
  have HB1 := Lib.hid hb1
  clear hb1
  go_wp2_with fail
  have hs1 : SupAt (w1.alloc (.cells (supC ⟨0, 0, (b : Int), (c : Int), 1 + (l : Int), 0, 0⟩) 29)) w1.heap.size 29 ⟨0, 0, (b : Int), (c : Int), 1 + (l : Int), 0, 0⟩ := heap_alloc_new w1 _
  have hb2 := below_new w1 (.cells (supC ⟨0, 0, (b : Int), (c : Int), 1 + (l : Int), 0, 0⟩) 29)
  refine (layout_any _ ⟨0, 0, (b : Int), (c : Int), 1 + (l : Int), 0, 0⟩).mono ?_
  rintro e w2 ⟨rfl, hb3⟩
  rw [HLV.out]
  have HS2 := Lib.hid (hs1.below hb3)
  have HB2 := Lib.hid (HB1.out.trans ((below_two hb2 hb3).mono HB1.out.size))
  clear hs1 hb2 hb3 HB1
  go_wp2_with fail
  refine (layout_any w2 Sup.zero).mono ?_
  rintro e w3 ⟨rfl, hb3⟩
  rw [HLZ.out]
  have hs3 := HS2.out.below hb3
  have c2 : w3.cell? ⟨w1.heap.size, 2, none⟩ = some (.int .i64 (b : Int)) := hs3.cell (i := 2) (by omega)
  have c3 : w3.cell? ⟨w1.heap.size, 3, none⟩ = some (.int .i64 (c : Int)) := hs3.cell (i := 3) (by omega)
  have c4 : w3.cell? ⟨w1.heap.size, 4, none⟩ = some (.int .i64 (1 + (l : Int))) := hs3.cell (i := 4) (by omega)
  have HB3 := Lib.hid (HB2.out.trans (hb3.mono HB2.out.size))
  clear hs3 hb3 HB2 HS2 HLV HLZ
  have t1 : ((2 : Int) + (b : Int) - 2 == (b : Int)) = true := beq_iff_eq.2 (by omega)
  have t2 : decide ((c : Int) ≤ 3 * (2 + (b : Int) + (n : Int) - (2 + (b : Int)))) = true := decide_eq_true (by omega)
  have t3 : decide (3 * (2 + (b : Int) + (n : Int) - (2 + (b : Int))) < (c : Int) + 3) = true := decide_eq_true (by omega)
  have t4 : ((2 : Int) + (b : Int) + (n : Int) + (1 + (l : Int)) - (2 + (b : Int) + (n : Int)) == 1 + (l : Int)) = true := beq_iff_eq.2 (by omega)
  go_wp2_with fail
  go_ret
  exact ⟨rfl, HB3.out⟩

end Go.Proofs.Ytojidejlohpeaaa
