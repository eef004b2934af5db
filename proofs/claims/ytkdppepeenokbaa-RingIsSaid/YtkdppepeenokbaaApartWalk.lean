/-
  RingApart: the walk: two places less than a ring's size apart stand in two sectors.
-/
import Derived.Test.YtkdppepeenokbaaLawWake
namespace Go.Proofs.Ytkdppepeenokbaa
open Go.RowKit

theorem sector_ok {r : Rg} {a : Int} (h : r.Ok) (h0 : 0 ≤ a) (h1 : a ≤ 2199023255552) : r.sector a = r.F + a % r.S := by
  unfold Rg.sector
  rw [if_pos (Rg.asked_iff.2 ⟨h, h0, h1⟩)]

/-- a ring of which nothing counts -/
theorem ok_new {F S : Int} (h1 : 0 ≤ F) (h2 : F ≤ 4096) (h3 : 1 ≤ S) (h4 : S ≤ 4096) : (Rg.mk F S 0 0).Ok :=
  ⟨h1, h2, h3, h4, Int.le_refl _, Int.le_refl _, by show (0 : Int) ≤ 1099511627776; decide, by show (0 : Int) - 0 ≤ S; omega⟩

/-- near places stand apart -/
theorem near {p d S : Int} (h0 : 0 ≤ d) (h1 : d < S) : (p % S = (p + d) % S) ↔ d = 0 := by
  constructor
  · intro h
    have h2 : (p + d - p) % S = 0 := Int.emod_eq_emod_iff_emod_sub_eq_zero.1 h.symm
    rw [show p + d - p = d from by omega, Int.emod_eq_of_lt h0 h1] at h2
    exact h2
  · rintro rfl
    rw [Int.add_zero]

set_option maxHeartbeats 2000000 in
set_option maxRecDepth 100000 in
theorem apart_walk (f0 s0 a0 b0 : Int) (w : World) : Calls Try.prog 4 #[.int .i64 f0, .int .i64 s0, .int .i64 a0, .int .i64 b0] w fun e w' => e = .returned (.bool true) ∧ Below w.heap.size w w' := by
  obtain ⟨F, hF, eF⟩ := low f0 1023 10 (by decide) (by omega)
  obtain ⟨s, hs, eS⟩ := low s0 255 8 (by decide) (by omega)
  obtain ⟨p, hp, eP⟩ := low a0 16777215 24 (by decide) (by omega)
  obtain ⟨b, hb, eB⟩ := low b0 65535 16 (by decide) (by omega)
  simp only [Nat.reducePow] at hF hs hp hb
  have ok : (Rg.mk F (1 + s) 0 0).Ok := ok_new (by omega) (by omega) (by omega) (by omega)
  obtain ⟨d, HD⟩ : ∃ d, Hid (d = (b : Int) % (1 + (s : Int))) := ⟨_, Lib.hid rfl⟩
  have hd0 : 0 ≤ d := by rw [HD.out]; exact Int.emod_nonneg _ (by omega)
  have hd1 : d < 1 + s := by rw [HD.out]; exact Int.emod_lt_of_pos _ (by omega)
  have hd := HD.out.symm
  obtain ⟨x, HX⟩ : ∃ x, Hid (x = (F : Int) + (p : Int) % (1 + (s : Int))) := ⟨_, Lib.hid rfl⟩
  obtain ⟨y, HY⟩ : ∃ y, Hid (y = (F : Int) + ((p : Int) + d) % (1 + (s : Int))) := ⟨_, Lib.hid rfl⟩
  have hx : (Rg.mk F (1 + s) 0 0).sector p = x := by rw [sector_ok ok (by omega) (by omega), HX.out]
  have hy : (Rg.mk F (1 + s) 0 0).sector (p + d) = y := by rw [sector_ok ok (by omega) (by omega), HY.out]
  have hz : (Rg.mk F (1 + s) 0 0).sector (p + (1 + s)) = x := by rw [sector_ok ok (by omega) (by omega), HX.out]; simp
  have hx0 : (F : Int) ≤ x ∧ x < F + (1 + s) := by
    have := Int.emod_nonneg (p : Int) (b := 1 + (s : Int)) (by omega)
    have := Int.emod_lt_of_pos (p : Int) (b := 1 + (s : Int)) (by omega)
    rw [HX.out]; omega
  have hy0 : (F : Int) ≤ y ∧ y < F + (1 + s) := by
    have := Int.emod_nonneg ((p : Int) + d) (b := 1 + (s : Int)) (by omega)
    have := Int.emod_lt_of_pos ((p : Int) + d) (b := 1 + (s : Int)) (by omega)
    rw [HY.out]; omega
  have hq : (x == y) = ((p : Int) == p + d) := by
    have := near (p := (p : Int)) (d := d) (S := 1 + (s : Int)) hd0 hd1
    rw [Bool.eq_iff_iff, beq_iff_eq, beq_iff_eq, HX.out, HY.out]
    omega
  have cx := sector_any ⟨F, 1 + s, 0, 0⟩ p
  have cy := sector_any ⟨F, 1 + s, 0, 0⟩ (p + d)
  have cz := sector_any ⟨F, 1 + s, 0, 0⟩ (p + (1 + s))
  rw [hx] at cx
  rw [hy] at cy
  rw [hz] at cz
  have HQ := Lib.hid hq
  clear hx hy hz ok hq
  go_enter Try.func4, Try.ntmps4
  go_wp2_with fail
  refine (awake_any w).mono ?_
  rintro e w0 ⟨rfl, hb0⟩
  have HB0 := Lib.hid (below_two hb0 (below_new w0 (.cells (rgC ⟨F, 1 + s, 0, 0⟩) 25)))
  have HR0 := Lib.hid (Bx.new w0 ⟨F, 1 + s, 0, 0⟩ 25)
  clear hb0
  go_wp2_with fail
  refine (cx _).mono ?_
  rintro e w1 ⟨rfl, hb1⟩
  have HB1 := Lib.hid (below_two HB0.out hb1)
  have HR1 := Lib.hid (HR0.out.below hb1)
  clear hb1 HB0 HR0 cx
  have x0 := HR1.out.c0
  have x1 := HR1.out.c1
  have x2 := HR1.out.c2
  have x3 := HR1.out.c3
  go_wp2_with fail
  refine (cy _).mono ?_
  rintro e w2 ⟨rfl, hb2⟩
  have HB2 := Lib.hid (below_two HB1.out hb2)
  have HR2 := Lib.hid (HR1.out.below hb2)
  clear hb2 HB1 HR1 cy x0 x1 x2 x3
  have x0 := HR2.out.c0
  have x1 := HR2.out.c1
  have x2 := HR2.out.c2
  have x3 := HR2.out.c3
  obtain ⟨hx1, hx2⟩ := hx0
  obtain ⟨hy1, hy2⟩ := hy0
  have g1 : decide (x ≥ (F : Int)) = true := decide_eq_true hx1
  have g2 : decide (x < (F : Int) + (1 + s)) = true := decide_eq_true hx2
  have g3 : decide (y ≥ (F : Int)) = true := decide_eq_true hy1
  have g4 : decide (y < (F : Int) + (1 + s)) = true := decide_eq_true hy2
  obtain ⟨t, ht⟩ : ∃ t, t = (x == y) := ⟨_, rfl⟩
  have ht2 : ((p : Int) == p + d) = t := by rw [ht, HQ.out]
  replace ht := ht.symm
  go_wp2_with fail
  refine (cz _).mono ?_
  rintro e w3 ⟨rfl, hb3⟩
  have HB3 := Lib.hid (below_two HB2.out hb3)
  clear hb3 HB2 HR2 cz x0 x1 x2 x3
  go_wp2_with fail
  go_ret
  exact ⟨rfl, HB3.out⟩

end Go.Proofs.Ytkdppepeenokbaa
