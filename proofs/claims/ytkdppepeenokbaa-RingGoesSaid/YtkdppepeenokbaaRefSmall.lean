/-
  The document's small calls on a ring: Used, Free, Sector, Holds: the same plain answers.
-/
import Derived.Test.YtkdppepeenokbaaSmall
namespace Go.Proofs.Ytkdppepeenokbaa
open Go.RowKit

theorem refused_any (r : Rg) : Says 18 #[rgV r] (.int .i64 r.used) := by
  intro w
  have hs := refsane_any r
  have hu : r.used = if r.sane = true then r.T - r.H else 0 := rfl
  have hw : r.sane = true → IntKind.i64.wrap (r.T - r.H) = r.T - r.H := fun h => by
    have ok := Rg.ok h
    have := ok.h0
    have := ok.ht
    have := ok.t1
    rw [IntKind.wrap_i64]
    omega
  have HX := Lib.hid (Bx.new w r 23)
  have HB := Lib.hid (below_new w (.cells (rgC r) 23))
  have HW := Lib.hid hw
  have HU := Lib.hid hu
  clear hw hu
  obtain ⟨F, S, H, T⟩ := r
  go_enter Try.func18, Try.ntmps18
  go_wp2_with fail
  refine (hs _).mono ?_
  rintro e w1 ⟨rfl, hb1⟩
  have HX1 := Lib.hid (HX.out.below hb1)
  have HB1 := Lib.hid (below_two HB.out hb1)
  clear hb1 HX HB hs
  have c2 := HX1.out.c2
  have c3 := HX1.out.c3
  generalize (Rg.mk F S H T).sane = b at *
  cases b with
  | false =>
    go_wp2_with fail
    go_ret
    exact ⟨by rw [HU.out]; rfl, HB1.out⟩
  | true =>
    have hw := HW.out rfl
    go_wp2_with fail
    go_ret
    exact ⟨by rw [HU.out]; rfl, HB1.out⟩

theorem reffree_any (r : Rg) : Says 20 #[rgV r] (.int .i64 r.free) := by
  intro w
  have hs := refsane_any r
  have hu : r.free = if r.sane = true then r.S - (r.T - r.H) else 0 := rfl
  have hw : r.sane = true → IntKind.i64.wrap (r.T - r.H) = r.T - r.H ∧ IntKind.i64.wrap (r.S - (r.T - r.H)) = r.S - (r.T - r.H) := fun h => by
    have ok := Rg.ok h
    have := ok.h0
    have := ok.ht
    have := ok.t1
    have := ok.s0
    have := ok.s1
    have := ok.u1
    rw [IntKind.wrap_i64, IntKind.wrap_i64]
    omega
  have HX := Lib.hid (Bx.new w r 23)
  have HB := Lib.hid (below_new w (.cells (rgC r) 23))
  have HW := Lib.hid hw
  have HU := Lib.hid hu
  clear hw hu
  obtain ⟨F, S, H, T⟩ := r
  go_enter Try.func20, Try.ntmps20
  go_wp2_with fail
  refine (hs _).mono ?_
  rintro e w1 ⟨rfl, hb1⟩
  have HX1 := Lib.hid (HX.out.below hb1)
  have HB1 := Lib.hid (below_two HB.out hb1)
  clear hb1 HX HB hs
  have c1 := HX1.out.c1
  have c2 := HX1.out.c2
  have c3 := HX1.out.c3
  generalize (Rg.mk F S H T).sane = b at *
  cases b with
  | false =>
    go_wp2_with fail
    go_ret
    exact ⟨by rw [HU.out]; rfl, HB1.out⟩
  | true =>
    obtain ⟨hw1, hw2⟩ := HW.out rfl
    go_wp2_with fail
    go_ret
    exact ⟨by rw [HU.out]; rfl, HB1.out⟩

theorem refholds_any (r : Rg) (at_ : Int) : Says 24 #[rgV r, .int .i64 at_] (.bool (r.holds at_)) := by
  intro w
  have hs := refsane_any r
  have HU : Hid (r.holds at_ = (r.sane && (decide (r.H ≤ at_) && decide (at_ < r.T)))) := rfl
  have HX := Lib.hid (Bx.new w r 23)
  have HB := Lib.hid (below_new w (.cells (rgC r) 23))
  obtain ⟨F, S, H, T⟩ := r
  go_enter Try.func24, Try.ntmps24
  go_wp2_with fail
  refine (hs _).mono ?_
  rintro e w1 ⟨rfl, hb1⟩
  have HX1 := Lib.hid (HX.out.below hb1)
  have HB1 := Lib.hid (below_two HB.out hb1)
  clear hb1 HX HB hs
  have c2 := HX1.out.c2
  have c3 := HX1.out.c3
  generalize (Rg.mk F S H T).sane = b at *
  cases b with
  | false =>
    go_wp2_with fail
    go_ret
    exact ⟨by rw [HU.out]; rfl, HB1.out⟩
  | true =>
    go_wp2_with fail
    all_goals
      go_ret
      refine ⟨?_, HB1.out⟩
      rw [HU.out]
      first
        | (simp [*]; done)
        | (simp [*]; omega)

set_option maxHeartbeats 1000000 in
theorem refsector_any (r : Rg) (at_ : Int) : Says 22 #[rgV r, .int .i64 at_] (.int .i64 (r.sector at_)) := by
  intro w
  have hs := refsane_any r
  have HU : Hid (r.sector at_ = if (r.sane && (decide (0 ≤ at_) && decide (at_ ≤ 2199023255552))) = true then r.F + at_ % r.S else -1) := rfl
  have HW : Hid (r.sane = true → 0 ≤ at_ → at_ ≤ 2199023255552 → 0 < r.S ∧ IntKind.i64.wrap (r.F + at_ % r.S) = r.F + at_ % r.S) := fun h h1 h2 => by
    have ok := Rg.ok h
    have := ok.f0
    have := ok.f1
    have := ok.s0
    have := ok.s1
    have := Int.emod_nonneg at_ (b := r.S) (by omega)
    have := Int.emod_lt_of_pos at_ (b := r.S) (by omega)
    refine ⟨by omega, ?_⟩
    rw [IntKind.wrap_i64]
    omega
  have HX := Lib.hid (Bx.new w r 23)
  have HB := Lib.hid (below_new w (.cells (rgC r) 23))
  obtain ⟨F, S, H, T⟩ := r
  go_enter Try.func22, Try.ntmps22
  go_wp2_with fail
  refine (hs _).mono ?_
  rintro e w1 ⟨rfl, hb1⟩
  have HX1 := Lib.hid (HX.out.below hb1)
  have HB1 := Lib.hid (below_two HB.out hb1)
  clear hb1 HX HB hs
  have c0 := HX1.out.c0
  have c1 := HX1.out.c1
  generalize (Rg.mk F S H T).sane = b at *
  cases b with
  | false =>
    go_wp2_with fail
    go_ret
    exact ⟨by rw [HU.out]; rfl, HB1.out⟩
  | true =>
    rcases Int.lt_or_le at_ 0 with hneg | hpos
    · have hd : decide (at_ < 0) = true := decide_eq_true hneg
      go_wp2_with fail
      go_ret
      exact ⟨by rw [HU.out, decide_eq_false (p := 0 ≤ at_) (by omega)]; rfl, HB1.out⟩
    · have hd : decide (at_ < 0) = false := decide_eq_false (by omega)
      rcases Int.lt_or_le 2199023255552 at_ with hgt | hle
      · have hd2 : decide (at_ > 2199023255552) = true := decide_eq_true hgt
        go_wp2_with fail
        go_ret
        exact ⟨by rw [HU.out, decide_eq_true (p := 0 ≤ at_) hpos, decide_eq_false (p := at_ ≤ 2199023255552) (by omega)]; rfl, HB1.out⟩
      · have hd2 : decide (at_ > 2199023255552) = false := decide_eq_false (by omega)
        obtain ⟨h2, h3⟩ := HW.out rfl hpos hle
        go_wp2_with fail
        go_quiet (fail)
        go_wp2_with fail
        go_ret
        exact ⟨by rw [HU.out, decide_eq_true (p := 0 ≤ at_) hpos, decide_eq_true (p := at_ ≤ 2199023255552) hle]; rfl, below_drewN HB1.out _⟩

end Go.Proofs.Ytkdppepeenokbaa
