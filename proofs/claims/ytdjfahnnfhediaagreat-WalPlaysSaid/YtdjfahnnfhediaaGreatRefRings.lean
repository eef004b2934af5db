/-
  The document's small calls on a ring: Used, Free, Sector, Holds: the same plain answers.
-/
import Derived.Test.YtdjfahnnfhediaaGreatRingA
namespace Go.Proofs.YtdjfahnnfhediaaGreat
set_option maxRecDepth 100000
open Go.RowKit

theorem reffree_any (r : Rg) : Tells 72 #[rgV r] (.int .i64 r.free) := by
  intro w
  have hs := refsane_any r
  have hu : r.free = if r.sane = true then r.S - (r.T - r.H) else 0 := rfl
  have hw : r.sane = true → IntKind.i64.wrap (r.T - r.H) = r.T - r.H ∧ IntKind.i64.wrap (r.S - (r.T - r.H)) = r.S - (r.T - r.H) := fun h => by
    have ok := Rg.ok h
    have := ok.h0
    have := ok.ht
    have := ok.t1
    have := ok.s0
    have := ok.s1
    have := ok.u1
    rw [IntKind.wrap_i64, IntKind.wrap_i64]
    omega
  have HX := Lib.hid (Bx.new w r 69)
  have HB := Lib.hid (below_new w (.cells (rgC r) 69))
  have HW := Lib.hid hw
  have HU := Lib.hid hu
  clear hw hu
  obtain ⟨F, S, H, T⟩ := r
  go_enter Tryz.func72, Tryz.ntmps72
  go_wp2_with fail
  refine (hs _).mono ?_
  rintro e w1 ⟨rfl, hb1⟩
  have HX1 := Lib.hid (HX.out.below hb1)
  have HB1 := Lib.hid (below_two HB.out hb1)
  clear hb1 HX HB hs
  have c1 := HX1.out.c1
  have c2 := HX1.out.c2
  have c3 := HX1.out.c3
  generalize (Rg.mk F S H T).sane = b at *
  cases b with
  | false =>
    go_wp2_with fail
    go_ret
    exact ⟨by rw [HU.out]; rfl, HB1.out⟩
  | true =>
    obtain ⟨hw1, hw2⟩ := HW.out rfl
    go_wp2_with fail
    go_ret
    exact ⟨by rw [HU.out]; rfl, HB1.out⟩

set_option maxHeartbeats 1000000 in
theorem refsector_any (r : Rg) (at_ : Int) : Tells 53 #[rgV r, .int .i64 at_] (.int .i64 (r.sector at_)) := by
  intro w
  have hs := refsane_any r
  have HU : Hid (r.sector at_ = if (r.sane && (decide (0 ≤ at_) && decide (at_ ≤ 2199023255552))) = true then r.F + at_ % r.S else -1) := rfl
  have HW : Hid (r.sane = true → 0 ≤ at_ → at_ ≤ 2199023255552 → 0 < r.S ∧ IntKind.i64.wrap (r.F + at_ % r.S) = r.F + at_ % r.S) := fun h h1 h2 => by
    have ok := Rg.ok h
    have := ok.f0
    have := ok.f1
    have := ok.s0
    have := ok.s1
    have := Int.emod_nonneg at_ (b := r.S) (by omega)
    have := Int.emod_lt_of_pos at_ (b := r.S) (by omega)
    refine ⟨by omega, ?_⟩
    rw [IntKind.wrap_i64]
    omega
  have HX := Lib.hid (Bx.new w r 69)
  have HB := Lib.hid (below_new w (.cells (rgC r) 69))
  obtain ⟨F, S, H, T⟩ := r
  go_enter Tryz.func53, Tryz.ntmps53
  go_wp2_with fail
  refine (hs _).mono ?_
  rintro e w1 ⟨rfl, hb1⟩
  have HX1 := Lib.hid (HX.out.below hb1)
  have HB1 := Lib.hid (below_two HB.out hb1)
  clear hb1 HX HB hs
  have c0 := HX1.out.c0
  have c1 := HX1.out.c1
  generalize (Rg.mk F S H T).sane = b at *
  cases b with
  | false =>
    go_wp2_with fail
    go_ret
    exact ⟨by rw [HU.out]; rfl, HB1.out⟩
  | true =>
    rcases Int.lt_or_le at_ 0 with hneg | hpos
    · have hd : decide (at_ < 0) = true := decide_eq_true hneg
      go_wp2_with fail
      go_ret
      exact ⟨by rw [HU.out, decide_eq_false (p := 0 ≤ at_) (by omega)]; rfl, HB1.out⟩
    · have hd : decide (at_ < 0) = false := decide_eq_false (by omega)
      rcases Int.lt_or_le 2199023255552 at_ with hgt | hle
      · have hd2 : decide (at_ > 2199023255552) = true := decide_eq_true hgt
        go_wp2_with fail
        go_ret
        exact ⟨by rw [HU.out, decide_eq_true (p := 0 ≤ at_) hpos, decide_eq_false (p := at_ ≤ 2199023255552) (by omega)]; rfl, HB1.out⟩
      · have hd2 : decide (at_ > 2199023255552) = false := decide_eq_false (by omega)
        obtain ⟨h2, h3⟩ := HW.out rfl hpos hle
        go_wp2_with fail
        go_quiet (fail)
        go_wp2_with fail
        go_ret
        exact ⟨by rw [HU.out, decide_eq_true (p := 0 ≤ at_) hpos, decide_eq_true (p := at_ ≤ 2199023255552) hle]; rfl, below_drewN HB1.out _⟩

end Go.Proofs.YtdjfahnnfhediaaGreat

namespace Go.Proofs.YtdjfahnnfhediaaGreat
set_option maxRecDepth 100000
open Go.RowKit

set_option maxHeartbeats 1000000 in
theorem reftake_any (r : Rg) (n : Int) (hn : -9223372036854775808 ≤ n ∧ n < 9223372036854775808) : Tells 52 #[rgV r, .int .i64 n] (twoV (r.take n) (r.takeE n)) := by
  intro w
  have hs := refsane_any r
  have hf := reffree_any r
  have HX := Lib.hid (Bx.new w r 69)
  have HX2 := Lib.hid (HX.out.alloc (.cells (rgC Rg.zero) 69))
  have HY2 := Lib.hid (Bx.new (w.alloc (.cells (rgC r) 69)) Rg.zero 69)
  have HB := Lib.hid (below_two (below_new w (.cells (rgC r) 69)) (below_new _ (.cells (rgC Rg.zero) 69)))
  rw [show (w.alloc (.cells (rgC r) 69)).heap.size = w.heap.size + 1 from by simp] at HY2
  clear HX
  obtain ⟨F, S, H, T⟩ := r
  go_enter Tryz.func52, Tryz.ntmps52
  go_wp2_with fail
  refine (hs _).mono ?_
  rintro e w1 ⟨rfl, hb1⟩
  have HX1 := Lib.hid (HX2.out.below hb1)
  have HY1 := Lib.hid (HY2.out.below hb1)
  have HB1 := Lib.hid (below_two HB.out hb1)
  clear hb1 HX2 HY2 HB hs
  have HE : Hid ((Rg.mk F S H T).takeE n = if ((Rg.mk F S H T).sane && decide (0 ≤ n)) = true then (if S - (T - H) < n ∨ 1099511627776 < T + n then 5 else 0) else 1) := rfl
  have HV : Hid ((Rg.mk F S H T).take n = if (Rg.mk F S H T).takeE n = 0 then ⟨F, S, H, T + n⟩ else Rg.zero) := rfl
  have y0 := HY1.out.c0
  have y1 := HY1.out.c1
  have y2 := HY1.out.c2
  have y3 := HY1.out.c3
  have f0 := HY1.out.fr 0
  have f1 := HY1.out.fr 1
  have f2 := HY1.out.fr 2
  have f3 := HY1.out.fr 3
  cases hsn : (Rg.mk F S H T).sane with
  | false =>
    rw [hsn] at HE
    replace HE : (Rg.mk F S H T).takeE n = 1 := HE
    have HV2 : Hid ((Rg.mk F S H T).take n = Rg.zero) := by rw [HV.out, HE]; rfl
    have HE2 := Lib.hid HE
    clear HE hsn
    go_wp2_with fail
    refine bodyPost_ret (v := twoV Rg.zero 1) (by rw [results_cell_tmp rfl]; go_simp; exact ⟨rfl, rfl, rfl, rfl⟩) rfl ⟨by rw [HV2.out, HE2.out], ?_⟩
    exact (((HB1.out.setCell (Nat.le_succ _) _).setCell (Nat.le_succ _) _).setCell (Nat.le_succ _) _).setCell (Nat.le_succ _) _
  | true =>
    have ok := Rg.ok hsn
    have hfr : (Rg.mk F S H T).free = S - (T - H) := by unfold Rg.free; rw [if_pos hsn]
    rw [hfr] at hf
    rw [hsn, Bool.true_and] at HE
    obtain ⟨_, _, h1, h2, h3, h4, h5, h6⟩ := ok
    simp only at h1 h2 h3 h4 h5 h6
    clear hsn hfr y0 y1 y2 y3 f0 f1 f2 f3
    rcases Int.lt_or_le n 0 with hneg | hpos
    · have y0 := HY1.out.c0
      have y1 := HY1.out.c1
      have y2 := HY1.out.c2
      have y3 := HY1.out.c3
      have f0 := HY1.out.fr 0
      have f1 := HY1.out.fr 1
      have f2 := HY1.out.fr 2
      have f3 := HY1.out.fr 3
      have hd : decide (n < 0) = true := decide_eq_true hneg
      have HE2 : Hid ((Rg.mk F S H T).takeE n = 1) := by show _ = _; rw [HE.out, decide_eq_false (by omega)]; rfl
      have HV2 : Hid ((Rg.mk F S H T).take n = Rg.zero) := by show _ = _; rw [HV.out, HE2.out]; rfl
      clear HE HV hf
      go_wp2_with fail
      refine bodyPost_ret (v := twoV Rg.zero 1) (by rw [results_cell_tmp rfl]; go_simp; exact ⟨rfl, rfl, rfl, rfl⟩) rfl ⟨by rw [HV2.out, HE2.out], ?_⟩
      exact (((HB1.out.setCell (Nat.le_succ _) _).setCell (Nat.le_succ _) _).setCell (Nat.le_succ _) _).setCell (Nat.le_succ _) _
    · have hd : decide (n < 0) = false := decide_eq_false (by omega)
      rw [decide_eq_true hpos] at HE
      have x0 := HX1.out.c0
      have x1 := HX1.out.c1
      have x2 := HX1.out.c2
      have x3 := HX1.out.c3
      go_wp2_with fail
      refine (hf _).mono ?_
      rintro e w2 ⟨rfl, hb2⟩
      have HX2 := Lib.hid (HX1.out.below hb2)
      have HY2 := Lib.hid (HY1.out.below hb2)
      have HB2 := Lib.hid (below_two HB1.out hb2)
      clear hb2 HX1 HY1 HB1 hf x0 x1 x2 x3
      have x0 := HX2.out.c0
      have x1 := HX2.out.c1
      have x2 := HX2.out.c2
      have x3 := HX2.out.c3
      have g3 := HX2.out.fr 3
      have y0 := HY2.out.c0
      have y1 := HY2.out.c1
      have y2 := HY2.out.c2
      have y3 := HY2.out.c3
      have f0 := HY2.out.fr 0
      have f1 := HY2.out.fr 1
      have f2 := HY2.out.fr 2
      have f3 := HY2.out.fr 3
      replace HE : Hid ((Rg.mk F S H T).takeE n = if S - (T - H) < n ∨ 1099511627776 < T + n then 5 else 0) := HE
      go_wp2_with fail
      · refine bodyPost_ret (v := twoV Rg.zero 5) (by rw [results_cell_tmp rfl]; go_simp; exact ⟨rfl, rfl, rfl, rfl⟩) rfl ⟨?_, (((HB2.out.setCell (Nat.le_succ _) _).setCell (Nat.le_succ _) _).setCell (Nat.le_succ _) _).setCell (Nat.le_succ _) _⟩
        have hE : (Rg.mk F S H T).takeE n = 5 := by rw [HE.out, if_pos (by omega)]
        have hV : (Rg.mk F S H T).take n = Rg.zero := by rw [HV.out, hE]; rfl
        rw [hV, hE]
      · refine bodyPost_ret (v := twoV ⟨F, S, H, T + n⟩ 0) (by rw [results_cell_tmp rfl]; go_simp) rfl ⟨?_, ((((HB2.out.setCell (Nat.le_refl _) _).setCell (Nat.le_succ _) _).setCell (Nat.le_succ _) _).setCell (Nat.le_succ _) _).setCell (Nat.le_succ _) _⟩
        have hE : (Rg.mk F S H T).takeE n = 0 := by rw [HE.out, if_neg (by omega)]
        have hV : (Rg.mk F S H T).take n = ⟨F, S, H, T + n⟩ := by rw [HV.out, if_pos hE]
        rw [hV, hE]
      · refine bodyPost_ret (v := twoV Rg.zero 5) (by rw [results_cell_tmp rfl]; go_simp; exact ⟨rfl, rfl, rfl, rfl⟩) rfl ⟨?_, (((HB2.out.setCell (Nat.le_succ _) _).setCell (Nat.le_succ _) _).setCell (Nat.le_succ _) _).setCell (Nat.le_succ _) _⟩
        have hE : (Rg.mk F S H T).takeE n = 5 := by rw [HE.out, if_pos (by omega)]
        have hV : (Rg.mk F S H T).take n = Rg.zero := by rw [HV.out, hE]; rfl
        rw [hV, hE]

set_option maxHeartbeats 1000000 in
theorem refdrop_any (r : Rg) (to_ : Int) : Tells 56 #[rgV r, .int .i64 to_] (twoV (r.drop to_) (r.dropE to_)) := by
  intro w
  have hs := refsane_any r
  have HX := Lib.hid (Bx.new w r 69)
  have HX2 := Lib.hid (HX.out.alloc (.cells (rgC Rg.zero) 69))
  have HY2 := Lib.hid (Bx.new (w.alloc (.cells (rgC r) 69)) Rg.zero 69)
  have HB := Lib.hid (below_two (below_new w (.cells (rgC r) 69)) (below_new _ (.cells (rgC Rg.zero) 69)))
  rw [show (w.alloc (.cells (rgC r) 69)).heap.size = w.heap.size + 1 from by simp] at HY2
  clear HX
  obtain ⟨F, S, H, T⟩ := r
  go_enter Tryz.func56, Tryz.ntmps56
  go_wp2_with fail
  refine (hs _).mono ?_
  rintro e w1 ⟨rfl, hb1⟩
  have HX1 := Lib.hid (HX2.out.below hb1)
  have HY1 := Lib.hid (HY2.out.below hb1)
  have HB1 := Lib.hid (below_two HB.out hb1)
  clear hb1 HX2 HY2 HB hs
  have HE : Hid ((Rg.mk F S H T).dropE to_ = if ((Rg.mk F S H T).sane && (decide (H ≤ to_) && decide (to_ ≤ T))) = true then 0 else 1) := rfl
  have HV : Hid ((Rg.mk F S H T).drop to_ = if (Rg.mk F S H T).dropE to_ = 0 then ⟨F, S, to_, T⟩ else Rg.zero) := rfl
  have y0 := HY1.out.c0
  have y1 := HY1.out.c1
  have y2 := HY1.out.c2
  have y3 := HY1.out.c3
  have f0 := HY1.out.fr 0
  have f1 := HY1.out.fr 1
  have f2 := HY1.out.fr 2
  have f3 := HY1.out.fr 3
  have x0 := HX1.out.c0
  have x1 := HX1.out.c1
  have x2 := HX1.out.c2
  have x3 := HX1.out.c3
  have g2 := HX1.out.fr 2
  generalize (Rg.mk F S H T).sane = b at *
  cases b with
  | false =>
    go_wp2_with fail
    refine bodyPost_ret (v := twoV Rg.zero 1) (by rw [results_cell_tmp rfl]; go_simp; exact ⟨rfl, rfl, rfl, rfl⟩) rfl ⟨?_, (((HB1.out.setCell (Nat.le_succ _) _).setCell (Nat.le_succ _) _).setCell (Nat.le_succ _) _).setCell (Nat.le_succ _) _⟩
    have hE : (Rg.mk F S H T).dropE to_ = 1 := by rw [HE.out]; rfl
    rw [HV.out, hE]; rfl
  | true =>
    rcases Int.lt_or_le to_ H with h1 | h1
    · have hd : decide (to_ < H) = true := decide_eq_true h1
      go_wp2_with fail
      refine bodyPost_ret (v := twoV Rg.zero 1) (by rw [results_cell_tmp rfl]; go_simp; exact ⟨rfl, rfl, rfl, rfl⟩) rfl ⟨?_, (((HB1.out.setCell (Nat.le_succ _) _).setCell (Nat.le_succ _) _).setCell (Nat.le_succ _) _).setCell (Nat.le_succ _) _⟩
      have hE : (Rg.mk F S H T).dropE to_ = 1 := by rw [HE.out, decide_eq_false (p := H ≤ to_) (by omega)]; rfl
      rw [HV.out, hE]; rfl
    · have hd : decide (to_ < H) = false := decide_eq_false (by omega)
      rcases Int.lt_or_le T to_ with h2 | h2
      · have hd2 : decide (T < to_) = true := decide_eq_true h2
        go_wp2_with fail
        refine bodyPost_ret (v := twoV Rg.zero 1) (by rw [results_cell_tmp rfl]; go_simp; exact ⟨rfl, rfl, rfl, rfl⟩) rfl ⟨?_, (((HB1.out.setCell (Nat.le_succ _) _).setCell (Nat.le_succ _) _).setCell (Nat.le_succ _) _).setCell (Nat.le_succ _) _⟩
        have hE : (Rg.mk F S H T).dropE to_ = 1 := by rw [HE.out, decide_eq_true (p := H ≤ to_) h1, decide_eq_false (p := to_ ≤ T) (by omega)]; rfl
        rw [HV.out, hE]; rfl
      · have hd2 : decide (T < to_) = false := decide_eq_false (by omega)
        go_wp2_with fail
        refine bodyPost_ret (v := twoV ⟨F, S, to_, T⟩ 0) (by rw [results_cell_tmp rfl]; go_simp) rfl ⟨?_, ((((HB1.out.setCell (Nat.le_refl _) _).setCell (Nat.le_succ _) _).setCell (Nat.le_succ _) _).setCell (Nat.le_succ _) _).setCell (Nat.le_succ _) _⟩
        have hE : (Rg.mk F S H T).dropE to_ = 0 := by rw [HE.out, decide_eq_true (p := H ≤ to_) h1, decide_eq_true (p := to_ ≤ T) h2]; rfl
        rw [HV.out, if_pos hE, hE]

end Go.Proofs.YtdjfahnnfhediaaGreat
