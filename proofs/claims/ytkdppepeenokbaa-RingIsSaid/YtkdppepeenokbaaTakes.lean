/-
  The program's Take and Drop: every ring, every number.
-/
import Derived.Test.YtkdppepeenokbaaSmall
import Derived.Laws.ResultCell
namespace Go.Proofs.Ytkdppepeenokbaa
open Go.RowKit

/-- a ring and an error -/
abbrev twoV (r : Rg) (e : Int) : Value := .tuple #[rgV r, .int .i64 e]

theorem Bx.alloc {w : World} {g : Nat} {r : Rg} {t : TypeId} (h : Bx w g r t) (o : Obj) : Bx (w.alloc o) g r t := h.below (below_new w o)

set_option maxHeartbeats 1000000 in
theorem take_any (r : Rg) (n : Int) (hn : -9223372036854775808 ≤ n ∧ n < 9223372036854775808) : Says 11 #[rgV r, .int .i64 n] (twoV (r.take n) (r.takeE n)) := by
  intro w
  have hs := sane_any r
  have hf := free_any r
  have HX := Lib.hid (Bx.new w r 25)
  have HX2 := Lib.hid (HX.out.alloc (.cells (rgC Rg.zero) 25))
  have HY2 := Lib.hid (Bx.new (w.alloc (.cells (rgC r) 25)) Rg.zero 25)
  have HB := Lib.hid (below_two (below_new w (.cells (rgC r) 25)) (below_new _ (.cells (rgC Rg.zero) 25)))
  rw [show (w.alloc (.cells (rgC r) 25)).heap.size = w.heap.size + 1 from by simp] at HY2
  clear HX
  obtain ⟨F, S, H, T⟩ := r
  go_enter Try.func11, Try.ntmps11
  go_wp2_with fail
  refine (hs _).mono ?_
  rintro e w1 ⟨rfl, hb1⟩
  have HX1 := Lib.hid (HX2.out.below hb1)
  have HY1 := Lib.hid (HY2.out.below hb1)
  have HB1 := Lib.hid (below_two HB.out hb1)
  clear hb1 HX2 HY2 HB hs
  have HE : Hid ((Rg.mk F S H T).takeE n = if ((Rg.mk F S H T).sane && decide (0 ≤ n)) = true then (if S - (T - H) < n ∨ 1099511627776 < T + n then 5 else 0) else 1) := rfl
  have HV : Hid ((Rg.mk F S H T).take n = if (Rg.mk F S H T).takeE n = 0 then ⟨F, S, H, T + n⟩ else Rg.zero) := rfl
  have y0 := HY1.out.c0
  have y1 := HY1.out.c1
  have y2 := HY1.out.c2
  have y3 := HY1.out.c3
  have f0 := HY1.out.fr 0
  have f1 := HY1.out.fr 1
  have f2 := HY1.out.fr 2
  have f3 := HY1.out.fr 3
  cases hsn : (Rg.mk F S H T).sane with
  | false =>
    rw [hsn] at HE
    replace HE : (Rg.mk F S H T).takeE n = 1 := HE
    have HV2 : Hid ((Rg.mk F S H T).take n = Rg.zero) := by rw [HV.out, HE]; rfl
    have HE2 := Lib.hid HE
    clear HE hsn
    go_wp2_with fail
    refine bodyPost_ret (v := twoV Rg.zero 1) (by rw [results_cell_tmp rfl]; go_simp; exact ⟨rfl, rfl, rfl, rfl⟩) rfl ⟨by rw [HV2.out, HE2.out], ?_⟩
    exact (((HB1.out.setCell (Nat.le_succ _) _).setCell (Nat.le_succ _) _).setCell (Nat.le_succ _) _).setCell (Nat.le_succ _) _
  | true =>
    have ok := Rg.ok hsn
    have hfr : (Rg.mk F S H T).free = S - (T - H) := by unfold Rg.free; rw [if_pos hsn]
    rw [hfr] at hf
    rw [hsn, Bool.true_and] at HE
    obtain ⟨_, _, h1, h2, h3, h4, h5, h6⟩ := ok
    simp only at h1 h2 h3 h4 h5 h6
    clear hsn hfr y0 y1 y2 y3 f0 f1 f2 f3
    rcases Int.lt_or_le n 0 with hneg | hpos
    · have y0 := HY1.out.c0
      have y1 := HY1.out.c1
      have y2 := HY1.out.c2
      have y3 := HY1.out.c3
      have f0 := HY1.out.fr 0
      have f1 := HY1.out.fr 1
      have f2 := HY1.out.fr 2
      have f3 := HY1.out.fr 3
      have hd : decide (n < 0) = true := decide_eq_true hneg
      have HE2 : Hid ((Rg.mk F S H T).takeE n = 1) := by show _ = _; rw [HE.out, decide_eq_false (by omega)]; rfl
      have HV2 : Hid ((Rg.mk F S H T).take n = Rg.zero) := by show _ = _; rw [HV.out, HE2.out]; rfl
      clear HE HV hf
      go_wp2_with fail
      refine bodyPost_ret (v := twoV Rg.zero 1) (by rw [results_cell_tmp rfl]; go_simp; exact ⟨rfl, rfl, rfl, rfl⟩) rfl ⟨by rw [HV2.out, HE2.out], ?_⟩
      exact (((HB1.out.setCell (Nat.le_succ _) _).setCell (Nat.le_succ _) _).setCell (Nat.le_succ _) _).setCell (Nat.le_succ _) _
    · have hd : decide (n < 0) = false := decide_eq_false (by omega)
      rw [decide_eq_true hpos] at HE
      have x0 := HX1.out.c0
      have x1 := HX1.out.c1
      have x2 := HX1.out.c2
      have x3 := HX1.out.c3
      go_wp2_with fail
      refine (hf _).mono ?_
      rintro e w2 ⟨rfl, hb2⟩
      have HX2 := Lib.hid (HX1.out.below hb2)
      have HY2 := Lib.hid (HY1.out.below hb2)
      have HB2 := Lib.hid (below_two HB1.out hb2)
      clear hb2 HX1 HY1 HB1 hf x0 x1 x2 x3
      have x0 := HX2.out.c0
      have x1 := HX2.out.c1
      have x2 := HX2.out.c2
      have x3 := HX2.out.c3
      have g3 := HX2.out.fr 3
      have y0 := HY2.out.c0
      have y1 := HY2.out.c1
      have y2 := HY2.out.c2
      have y3 := HY2.out.c3
      have f0 := HY2.out.fr 0
      have f1 := HY2.out.fr 1
      have f2 := HY2.out.fr 2
      have f3 := HY2.out.fr 3
      replace HE : Hid ((Rg.mk F S H T).takeE n = if S - (T - H) < n ∨ 1099511627776 < T + n then 5 else 0) := HE
      go_wp2_with fail
      · refine bodyPost_ret (v := twoV Rg.zero 5) (by rw [results_cell_tmp rfl]; go_simp; exact ⟨rfl, rfl, rfl, rfl⟩) rfl ⟨?_, (((HB2.out.setCell (Nat.le_succ _) _).setCell (Nat.le_succ _) _).setCell (Nat.le_succ _) _).setCell (Nat.le_succ _) _⟩
        have hE : (Rg.mk F S H T).takeE n = 5 := by rw [HE.out, if_pos (by omega)]
        have hV : (Rg.mk F S H T).take n = Rg.zero := by rw [HV.out, hE]; rfl
        rw [hV, hE]
      · refine bodyPost_ret (v := twoV ⟨F, S, H, T + n⟩ 0) (by rw [results_cell_tmp rfl]; go_simp) rfl ⟨?_, ((((HB2.out.setCell (Nat.le_refl _) _).setCell (Nat.le_succ _) _).setCell (Nat.le_succ _) _).setCell (Nat.le_succ _) _).setCell (Nat.le_succ _) _⟩
        have hE : (Rg.mk F S H T).takeE n = 0 := by rw [HE.out, if_neg (by omega)]
        have hV : (Rg.mk F S H T).take n = ⟨F, S, H, T + n⟩ := by rw [HV.out, if_pos hE]
        rw [hV, hE]
      · refine bodyPost_ret (v := twoV Rg.zero 5) (by rw [results_cell_tmp rfl]; go_simp; exact ⟨rfl, rfl, rfl, rfl⟩) rfl ⟨?_, (((HB2.out.setCell (Nat.le_succ _) _).setCell (Nat.le_succ _) _).setCell (Nat.le_succ _) _).setCell (Nat.le_succ _) _⟩
        have hE : (Rg.mk F S H T).takeE n = 5 := by rw [HE.out, if_pos (by omega)]
        have hV : (Rg.mk F S H T).take n = Rg.zero := by rw [HV.out, hE]; rfl
        rw [hV, hE]

set_option maxHeartbeats 1000000 in
theorem drop_any (r : Rg) (to_ : Int) : Says 13 #[rgV r, .int .i64 to_] (twoV (r.drop to_) (r.dropE to_)) := by
  intro w
  have hs := sane_any r
  have HX := Lib.hid (Bx.new w r 25)
  have HX2 := Lib.hid (HX.out.alloc (.cells (rgC Rg.zero) 25))
  have HY2 := Lib.hid (Bx.new (w.alloc (.cells (rgC r) 25)) Rg.zero 25)
  have HB := Lib.hid (below_two (below_new w (.cells (rgC r) 25)) (below_new _ (.cells (rgC Rg.zero) 25)))
  rw [show (w.alloc (.cells (rgC r) 25)).heap.size = w.heap.size + 1 from by simp] at HY2
  clear HX
  obtain ⟨F, S, H, T⟩ := r
  go_enter Try.func13, Try.ntmps13
  go_wp2_with fail
  refine (hs _).mono ?_
  rintro e w1 ⟨rfl, hb1⟩
  have HX1 := Lib.hid (HX2.out.below hb1)
  have HY1 := Lib.hid (HY2.out.below hb1)
  have HB1 := Lib.hid (below_two HB.out hb1)
  clear hb1 HX2 HY2 HB hs
  have HE : Hid ((Rg.mk F S H T).dropE to_ = if ((Rg.mk F S H T).sane && (decide (H ≤ to_) && decide (to_ ≤ T))) = true then 0 else 1) := rfl
  have HV : Hid ((Rg.mk F S H T).drop to_ = if (Rg.mk F S H T).dropE to_ = 0 then ⟨F, S, to_, T⟩ else Rg.zero) := rfl
  have y0 := HY1.out.c0
  have y1 := HY1.out.c1
  have y2 := HY1.out.c2
  have y3 := HY1.out.c3
  have f0 := HY1.out.fr 0
  have f1 := HY1.out.fr 1
  have f2 := HY1.out.fr 2
  have f3 := HY1.out.fr 3
  have x0 := HX1.out.c0
  have x1 := HX1.out.c1
  have x2 := HX1.out.c2
  have x3 := HX1.out.c3
  have g2 := HX1.out.fr 2
  generalize (Rg.mk F S H T).sane = b at *
  cases b with
  | false =>
    go_wp2_with fail
    refine bodyPost_ret (v := twoV Rg.zero 1) (by rw [results_cell_tmp rfl]; go_simp; exact ⟨rfl, rfl, rfl, rfl⟩) rfl ⟨?_, (((HB1.out.setCell (Nat.le_succ _) _).setCell (Nat.le_succ _) _).setCell (Nat.le_succ _) _).setCell (Nat.le_succ _) _⟩
    have hE : (Rg.mk F S H T).dropE to_ = 1 := by rw [HE.out]; rfl
    rw [HV.out, hE]; rfl
  | true =>
    go_wp2_with fail
    refine (rising3 H to_ T _ _ (by simp)).mono ?_
    rintro e w2 ⟨rfl, hb2⟩
    have HX2 := Lib.hid (HX1.out.below hb2)
    have HY2 := Lib.hid (HY1.out.below hb2)
    have HB2 := Lib.hid (below_two HB1.out hb2)
    clear hb2 HX1 HY1 HB1 x0 x1 x2 x3 y0 y1 y2 y3 f0 f1 f2 f3 g2
    have y0 := HY2.out.c0
    have y1 := HY2.out.c1
    have y2 := HY2.out.c2
    have y3 := HY2.out.c3
    have f0 := HY2.out.fr 0
    have f1 := HY2.out.fr 1
    have f2 := HY2.out.fr 2
    have f3 := HY2.out.fr 3
    have x0 := HX2.out.c0
    have x1 := HX2.out.c1
    have x2 := HX2.out.c2
    have x3 := HX2.out.c3
    have g2 := HX2.out.fr 2
    rw [rises3]
    generalize hbb : (decide (H ≤ to_) && decide (to_ ≤ T)) = b at *
    clear hbb
    cases b with
    | false =>
      go_wp2_with fail
      refine bodyPost_ret (v := twoV Rg.zero 1) (by rw [results_cell_tmp rfl]; go_simp; exact ⟨rfl, rfl, rfl, rfl⟩) rfl ⟨?_, (((HB2.out.setCell (Nat.le_succ _) _).setCell (Nat.le_succ _) _).setCell (Nat.le_succ _) _).setCell (Nat.le_succ _) _⟩
      have hE : (Rg.mk F S H T).dropE to_ = 1 := by rw [HE.out]; rfl
      rw [HV.out, hE]; rfl
    | true =>
      go_wp2_with fail
      refine bodyPost_ret (v := twoV ⟨F, S, to_, T⟩ 0) (by rw [results_cell_tmp rfl]; go_simp) rfl ⟨?_, ((((HB2.out.setCell (Nat.le_refl _) _).setCell (Nat.le_succ _) _).setCell (Nat.le_succ _) _).setCell (Nat.le_succ _) _).setCell (Nat.le_succ _) _⟩
      have hE : (Rg.mk F S H T).dropE to_ = 0 := by rw [HE.out]; rfl
      rw [HV.out, if_pos hE, hE]

end Go.Proofs.Ytkdppepeenokbaa
