/-
  The document's Sane.
-/
import Derived.Test.YtogngghfdcpeaaaRa
namespace Go.Proofs.Ytogngghfdcpeaaa
set_option maxRecDepth 100000
set_option linter.unusedVariables false
set_option linter.unusedSimpArgs false
open Go.RowKit

theorem may_first {n : Nat} {pc px u d : Int} (h : (pc < 0 ∨ (n : Int) ≤ pc) ∨ (px < 0 ∨ 63 < px) ∨ (u < 0 ∨ 0 < d) ∨ (u = 0 ∧ d = 0)) : (Pd.mk pc px u d).may n = false := by
  unfold Pd.may
  rw [Bool.eq_false_iff]
  intro h2
  simp only [Bool.and_eq_true, decide_eq_true_eq, Bool.not_eq_true', Bool.and_eq_false_iff, decide_eq_false_iff_not] at h2
  omega
theorem may_yes {n : Nat} {pc px u d : Int} (h1 : 0 ≤ pc) (h2 : pc < (n : Int)) (h3 : 0 ≤ px) (h4 : px ≤ 63) (h5 : 0 ≤ u) (h6 : d ≤ 0) (h7 : ¬ (u = 0 ∧ d = 0)) : (Pd.mk pc px u d).may n = true := by
  unfold Pd.may
  simp only [Bool.and_eq_true, decide_eq_true_eq, Bool.not_eq_true', Bool.and_eq_false_iff, decide_eq_false_iff_not]
  omega
theorem Tb.sane_noP {t : Tb} {n m j : Nat} (hn : t.C.length = n) (hm : t.P.length = m) (hj : j < m) (h : stepP n t.P j = false) : t.sane = false := by
  subst hn; subst hm
  unfold Tb.sane
  rw [all_no hj h]; simp
theorem Tb.sane_noC {t : Tb} {n j : Nat} (hn : t.C.length = n) (hj : j < n) (h : t.fits j 0 = false) : t.sane = false := by
  subst hn
  unfold Tb.sane
  rw [all_no hj h]; simp
theorem Tb.sane_yes {t : Tb} {n m : Nat} (hn : t.C.length = n) (hm : t.P.length = m) (h64 : n ≤ 64) (h1 : (List.range m).all (stepP n t.P) = true) (h2 : (List.range n).all (fun k => t.fits k 0) = true) : t.sane = true := by
  subst hn; subst hm
  unfold Tb.sane
  rw [h1, h2, decide_eq_true h64]; rfl
theorem Tb.sane_many {t : Tb} {n : Nat} (hn : t.C.length = n) (h : 64 < n) : t.sane = false := by
  subst hn
  unfold Tb.sane
  rw [decide_eq_false (by omega)]; rfl

set_option maxHeartbeats 4000000 in
theorem refsane_any (A B : Option Addr) (n a m b : Nat) (t : Tb) (hm : m ≤ 1000) (w : World) (ht : TbAt w A n B m t) :
    Calls Try.prog 16 #[tbV A n a B m b] w fun e w' => e = .returned (.bool t.sane) ∧ Below w.heap.size w w' := by
  have HT := Lib.hid ht
  have HX := Lib.hid (Bk.new w (tbC A n a B m b) 25)
  have HB := Lib.hid (below_new w (.cells (tbC A n a B m b) 25))
  clear ht
  go_enter Try.func16, Try.ntmps16
  rcases Nat.lt_or_ge 64 n with hbig | hfew
  · have HNO := Lib.hid (Tb.sane_many HT.out.cl hbig)
    have hd : decide ((n : Int) > 64) = true := decide_eq_true (by omega)
    have hd2 : decide ((64 : Int) < (n : Int)) = true := decide_eq_true (by omega)
    have hd3 : decide (64 < n) = true := decide_eq_true hbig
    go_wp2_with fail
    go_ret
    exact ⟨by rw [HNO.out]; rfl, HB.out⟩
  have hd : decide ((n : Int) > 64) = false := decide_eq_false (by omega)
  have hd2 : decide ((64 : Int) < (n : Int)) = false := decide_eq_false (by omega)
  have hd3 : decide (64 < n) = false := decide_eq_false (by omega)
  go_wp2_with fail
  clear hd hd2 hd3
  go_loopw [3] (fun u wr => ∃ j : Nat, u = .int .i64 (j : Int) ∧ j ≤ m ∧ Hid ((List.range j).all (stepP n t.P) = true) ∧ Hid (Bk wr w.heap.size (tbC A n a B m b) 25) ∧ Hid (Below w.heap.size w wr)) (fun u _ => m - (intOf u).toNat)
  case atStart => exact ⟨0, rfl, Nat.zero_le _, Lib.hid rfl, HX, HB⟩
  case round =>
    obtain ⟨j, rfl, hj, HAL, HXj, HBj⟩ := hrel
    have x0 := HXj.out.t0
    have x1 := HXj.out.t1
    rcases Nat.lt_or_ge j m with hlt | hge
    · obtain ⟨b2, o, hA, hbl, hok, hget, h0, h1, h2, h3⟩ := HT.out.p hlt
      subst hA
      have HST : Hid (stepP n t.P j = ((t.P.getD j pdD).may n && (decide (j = 0) || (t.P.getD (j - 1) pdD).lt (t.P.getD j pdD)))) := rfl
      have HP := Lib.hid (show ∀ i, j = i + 1 → (b2 < w.heap.size ∧ w.cell? ⟨b2, o + i * 4, none⟩ = some (.int .i64 (t.P.getD i pdD).c) ∧ w.cell? ⟨b2, o + i * 4 + 1, none⟩ = some (.int .i64 (t.P.getD i pdD).x)) from fun i hi => by
        obtain ⟨b3, o3, e3, k0, _, _, k1, k2, _, _⟩ := HT.out.p (i := i) (by omega)
        injection e3 with e3
        injection e3 with e3 e4
        subst e3; subst e4
        exact ⟨k0, k1, k2⟩)
      generalize t.P.getD j pdD = p at *
      obtain ⟨pc, px, u, d⟩ := p
      have c0 := (HBj.out.cell (p := ⟨b2, o + j * 4, none⟩) hbl).trans h0
      have c1 := (HBj.out.cell (p := ⟨b2, o + j * 4 + 1, none⟩) hbl).trans h1
      have c2 := (HBj.out.cell (p := ⟨b2, o + j * 4 + 2, none⟩) hbl).trans h2
      have c3 := (HBj.out.cell (p := ⟨b2, o + j * 4 + 3, none⟩) hbl).trans h3
      simp only at c0 c1 c2 c3
      have hd4 : decide ((j : Int) < (m : Int)) = true := decide_eq_true (by omega)
      have hd5 : decide (j < m) = true := decide_eq_true hlt
      have hi1 : (j : Int) < (m : Int) := by omega
      have hi2 : j < m := hlt
      clear h0 h1 h2 h3 hbl hok hget
      go_upto_region 7 with fail
      have HX2 := Lib.hid (HXj.out.al (.cells #[.int .i64 pc, .int .i64 px, .int .i64 u, .int .i64 d] 74))
      have HB2 := Lib.hid (HBj.out.trans ((below_new wr (.cells #[.int .i64 pc, .int .i64 px, .int .i64 u, .int .i64 d] 74)).mono HBj.out.size))
      have HK := Lib.hid (Bk.new wr #[.int .i64 pc, .int .i64 px, .int .i64 u, .int .i64 d] 74)
      clear HXj HBj x0 x1 c0 c1 c2 c3
      generalize wr.heap.size = g at *
      generalize wr.alloc (.cells #[.int .i64 pc, .int .i64 px, .int .i64 u, .int .i64 d] 74) = wk at *
      have x0 := HX2.out.t0
      have x1 := HX2.out.t1
      have p0 : wk.cell? ⟨g, 0, none⟩ = some (.int .i64 pc) := HK.out.c 0 _ rfl
      have p1 : wk.cell? ⟨g, 1, none⟩ = some (.int .i64 px) := HK.out.c 1 _ rfl
      have p2 : wk.cell? ⟨g, 2, none⟩ = some (.int .i64 u) := HK.out.c 2 _ rfl
      have p3 : wk.cell? ⟨g, 3, none⟩ = some (.int .i64 d) := HK.out.c 3 _ rfl
      have HNOP := Lib.hid (fun h => Tb.sane_noP HT.out.cl HT.out.pl hlt h)
      rcases (show (pc < 0) ∨ ¬ (pc < 0) from by omega) with g0 | g0
      · have f0_0 : decide (pc < 0) = true := decide_eq_true (by omega)
        have HNO := Lib.hid (HNOP.out (by rw [HST.out, may_first (.inl (.inl (by omega)))]; rfl))
        go_wp2_with fail
        go_ret
        exact ⟨by rw [HNO.out]; rfl, HB2.out⟩
      have f0_0 : decide (pc < 0) = false := decide_eq_false (by omega)
      rcases (show ((n : Int) ≤ pc) ∨ ¬ ((n : Int) ≤ pc) from by omega) with g1 | g1
      · have f1_0 : decide (pc ≥ (n : Int)) = true := decide_eq_true (by omega)
        have f1_1 : decide ((n : Int) ≤ pc) = true := decide_eq_true (by omega)
        have HNO := Lib.hid (HNOP.out (by rw [HST.out, may_first (.inl (.inr (by omega)))]; rfl))
        go_wp2_with fail
        go_ret
        exact ⟨by rw [HNO.out]; rfl, HB2.out⟩
      have f1_0 : decide (pc ≥ (n : Int)) = false := decide_eq_false (by omega)
      have f1_1 : decide ((n : Int) ≤ pc) = false := decide_eq_false (by omega)
      rcases (show (px < 0) ∨ ¬ (px < 0) from by omega) with g2 | g2
      · have f2_0 : decide (px < 0) = true := decide_eq_true (by omega)
        have HNO := Lib.hid (HNOP.out (by rw [HST.out, may_first (.inr (.inl (.inl (by omega))))]; rfl))
        go_wp2_with fail
        go_ret
        exact ⟨by rw [HNO.out]; rfl, HB2.out⟩
      have f2_0 : decide (px < 0) = false := decide_eq_false (by omega)
      rcases (show (63 < px) ∨ ¬ (63 < px) from by omega) with g3 | g3
      · have f3_0 : decide (px > 63) = true := decide_eq_true (by omega)
        have f3_1 : decide (63 < px) = true := decide_eq_true (by omega)
        have HNO := Lib.hid (HNOP.out (by rw [HST.out, may_first (.inr (.inl (.inr (by omega))))]; rfl))
        go_wp2_with fail
        go_ret
        exact ⟨by rw [HNO.out]; rfl, HB2.out⟩
      have f3_0 : decide (px > 63) = false := decide_eq_false (by omega)
      have f3_1 : decide (63 < px) = false := decide_eq_false (by omega)
      rcases (show (u < 0) ∨ ¬ (u < 0) from by omega) with g4 | g4
      · have f4_0 : decide (u < 0) = true := decide_eq_true (by omega)
        have HNO := Lib.hid (HNOP.out (by rw [HST.out, may_first (.inr (.inr (.inl (.inl (by omega)))))]; rfl))
        go_wp2_with fail
        go_ret
        exact ⟨by rw [HNO.out]; rfl, HB2.out⟩
      have f4_0 : decide (u < 0) = false := decide_eq_false (by omega)
      rcases (show (0 < d) ∨ ¬ (0 < d) from by omega) with g5 | g5
      · have f5_0 : decide (d > 0) = true := decide_eq_true (by omega)
        have f5_1 : decide (0 < d) = true := decide_eq_true (by omega)
        have HNO := Lib.hid (HNOP.out (by rw [HST.out, may_first (.inr (.inr (.inl (.inr (by omega)))))]; rfl))
        go_wp2_with fail
        go_ret
        exact ⟨by rw [HNO.out]; rfl, HB2.out⟩
      have f5_0 : decide (d > 0) = false := decide_eq_false (by omega)
      have f5_1 : decide (0 < d) = false := decide_eq_false (by omega)
      rcases (show (u = 0 ∧ d = 0) ∨ ¬ (u = 0 ∧ d = 0) from by omega) with g6 | g6
      · have q1 : (u == 0) = true := by simpa using g6.1
        have q2 : (d == 0) = true := by simpa using g6.2
        have HNO := Lib.hid (HNOP.out (by rw [HST.out, may_first (.inr (.inr (.inr g6)))]; rfl))
        clear g6
        go_wp2_with fail
        go_ret
        exact ⟨by rw [HNO.out]; rfl, HB2.out⟩
      have HMY := Lib.hid (may_yes (n := n) (pc := pc) (px := px) (u := u) (d := d) (by omega) (by omega) (by omega) (by omega) (by omega) (by omega) g6)
      rcases (show u = 0 ∨ ¬ u = 0 from by omega) with hu | hu
      · have q1 : (u == 0) = true := by simpa using hu
        have q2 : (d == 0) = false := by simp; omega
        clear hu g6
        go_upto_region 9 with (fail)
        clear hi1
        rcases Nat.eq_zero_or_pos j with hz | hz
        · subst hz
          have HLT := Lib.hid (show (decide (0 = 0) || (t.P.getD (0 - 1) pdD).lt ⟨pc, px, u, d⟩) = true from by simp)
          have e0 : decide (((0 : Nat) : Int) > 0) = false := by decide
          have e1 : decide ((0 : Int) < ((0 : Nat) : Int)) = false := by decide
          have HA2 := Lib.hid (all_succ HAL.out (by rw [HST.out, HMY.out, HLT.out]; rfl))
          go_quiet (fail)
          go_wp2_with fail
          exact ⟨⟨0 + 1, rfl, hlt, HA2, Lib.hid (HX2.out.below (below_drewN (Below.refl _ _) _)), Lib.hid (below_drewN HB2.out _)⟩, by simp [intOf]; omega⟩
        · obtain ⟨i, rfl⟩ : ∃ i, j = i + 1 := ⟨j - 1, by omega⟩
          obtain ⟨k0, k1, k2⟩ := HP.out i rfl
          have HLE := Lib.hid (show (decide (i + 1 = 0) || (t.P.getD (i + 1 - 1) pdD).lt ⟨pc, px, u, d⟩) = (t.P.getD i pdD).lt ⟨pc, px, u, d⟩ from by simp)
          have r0 := (HB2.out.cell (p := ⟨b2, o + i * 4, none⟩) k0).trans k1
          have r1 := (HB2.out.cell (p := ⟨b2, o + i * 4 + 1, none⟩) k0).trans k2
          have e0 : decide (((i + 1 : Nat) : Int) > 0) = true := decide_eq_true (by omega)
          have e1 : decide ((0 : Int) < ((i + 1 : Nat) : Int)) = true := decide_eq_true (by omega)
          have ew : IntKind.i64.wrap (((i + 1 : Nat) : Int) - 1) = (i : Int) := by rw [IntKind.wrap_i64]; omega
          have ei : (i : Int) < (m : Int) := by omega
          have ei2 : i < m := by omega
          have HQ : Hid ((t.P.getD i pdD).lt ⟨pc, px, u, d⟩ = (decide ((t.P.getD i pdD).c < pc) || (decide ((t.P.getD i pdD).c = pc) && decide ((t.P.getD i pdD).x < px)))) := rfl
          generalize (t.P.getD i pdD).c = qc at *
          generalize (t.P.getD i pdD).x = qx at *
          clear k0 k1 k2 HP
          rcases Int.lt_trichotomy qc pc with h | h | h
          · have HLT := Lib.hid (show (decide (i + 1 = 0) || (t.P.getD (i + 1 - 1) pdD).lt ⟨pc, px, u, d⟩) = true from by rw [HLE.out, HQ.out, decide_eq_true h]; rfl)
            have e2 : decide (qc > pc) = false := decide_eq_false (by omega)
            have e3 : decide (pc < qc) = false := decide_eq_false (by omega)
            have e4 : (qc == pc) = false := by simp; omega
            clear h
            have HA2 := Lib.hid (all_succ HAL.out (by rw [HST.out, HMY.out, HLT.out]; rfl))
            go_quiet (fail)
            go_wp2_with fail
            exact ⟨⟨(i + 1) + 1, rfl, hlt, HA2, Lib.hid (HX2.out.below (below_drewN (Below.refl _ _) _)), Lib.hid (below_drewN HB2.out _)⟩, by simp [intOf]; omega⟩
          · subst h
            have e2 : decide (qc > qc) = false := decide_eq_false (by omega)
            have e3 : decide (qc < qc) = false := decide_eq_false (by omega)
            have e4 : (qc == qc) = true := by simp
            rcases Int.lt_or_le qx px with h | h
            · have HLT := Lib.hid (show (decide (i + 1 = 0) || (t.P.getD (i + 1 - 1) pdD).lt ⟨qc, px, u, d⟩) = true from by rw [HLE.out, HQ.out, decide_eq_true h]; simp)
              have e5 : decide (qx ≥ px) = false := decide_eq_false (by omega)
              have e6 : decide (px ≤ qx) = false := decide_eq_false (by omega)
              clear h
              have HA2 := Lib.hid (all_succ HAL.out (by rw [HST.out, HMY.out, HLT.out]; rfl))
              go_quiet (fail)
              go_wp2_with fail
              exact ⟨⟨(i + 1) + 1, rfl, hlt, HA2, Lib.hid (HX2.out.below (below_drewN (Below.refl _ _) _)), Lib.hid (below_drewN HB2.out _)⟩, by simp [intOf]; omega⟩
            · have HLT := Lib.hid (show (decide (i + 1 = 0) || (t.P.getD (i + 1 - 1) pdD).lt ⟨qc, px, u, d⟩) = false from by rw [HLE.out, HQ.out, decide_eq_false (show ¬ qx < px from by omega)]; simp)
              have e5 : decide (qx ≥ px) = true := decide_eq_true (by omega)
              have e6 : decide (px ≤ qx) = true := decide_eq_true (by omega)
              clear h
              have HNO := Lib.hid (HNOP.out (by rw [HST.out, HLT.out]; simp))
              go_quiet (fail)
              go_wp2_with fail
              go_ret
              exact ⟨by rw [HNO.out]; rfl, below_drewN HB2.out _⟩
          · have HLT := Lib.hid (show (decide (i + 1 = 0) || (t.P.getD (i + 1 - 1) pdD).lt ⟨pc, px, u, d⟩) = false from by rw [HLE.out, HQ.out, decide_eq_false (show ¬ qc < pc from by omega), decide_eq_false (show ¬ qc = pc from by omega)]; rfl)
            have e2 : decide (qc > pc) = true := decide_eq_true (by omega)
            have e3 : decide (pc < qc) = true := decide_eq_true (by omega)
            clear h
            have HNO := Lib.hid (HNOP.out (by rw [HST.out, HLT.out]; simp))
            go_quiet (fail)
            go_wp2_with fail
            go_ret
            exact ⟨by rw [HNO.out]; rfl, below_drewN HB2.out _⟩
      · have q1 : (u == 0) = false := by simpa using hu
        clear hu g6
        go_upto_region 9 with (fail)
        clear hi1
        rcases Nat.eq_zero_or_pos j with hz | hz
        · subst hz
          have HLT := Lib.hid (show (decide (0 = 0) || (t.P.getD (0 - 1) pdD).lt ⟨pc, px, u, d⟩) = true from by simp)
          have e0 : decide (((0 : Nat) : Int) > 0) = false := by decide
          have e1 : decide ((0 : Int) < ((0 : Nat) : Int)) = false := by decide
          have HA2 := Lib.hid (all_succ HAL.out (by rw [HST.out, HMY.out, HLT.out]; rfl))
          go_quiet (fail)
          go_wp2_with fail
          exact ⟨⟨0 + 1, rfl, hlt, HA2, Lib.hid (HX2.out.below (below_drewN (Below.refl _ _) _)), Lib.hid (below_drewN HB2.out _)⟩, by simp [intOf]; omega⟩
        · obtain ⟨i, rfl⟩ : ∃ i, j = i + 1 := ⟨j - 1, by omega⟩
          obtain ⟨k0, k1, k2⟩ := HP.out i rfl
          have HLE := Lib.hid (show (decide (i + 1 = 0) || (t.P.getD (i + 1 - 1) pdD).lt ⟨pc, px, u, d⟩) = (t.P.getD i pdD).lt ⟨pc, px, u, d⟩ from by simp)
          have r0 := (HB2.out.cell (p := ⟨b2, o + i * 4, none⟩) k0).trans k1
          have r1 := (HB2.out.cell (p := ⟨b2, o + i * 4 + 1, none⟩) k0).trans k2
          have e0 : decide (((i + 1 : Nat) : Int) > 0) = true := decide_eq_true (by omega)
          have e1 : decide ((0 : Int) < ((i + 1 : Nat) : Int)) = true := decide_eq_true (by omega)
          have ew : IntKind.i64.wrap (((i + 1 : Nat) : Int) - 1) = (i : Int) := by rw [IntKind.wrap_i64]; omega
          have ei : (i : Int) < (m : Int) := by omega
          have ei2 : i < m := by omega
          have HQ : Hid ((t.P.getD i pdD).lt ⟨pc, px, u, d⟩ = (decide ((t.P.getD i pdD).c < pc) || (decide ((t.P.getD i pdD).c = pc) && decide ((t.P.getD i pdD).x < px)))) := rfl
          generalize (t.P.getD i pdD).c = qc at *
          generalize (t.P.getD i pdD).x = qx at *
          clear k0 k1 k2 HP
          rcases Int.lt_trichotomy qc pc with h | h | h
          · have HLT := Lib.hid (show (decide (i + 1 = 0) || (t.P.getD (i + 1 - 1) pdD).lt ⟨pc, px, u, d⟩) = true from by rw [HLE.out, HQ.out, decide_eq_true h]; rfl)
            have e2 : decide (qc > pc) = false := decide_eq_false (by omega)
            have e3 : decide (pc < qc) = false := decide_eq_false (by omega)
            have e4 : (qc == pc) = false := by simp; omega
            clear h
            have HA2 := Lib.hid (all_succ HAL.out (by rw [HST.out, HMY.out, HLT.out]; rfl))
            go_quiet (fail)
            go_wp2_with fail
            exact ⟨⟨(i + 1) + 1, rfl, hlt, HA2, Lib.hid (HX2.out.below (below_drewN (Below.refl _ _) _)), Lib.hid (below_drewN HB2.out _)⟩, by simp [intOf]; omega⟩
          · subst h
            have e2 : decide (qc > qc) = false := decide_eq_false (by omega)
            have e3 : decide (qc < qc) = false := decide_eq_false (by omega)
            have e4 : (qc == qc) = true := by simp
            rcases Int.lt_or_le qx px with h | h
            · have HLT := Lib.hid (show (decide (i + 1 = 0) || (t.P.getD (i + 1 - 1) pdD).lt ⟨qc, px, u, d⟩) = true from by rw [HLE.out, HQ.out, decide_eq_true h]; simp)
              have e5 : decide (qx ≥ px) = false := decide_eq_false (by omega)
              have e6 : decide (px ≤ qx) = false := decide_eq_false (by omega)
              clear h
              have HA2 := Lib.hid (all_succ HAL.out (by rw [HST.out, HMY.out, HLT.out]; rfl))
              go_quiet (fail)
              go_wp2_with fail
              exact ⟨⟨(i + 1) + 1, rfl, hlt, HA2, Lib.hid (HX2.out.below (below_drewN (Below.refl _ _) _)), Lib.hid (below_drewN HB2.out _)⟩, by simp [intOf]; omega⟩
            · have HLT := Lib.hid (show (decide (i + 1 = 0) || (t.P.getD (i + 1 - 1) pdD).lt ⟨qc, px, u, d⟩) = false from by rw [HLE.out, HQ.out, decide_eq_false (show ¬ qx < px from by omega)]; simp)
              have e5 : decide (qx ≥ px) = true := decide_eq_true (by omega)
              have e6 : decide (px ≤ qx) = true := decide_eq_true (by omega)
              clear h
              have HNO := Lib.hid (HNOP.out (by rw [HST.out, HLT.out]; simp))
              go_quiet (fail)
              go_wp2_with fail
              go_ret
              exact ⟨by rw [HNO.out]; rfl, below_drewN HB2.out _⟩
          · have HLT := Lib.hid (show (decide (i + 1 = 0) || (t.P.getD (i + 1 - 1) pdD).lt ⟨pc, px, u, d⟩) = false from by rw [HLE.out, HQ.out, decide_eq_false (show ¬ qc < pc from by omega), decide_eq_false (show ¬ qc = pc from by omega)]; rfl)
            have e2 : decide (qc > pc) = true := decide_eq_true (by omega)
            have e3 : decide (pc < qc) = true := decide_eq_true (by omega)
            clear h
            have HNO := Lib.hid (HNOP.out (by rw [HST.out, HLT.out]; simp))
            go_quiet (fail)
            go_wp2_with fail
            go_ret
            exact ⟨by rw [HNO.out]; rfl, below_drewN HB2.out _⟩
    · obtain rfl : j = m := by omega
      have hd4 : decide ((j : Int) < (j : Int)) = false := decide_eq_false (by omega)
      have hd5 : decide (j < j) = false := decide_eq_false (by omega)
      go_wp2_with fail
      clear hd4 hd5
      have HT2 := Lib.hid (HT.out.below HBj.out)
      go_loopw [5] (fun u wq => ∃ k : Nat, u = .int .i64 (k : Int) ∧ k ≤ n ∧ Hid ((List.range k).all (fun k => t.fits k 0) = true) ∧ Hid (Bk wq w.heap.size (tbC A n a B j b) 25) ∧ Hid (Below w.heap.size w wq)) (fun u _ => n - (intOf u).toNat)
      case atStart => exact ⟨0, rfl, Nat.zero_le _, Lib.hid rfl, HXj, HBj⟩
      case round =>
        obtain ⟨k, rfl, hk, HAK, HXk, HBk⟩ := hrel
        have x0 := HXk.out.t0
        have x1 := HXk.out.t1
        rcases Nat.lt_or_ge k n with hlt | hge
        · have hf := fun V hV => reftfits_any A B n a j b t k 0 hlt hm (by decide) V (HT.out.below hV)
          have hd4 : decide ((k : Int) < (n : Int)) = true := decide_eq_true (by omega)
          have hd5 : decide (k < n) = true := decide_eq_true hlt
          have HNC := Lib.hid (fun h => Tb.sane_noC HT.out.cl hlt h)
          go_wp2_with fail
          refine (hf _ HBk.out).mono ?_
          rintro e w4 ⟨rfl, hb4⟩
          have HX4 := Lib.hid (HXk.out.below hb4)
          have HB4 := Lib.hid (HBk.out.trans (hb4.mono HBk.out.size))
          clear hb4 hf x0 x1
          cases hq : t.fits k 0 with
          | false =>
            have HNO := Lib.hid (HNC.out hq)
            clear hq
            go_wp2_with fail
            go_ret
            exact ⟨by rw [HNO.out]; rfl, HB4.out⟩
          | true =>
            have HA2 := Lib.hid (all_succ HAK.out hq)
            clear hq
            go_wp2_with fail
            exact ⟨⟨k + 1, rfl, hlt, HA2, HX4, HB4⟩, by simp [intOf]; omega⟩
        · obtain rfl : k = n := by omega
          have HYS := Lib.hid (Tb.sane_yes HT.out.cl HT.out.pl hfew HAL.out HAK.out)
          have hd4 : decide ((k : Int) < (k : Int)) = false := decide_eq_false (by omega)
          have hd5 : decide (k < k) = false := decide_eq_false (by omega)
          go_wp2_with fail
          go_ret
          exact ⟨by rw [HYS.out]; rfl, HBk.out⟩
end Go.Proofs.Ytogngghfdcpeaaa
