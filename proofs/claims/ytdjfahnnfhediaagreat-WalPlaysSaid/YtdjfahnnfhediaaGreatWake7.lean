/-
  The statements' example: what is forced is there, what is not is lost.
-/
import Derived.Test.YtdjfahnnfhediaaGreatModel7
import Derived.Lib.SlBytesConst
import Derived.LoopTactic
namespace Go.Proofs.YtdjfahnnfhediaaGreat
set_option maxRecDepth 100000
open Go.RowKit Crc Wm

theorem flush_late {D : Dv} (h : D.flushE = 0) : D.flush.late = fun _ => none := by
  unfold Dv.flush Dv.flushE at *
  by_cases hg : D.gone = true
  · rw [if_pos hg] at h; exact absurd h (by decide)
  · rw [if_neg hg] at h ⊢
    by_cases hl : D.left = 0
    · rw [if_pos hl] at h; exact absurd h (by decide)
    · rw [if_neg hl]
      rfl
theorem kp_zero (f : Nat → Bool) : kp 0 f = fun _ => false := by
  funext m
  simp [kp]

/-- the example by its words -/
theorem wake_model : ∃ (D1 D2 D3 : Dv) (G2 G3 G4 : Lg), Lg.appE ⟨⟨1, 6, 0, 0⟩, 1, 0, false⟩ (.fresh 8) [97] = 0 ∧ Lg.appG ⟨⟨1, 6, 0, 0⟩, 1, 0, false⟩ (.fresh 8) [97] = G2 ∧ Lg.appD ⟨⟨1, 6, 0, 0⟩, 1, 0, false⟩ (.fresh 8) [97] = D1 ∧ D1.spent ≤ 10 ∧
    G2.forE D1 = 0 ∧ G2.forG D1 = G3 ∧ G2.forD D1 = D2 ∧ D2.spent ≤ 20 ∧ G3.appE D2 [98] = 0 ∧ G3.appG D2 [98] = G4 ∧ G3.appD D2 [98] = D3 ∧ D3.spent ≤ 30 ∧ openE (D3.crash (kp 0 fun _ => false)) 1 6 0 2 = 0 ∧
    ∀ rs t, Fnd (ringL (D3.crash (kp 0 fun _ => false)) ⟨1, 6, 0, 0⟩) 0 2 rs t → rs = [(0, [97])] := by
  have n1 : needN [97] = 1 := by decide
  have n2 : needN [98] = 1 := by decide
  have on1 : (Lg.mk ⟨1, 6, 0, 0⟩ 1 0 false).On (.fresh 8) := ⟨⟨by decide, by decide, by decide, by decide, by decide, by decide, by decide, by decide⟩, by decide, by decide, by decide⟩
  have p1 : Lg.preE ⟨⟨1, 6, 0, 0⟩, 1, 0, false⟩ [97] = 0 := by
    rw [Lg.pre_free on1 rfl (by rw [n1]; decide) (by decide), n1]
    decide
  obtain ⟨a1, _, a3, a4, _⟩ := Lg.app_free p1 (Dv.free_fresh 8)
  have on2 := on1.app [97]
  obtain ⟨g', k1, k2, k3, k4⟩ := Tr.app (R := ⟨1, 6, 0, 0⟩) (T0 := 0) (c0 := zeroC) (ps := []) (g := 0) (f := 0) (Tr.start' (fun _ => rfl) (fun _ => rfl)) on1 p1 rfl rfl rfl (by decide) rfl (Nat.le_refl _)
  have sp1 := Lg.appD_spent ⟨⟨1, 6, 0, 0⟩, 1, 0, false⟩ (.fresh 8) [97]
  rw [n1] at sp1
  have sp0 : (Dv.fresh 8).spent = 0 := rfl
  rw [a3] at on2
  rw [k3 a4.gone] at k4
  generalize hD1 : Lg.appD ⟨⟨1, 6, 0, 0⟩, 1, 0, false⟩ (.fresh 8) [97] = D1 at *
  obtain ⟨b1, b2, b3⟩ := Lg.for_free (G := (Lg.mk ⟨1, 6, 0, 0 + (needN [97] : Int)⟩ 1 0 false)) rfl a4
  have on3 := on2.for
  have sp2 := Dv.flush_spent (D := D1)
  have hfl := a4.flushE
  have t2 := k4.flush hfl
  have hlate := flush_late hfl
  have fr2 := a4.flushed
  rw [b2, b3] at on3
  generalize hD2 : D1.flush = D2 at *
  have p3 : Lg.preE (Lg.mk ⟨1, 6, 0, 0 + (needN [97] : Int)⟩ 1 (0 + (needN [97] : Int)) false) [98] = 0 := by
    rw [Lg.pre_free on3 rfl (by rw [n2]; decide) (by show (0 : Int) + (needN [97] : Int) ≤ 1000000; rw [n1]; decide), n2]
    show (if (6 : Int) - (0 + (needN [97] : Int) - 0) < ((1 : Nat) : Int) then (5 : Int) else 0) = 0
    rw [n1]
    decide
  obtain ⟨c1, _, c3, c4, c5⟩ := Lg.app_free p3 fr2
  have sp3 := Lg.appD_spent (Lg.mk ⟨1, 6, 0, 0 + (needN [97] : Int)⟩ 1 (0 + (needN [97] : Int)) false) D2 [98]
  rw [n2] at sp3
  have hn3 : (Lg.appD (Lg.mk ⟨1, 6, 0, 0 + (needN [97] : Int)⟩ 1 (0 + (needN [97] : Int)) false) D2 [98]).n = 8 := by
    rw [Lg.appD_n, ← hD2, Dv.flush_n, ← hD1, Lg.appD_n]
    rfl
  have hl3 : (Lg.appD (Lg.mk ⟨1, 6, 0, 0 + (needN [97] : Int)⟩ 1 (0 + (needN [97] : Int)) false) D2 [98]).laid = D2.laid := by rw [c5, Lg.putTo_laid]
  refine ⟨D1, D2, _, _, _, _, a1, a3, rfl, by omega, b1, b2, b3, by omega, c1, rfl, rfl, Nat.le_trans sp3 (by omega), ?_, ?_⟩
  · exact free_open rfl (by show (0 : Int) ≤ 1 ∧ _ ∧ 1 + 6 ≤ ((Lg.appD _ D2 [98]).n : Int) ∧ _; rw [hn3]; decide)
  · intro rs t hf
    rw [kp_zero] at hf
    have tr : Tr ⟨1, 6, 0, 0⟩ 0 zeroC ((Lg.appD (Lg.mk ⟨1, 6, 0, 0 + (needN [97] : Int)⟩ 1 (0 + (needN [97] : Int)) false) D2 [98]).crash fun _ => false) (piecesAt 1 0 [[97]]) ([] ++ cutAll 1 0 [97]).length ([] ++ cutAll 1 0 [97]).length := by
      have e : piecesAt 1 0 [[97]] = [] ++ cutAll 1 0 [97] := by simp [piecesAt]
      rw [e]
      refine t2.same ?_ (by rw [hlate]; rfl)
      funext i
      show Dv.lay _ _ (fun _ => false) _ _ i = _
      rw [lay_none, hl3]
    have hc : Cuts 1 0 [[97]] := ⟨(Lg.pre_zero p1).2.1, by show (0 : Int) + (needN [97] : Int) ≤ _; rw [n1]; decide, trivial⟩
    have hlen : (piecesAt 1 0 [[97]]).length = 1 := by
      have := length_piecesAt 1 [[97]] 0
      have e : tailOf 0 [[97]] = 0 + (needN [97] : Int) := rfl
      rw [e, n1] at this
      omega
    obtain ⟨k, m1, m2, m3, _⟩ := found_first (m := 1) tr (by decide) (by decide) (by show (1 : Int) + 6 ≤ ((Lg.appD _ D2 [98]).n : Int); rw [hn3]; decide) rfl hc (by decide) (by decide) (by rw [hlen]; decide) (by decide) (by
      show (piecesAt 1 0 [[97]]).length ≤ _
      simp [piecesAt]) hf
    obtain rfl : k = 1 := by
      have : k ≤ 1 := m2
      omega
    exact m3

theorem lies_one {W : World} (x : UInt8) (z : Int) (hz : z = (x.toNat : Int)) (fr : Nat × Nat) : Lies (W.alloc (.cells #[.int .u8 z] 5 fr)) (some ⟨W.heap.size, 0, none⟩) 1 1 [x] :=
  ⟨(firm_one (X := fun _ => False) x z hz (fun h => h) fr).rd, rfl, Nat.le_refl _⟩
/-- one record that was answered -/
theorem RsN.one {w : World} {base : Nat} {A : Option Addr} {r : Int × List UInt8} (h : RsN w base A [r]) : ∃ b, A = some ⟨b, 0, none⟩ ∧ w.cell? ⟨b, 0, none⟩ = some (.int .i64 r.1) ∧ ∃ Ax n c, w.cell? ⟨b, 1, none⟩ = some (.slice Ax n c) ∧ Lies w Ax c n r.2 := by
  rcases h with h | ⟨b, e, _, hp⟩
  · cases h
  · obtain ⟨h0, Ax, n, c, h1, h2, _⟩ := hp 0 r rfl
    exact ⟨b, e, h0, Ax, n, c, h1, h2⟩

set_option maxHeartbeats 2000000 in
theorem awake_any (w : World) : Calls Tryz.prog 4 #[] w fun e w' => e = .returned (.bool true) ∧ Below w.heap.size w w' := by
  obtain ⟨D1, D2, D3, G2, G3, G4, e1, e2, e3, s1, e4, e5, e6, s2, e7, e8, e9, s3, e10, e11⟩ := wake_model
  have HM := Lib.hid e11
  have HM1 := Lib.hid (show _ ∧ _ ∧ _ from ⟨e1, e2, e3⟩)
  have HM2 := Lib.hid (show _ ∧ _ ∧ _ from ⟨e4, e5, e6⟩)
  have HM3 := Lib.hid (show _ ∧ _ ∧ _ from ⟨e7, e8, e9⟩)
  have HO4 := Lib.hid e10
  have HS := Lib.hid (show _ ∧ _ ∧ _ from ⟨s1, s2, s3⟩)
  clear e1 e2 e3 e4 e5 e6 e7 e8 e9 e10 e11 s1 s2 s3
  go_enter Tryz.func4, Tryz.ntmps4
  go_wp2_with fail
  refine (newdr (w := w) (Below.refl _ _) 8 (by omega) (by omega)).mono ?_
  rintro e w1 ⟨p, L, M, rfl, hd1, _, _, _, _⟩
  have HD1 := Lib.hid hd1
  clear hd1
  go_wp2_with fail
  refine (open_dr HD1.out 1 6 0 1 (fresh_open 8 (by decide))).mono ?_
  rintro e w2 ⟨q, rs, t, A0, n0, c0, rfl, _, _, _, _, hfd, hlw, _, _⟩
  obtain ⟨_, ht⟩ := found_none (fun _ => rfl) (fun _ => rfl) (by decide) (by decide) (by decide) rfl (by decide) hfd
  subst ht
  have HL2 := Lib.hid hlw
  clear hfd hlw HD1
  have kc := Lib.run_convert_bytes_const (P := Tryz.prog) w2 41 5 #[.int .u8 97] 1 1 Tryz.underlying41 Tryz.underlying5
  go_wp2_with fail
  have HA2 := Lib.hid (HL2.out.below (below_new w2 (.cells #[.int .u8 97] 5 (1, 2))))
  refine (HA2.out.append (by decide) (some ⟨w2.heap.size, 0, none⟩) 1 1 [97] (lies_one 97 97 rfl (1, 2)) (by decide)).mono ?_
  rintro e w3 ⟨rfl, hl3, _⟩
  rw [HM1.out.1]
  rw [HM1.out.2.1, HM1.out.2.2] at hl3
  have HL3 := Lib.hid hl3
  clear hl3 HL2 HA2 kc
  generalize Lg.appAt ⟨⟨1, 6, 0, 0⟩, 1, 0, false⟩ (Dv.fresh 8) [97] = at1
  go_wp2_with fail
  refine (HL3.out.force (Nat.le_trans HS.out.1 (by decide))).mono ?_
  rintro e w4 ⟨rfl, hl4, _⟩
  rw [HM2.out.1]
  rw [HM2.out.2.1, HM2.out.2.2] at hl4
  have HL4 := Lib.hid hl4
  clear hl4 HL3
  have kc := Lib.run_convert_bytes_const (P := Tryz.prog) w4 41 5 #[.int .u8 98] 1 1 Tryz.underlying41 Tryz.underlying5
  go_wp2_with fail
  have HA4 := Lib.hid (HL4.out.below (below_new w4 (.cells #[.int .u8 98] 5 (1, 2))))
  refine (HA4.out.append (Nat.le_trans HS.out.2.1 (by decide)) (some ⟨w4.heap.size, 0, none⟩) 1 1 [98] (lies_one 98 98 rfl (1, 2)) (by decide)).mono ?_
  rintro e w5 ⟨rfl, hl5, _⟩
  rw [HM3.out.1]
  rw [HM3.out.2.1, HM3.out.2.2] at hl5
  have HL5 := Lib.hid hl5
  clear hl5 HL4 HA4 kc
  generalize Lg.appAt G3 D2 [98] = at2
  go_wp2_with fail
  refine (crash_any HL5.out.dev (Nat.le_trans HS.out.2.2 (by decide)) 0 (kn := 0) (f := fun _ => false) Bools.nil).mono ?_
  rintro e w6 ⟨rfl, hd6, ht6⟩
  have HD6 := Lib.hid (HL5.out.dr.turn hd6 ht6)
  clear hd6 ht6 HL5
  go_wp2_with fail
  refine (open_dr HD6.out 1 6 0 2 HO4.out).mono ?_
  rintro e w7 ⟨q2, rs2, t2, A2, n2, c2, rfl, hn2, _, _, hr2, hfd2, hlw2, _, _⟩
  have hrs := HM.out rs2 t2 hfd2
  subst hrs
  have hn3 : n2 = 1 := hn2
  subst hn3
  obtain ⟨b, rfl, k0, Ax, nx, cx, k1, k2⟩ := hr2.one
  have k3 := k2.conv
  have HB7 := Lib.hid hlw2.bel
  clear hn2 hr2 hfd2 hlw2 HD6 HM HM1 HM2 HM3 HO4 HS k2
  go_wp2_with fail
  go_ret
  exact ⟨rfl, HB7.out⟩

end Go.Proofs.YtdjfahnnfhediaaGreat
