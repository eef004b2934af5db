/-
  WalAgain: the walk: opened again and again a log tells the same.
-/
import Derived.Test.YtdjfahnnfhediaaRefusesWalk
import Derived.Test.YtdjfahnnfhediaaTheirs
namespace Go.Proofs.Ytdjfahnnfhediaa
set_option maxRecDepth 100000
open Go.RowKit Crc Wm

set_option maxHeartbeats 800000 in
theorem again_walk (A0 : Option Addr) (cap0 len0 : Nat) (f0 : Nat → Int) (n : Int) (w : World) (hi0 : Is w A0 len0 f0) : Calls Try.prog 6 #[.slice A0 len0 cap0, .int .i64 n] w fun e w' => e = .returned (.bool true) ∧ Below w.heap.size w w' := by
  have HI := Lib.hid hi0
  clear hi0
  by_cases hlen : 20 < len0
  · have d1 : decide ((len0 : Int) > 20) = true := decide_eq_true (by omega)
    have d1' : decide (20 < (len0 : Int)) = true := decide_eq_true (by omega)
    have d1'' : decide (20 < len0) = true := decide_eq_true hlen
    go_enter Try.func6, Try.ntmps6
    go_wp2_with fail
    refine (awake_any w).mono ?_
    rintro e w0 ⟨rfl, hb⟩
    have HB := Lib.hid hb
    clear hb
    go_wp2_with fail
    go_ret
    exact ⟨rfl, HB.out⟩
  have d1 : decide ((len0 : Int) > 20) = false := decide_eq_false (by omega)
  have d1' : decide (20 < (len0 : Int)) = false := decide_eq_false (by omega)
  have d1'' : decide (20 < len0) = false := decide_eq_false hlen
  obtain ⟨k, hk, hkb⟩ := low n 3 2 (by decide) (by omega)
  have hk' : k < 4 := hk
  clear hk
  go_enter Try.func6, Try.ntmps6
  go_wp2_with fail
  refine (awake_any w).mono ?_
  rintro e w0 ⟨rfl, hb⟩
  have HB := Lib.hid hb
  clear hb
  go_wp2_with fail
  refine (newdr (w := w) HB.out 64 (by omega) (by omega)).mono ?_
  rintro e w1 ⟨p, L, M, rfl, hd1, _, _, _, _⟩
  have HD1 := Lib.hid hd1
  clear hd1 d1 d1' d1''
  go_wp2_with fail
  refine (open_dr HD1.out 0 64 0 1 (fresh_open 64 (by decide))).mono ?_
  rintro e w2 ⟨q, rs, t, A1, n1, c1, rfl, _, _, _, _, hfd, hlw, _, _⟩
  obtain ⟨_, ht⟩ := found_none (fun _ => rfl) (fun _ => rfl) (by decide) (by decide) (by decide) rfl (by decide) hfd
  subst ht
  have HL2 := Lib.hid hlw
  clear hfd hlw HD1 HB
  go_wp2_with fail
  go_loopw [11, 12] (fun v u wr => ∃ (i m : Nat) (T : Int) (D : Dv) (bs : List (List UInt8)), u = .int .i64 (i : Int) ∧ v = .int .i64 (m : Int) ∧ i ≤ len0 ∧ m ≤ i ∧ (0 ≤ T ∧ T ≤ 64) ∧ Hid (bs.length = m) ∧ Hid (Lw w wr q p L M ⟨⟨0, 64, 0, T⟩, 1, 0, false⟩ D) ∧ Hid D.Free ∧ Hid (D.spent ≤ 3 * i) ∧ Hid (Cuts 1 0 bs ∧ T = tailOf 0 bs ∧ D.n = 64 ∧ Tr ⟨0, 64, 0, 0⟩ 0 zeroC D (piecesAt 1 0 bs) (piecesAt 1 0 bs).length 0)) (fun _ u _ => len0 - (intOf u).toNat)
  case atStart => exact ⟨0, 0, 0, .fresh 64, [], rfl, rfl, Nat.zero_le _, Nat.le_refl _, by decide, rfl, HL2, Dv.free_fresh 64, Nat.le_refl _, trivial, rfl, rfl, Tr.start' (fun _ => rfl) (fun _ => rfl)⟩
  case round =>
    obtain ⟨i, m, T, D, bs, rfl, rfl, hi, hmi, hT, HM, HL, HF, HS, HP⟩ := hrel
    rcases Nat.lt_or_ge i len0 with hlt | hge
    · obtain ⟨b, o, hA, hc⟩ := HI.out.get HL.out.bel hlt
      subst hA
      obtain ⟨y, hy, hyb⟩ := low (f0 i) 127 7 (by decide) (by omega)
      have hy' : y ≤ 127 := by have : y < 128 := hy; omega
      obtain ⟨c, hcw, _⟩ := byte_of i (by omega)
      have HCW := Lib.hid hcw
      have hdj : decide ((i : Int) < (len0 : Int)) = true := decide_eq_true (by omega)
      have hdj2 : decide (i < len0) = true := decide_eq_true hlt
      have hi2 : (i : Int) < (len0 : Int) := by omega
      have HST := Lib.hid (Lg.step HL.out.on HF.out (b := someB y c) (by have := (need_127 (c := c) hy').2; omega) (by omega))
      have HSP := Lib.hid (Lg.appD_spent ⟨⟨0, 64, 0, T⟩, 1, 0, false⟩ D (someB y c))
      have HN3 := Lib.hid (need_127 (c := c) hy')
      have HON := Lib.hid HL.out.on
      generalize f0 i = fi at *
      clear hy hcw
      go_wp2_with fail
      refine (some_at y (by omega) c _ HCW.out _).mono ?_
      rintro e w3 ⟨A3, n3, rfl, ho3, hb3⟩
      have HL3 := Lib.hid (HL.out.below hb3)
      have HO3 := Lib.hid ho3
      clear ho3 hb3 HL hc hyb
      go_wp2_with fail
      refine (HL3.out.append (Nat.le_trans HS.out (by omega)) A3 y n3 (someB y c) HO3.out.lies (by omega)).mono ?_
      rintro e w4 ⟨rfl, hl4, _⟩
      have HL4 := Lib.hid hl4
      clear hl4 HL3 HO3
      rcases HST.out with ⟨h1, h2, h3, h4⟩ | ⟨h1, h0, h2, h2', h3, h5⟩
      · rw [h2]
        have hl := HL4.out
        rw [h3, h4] at hl
        have HL5 := Lib.hid hl
        have hd5 : ((5 : Int) == 0) = false := rfl
        clear hl h1 h2 h3 h4 HST HL4 HSP HN3 HON
        generalize Lg.appAt ⟨⟨0, 64, 0, T⟩, 1, 0, false⟩ D (someB y c) = ap
        go_wp2_with fail
        exact ⟨⟨i + 1, m, T, D, bs, by go_num, rfl, by omega, by omega, hT, HM, HL5, HF, Nat.le_trans HS.out (by omega), HP⟩, by simp [intOf]; omega⟩
      · rw [h2]
        have hl := HL4.out
        obtain ⟨p1, p2, p3, p4⟩ := HP.out
        obtain ⟨⟨g', _, _, k3, k4⟩, k5, k6, k7⟩ := lay_app p4 p1 p2 rfl HON.out h0 rfl rfl (Int.le_refl _) (Nat.zero_le _)
        rw [k3 h5.gone] at k4
        rw [h3] at hl
        have hn1 := HN3.out.1
        have hn2 := HN3.out.2
        have HL5 := Lib.hid hl
        have HF5 := Lib.hid h5
        have HP5 : Hid (Cuts 1 0 (bs ++ [someB y c]) ∧ T + (needN (someB y c) : Int) = tailOf 0 (bs ++ [someB y c]) ∧ (Lg.appD ⟨⟨0, 64, 0, T⟩, 1, 0, false⟩ D (someB y c)).n = 64 ∧ Tr ⟨0, 64, 0, 0⟩ 0 zeroC (Lg.appD ⟨⟨0, 64, 0, T⟩, 1, 0, false⟩ D (someB y c)) (piecesAt 1 0 (bs ++ [someB y c])) (piecesAt 1 0 (bs ++ [someB y c])).length 0) := ⟨k5, k6.symm, by rw [Lg.appD_n]; exact p3, k4⟩
        have HM5 : Hid ((bs ++ [someB y c]).length = m + 1) := by show _ = _; rw [List.length_append, HM.out]; rfl
        have HS5 : Hid ((Lg.appD ⟨⟨0, 64, 0, T⟩, 1, 0, false⟩ D (someB y c)).spent ≤ 3 * (i + 1)) := by have h1 := HSP.out; have h2 := HS.out; show _ ≤ _; omega
        have hT5 : 0 ≤ T + (needN (someB y c) : Int) ∧ T + (needN (someB y c) : Int) ≤ 64 := by omega
        have hd5 : ((0 : Int) == 0) = true := rfl
        clear hl h0 h1 h2 h2' h3 h5 HST HL4 HSP HN3 HON k3 k4 k5 k6 k7 p1 p2 p3 p4 hn1 hn2
        generalize Lg.appAt ⟨⟨0, 64, 0, T⟩, 1, 0, false⟩ D (someB y c) = ap
        generalize Lg.appD ⟨⟨0, 64, 0, T⟩, 1, 0, false⟩ D (someB y c) = D5 at *
        generalize T + (needN (someB y c) : Int) = T5 at *
        generalize bs ++ [someB y c] = bs5 at *
        go_wp2_with fail
        exact ⟨⟨i + 1, m + 1, T5, D5, bs5, by go_num, by go_num, by omega, by omega, hT5, HM5, HL5, HF5, HS5, HP5⟩, by simp [intOf]; omega⟩
    · obtain rfl : i = len0 := by omega
      have hdj : decide ((i : Int) < (i : Int)) = false := decide_eq_false (by omega)
      have hdj2 : decide (i < i) = false := decide_eq_false (by omega)
      obtain ⟨f1, f2, f3⟩ := Lg.for_free (G := ⟨⟨0, 64, 0, T⟩, 1, 0, false⟩) rfl HF.out
      have hfo := HL.out.force (Nat.le_trans HS.out (by omega))
      rw [f1, f2, f3] at hfo
      have HFO := Lib.hid hfo
      obtain ⟨p1, p2, p3, p4⟩ := HP.out
      have hfe := HF.out.flushE
      have HTR := Lib.hid ((p4.flush hfe))
      have HLT := Lib.hid (flush_late hfe)
      have HFR := Lib.hid HF.out.flushed
      have HDN : Hid (D.flush.n = 64) := by show _ = _; rw [Dv.flush_n]; exact p3
      have HC := Lib.hid p1
      have HTT := Lib.hid p2
      generalize D.flush = D2 at *
      have HOP : Hid (∀ (E : Int) rs t, 1 < E → Fnd (ringL D2 ⟨0, 64, 0, 0⟩) 0 E rs t → rs = recsAt 0 bs ∧ t = T) := by
        intro E rs t hE hf
        have hlen := length_piecesAt 1 bs 0
        obtain ⟨k, h1, h2, h3, h4, _⟩ := found_first (m := bs.length) HTR.out (by decide) (by decide) (by rw [HDN.out]; decide) HFR.out.gone HC.out (by decide) hE (by have := HTT.out; omega) (Nat.le_refl _) (by rw [List.take_length]; exact Nat.le_refl _) hf
        obtain rfl : k = bs.length := by omega
        rw [List.take_length] at h3 h4
        exact ⟨h3, by rw [h4, ← HTT.out]⟩
      have HRL : Hid ((recsAt 0 bs).length = m) := by show _ = _; rw [length_recsAt, HM.out]
      generalize recsAt 0 bs = rr at *
      clear f1 f2 f3 hfo p1 p2 p3 p4 hfe HL HP HF HTR HC HTT HM
      go_wp2_with fail
      refine HFO.out.mono ?_
      rintro e w3 ⟨rfl, hl3, _⟩
      have HL3 := Lib.hid hl3
      clear hl3 HFO hdj hdj2
      go_wp2_with fail
      go_loopw [15, 16] (fun v u wq => ∃ (j n1 c1 : Nat) (A1 : Option Addr), u = .int .i64 (j : Int) ∧ v = .slice A1 n1 c1 ∧ j ≤ 1 + k ∧ Hid (j = 0 ∨ (n1 = m ∧ RsN wq 0 A1 rr)) ∧ Hid (Lw w wq q p L M ⟨⟨0, 64, 0, T⟩, 1, T, false⟩ D2)) (fun _ u _ => 1 + k - (intOf u).toNat)
      case atStart => exact ⟨0, 0, 0, none, rfl, rfl, by omega, .inl rfl, HL3⟩
      case round =>
        obtain ⟨j, n1, c1, A1, rfl, rfl, hj, HJ, HLj⟩ := hrel
        rcases Nat.lt_or_ge j (1 + k) with hlt | hge
        · have hd1 : decide ((j : Int) < 1 + (k : Int)) = true := decide_eq_true (by omega)
          have HOE := Lib.hid (free_open HFR.out.gone (F := 0) (S := 64) (H := 0) (E := 2 + (j : Int)) (by rw [HDN.out]; omega))
          go_wp2_with fail
          refine (open_dr HLj.out.dr 0 64 0 (2 + (j : Int)) HOE.out).mono ?_
          rintro e w5 ⟨q2, rs2, t2, A2, n2, c2, rfl, hn2, _, _, hr2, hfd2, hlw2, hb2, _⟩
          obtain ⟨e1, e2⟩ := HOP.out _ _ _ (by omega) hfd2
          subst e1 e2
          have hn3 : n2 = m := by rw [hn2, HRL.out]
          subst hn3
          have HR2 := Lib.hid (hr2.le (Nat.zero_le _))
          have HY := Lib.hid hlw2
          have HX := Lib.hid (HLj.out.below hb2)
          have HJ2 : Hid (j = 0 ∨ (n1 = n2 ∧ RsN w5 0 A1 rs2)) := by rcases HJ.out with h | ⟨h1, h2⟩; exact .inl h; exact .inr ⟨h1, h2.up hb2⟩
          clear hr2 hfd2 hlw2 hb2 hn2 HLj HJ HOE
          have HYT : Hid (Calls Try.prog 19 #[ptr q2] w5 fun e V => e = .returned (.int .i64 t2) ∧ V = w5) := HY.out.tail
          have HXT : Hid (Calls Try.prog 19 #[ptr q] w5 fun e V => e = .returned (.int .i64 t2) ∧ V = w5) := HX.out.tail
          have HYS : Hid (Calls Try.prog 22 #[ptr q2] w5 fun e V => e = .returned (.int .i64 t2) ∧ V = w5) := HY.out.safe
          have HYH : Hid (Calls Try.prog 21 #[ptr q2] w5 fun e V => e = .returned (.int .i64 0) ∧ V = w5) := HY.out.head
          go_wp2_with fail
          refine HYT.out.mono ?_
          rintro e w' ⟨rfl, hw⟩
          replace hw := hw.symm
          subst hw
          go_wp2_with fail
          refine HXT.out.mono ?_
          rintro e w' ⟨rfl, hw⟩
          replace hw := hw.symm
          subst hw
          go_wp2_with fail
          refine HYS.out.mono ?_
          rintro e w' ⟨rfl, hw⟩
          replace hw := hw.symm
          subst hw
          go_wp2_with fail
          refine HXT.out.mono ?_
          rintro e w' ⟨rfl, hw⟩
          replace hw := hw.symm
          subst hw
          go_wp2_with fail
          refine HYH.out.mono ?_
          rintro e w' ⟨rfl, hw⟩
          replace hw := hw.symm
          subst hw
          clear HYT HXT HYS HYH
          rcases Nat.eq_zero_or_pos j with hj0 | hj0
          · subst hj0
            go_wp2_with fail
            exact ⟨⟨1, _, _, _, by go_num, rfl, by omega, .inr ⟨rfl, HR2.out⟩, HX⟩, by first | (simp [intOf]; done) | (simp [intOf]; omega)⟩
          · obtain ⟨m1, m2⟩ : n1 = n2 ∧ RsN w5 0 A1 rs2 := by rcases HJ2.out with h | h; exact absurd h (by omega); exact h
            subst m1
            have HJ3 := Lib.hid m2
            have hd2 : decide ((j : Int) > 0) = true := decide_eq_true (by omega)
            have hd2' : decide (0 < (j : Int)) = true := decide_eq_true (by omega)
            have hd2'' : decide (0 < j) = true := decide_eq_true hj0
            clear m2 HJ2
            go_wp2_with fail
            refine (theirs_any 0 w5 A2 n1 c2 rs2 HRL.out.symm (by omega) HR2.out (Nat.zero_le _)).mono ?_
            rintro e w6 ⟨A6, n6, c6, rfl, hn6, _, hr6, hb6⟩
            have hn7 : n6 = n1 := by rw [hn6, HRL.out]
            subst hn7
            have HR6 := Lib.hid hr6
            have HB6 := Lib.hid hb6
            have HJ6 := Lib.hid (HJ3.out.up hb6)
            clear hn6 hr6 hb6
            go_wp2_with fail
            refine (theirs_any 0 w6 A1 n6 c1 rs2 HRL.out.symm (by omega) HJ6.out (Nat.zero_le _)).mono ?_
            rintro e w7 ⟨A7, n7, c7, rfl, hn7, _, hr7, hb7⟩
            have hn8 : n7 = n6 := by rw [hn7, HRL.out]
            subst hn8
            have HR7 := Lib.hid hr7
            have HR67 := Lib.hid (HR6.out.up hb7)
            have HB7 := Lib.hid (below_two HB6.out hb7)
            clear hn7 hr7 hb7
            go_wp2_with fail
            refine (same_any 0 0 w7 A6 A7 n7 c6 c7 rs2 HRL.out.symm (by omega) HR67.out HR7.out).mono ?_
            rintro e w8 ⟨rfl, hb8⟩
            have HB8 := Lib.hid (below_two HB7.out hb8)
            have HX8 := Lib.hid (HX.out.below HB8.out)
            have HR8 := Lib.hid (HR2.out.up HB8.out)
            clear hb8
            go_wp2_with fail
            exact ⟨⟨j + 1, _, _, _, by go_num, rfl, by omega, .inr ⟨rfl, HR8.out⟩, HX8⟩, by simp [intOf]; omega⟩
        · have hd1 : decide ((j : Int) < 1 + (k : Int)) = false := decide_eq_false (by omega)
          have HXS : Hid (Calls Try.prog 22 #[ptr q] wr fun e V => e = .returned (.int .i64 T) ∧ V = wr) := HLj.out.safe
          have HXT : Hid (Calls Try.prog 19 #[ptr q] wr fun e V => e = .returned (.int .i64 T) ∧ V = wr) := HLj.out.tail
          have HBE := Lib.hid HLj.out.bel
          go_wp2_with fail
          refine HXS.out.mono ?_
          rintro e w' ⟨rfl, hw⟩
          replace hw := hw.symm
          subst hw
          go_wp2_with fail
          refine HXT.out.mono ?_
          rintro e w' ⟨rfl, hw⟩
          replace hw := hw.symm
          subst hw
          go_wp2_with fail
          go_ret
          exact ⟨rfl, HBE.out⟩

end Go.Proofs.Ytdjfahnnfhediaa
