/-
  WalRefuses: the walk: what has no room is not laid.
-/
import Derived.Test.YtdjfahnnfhediaaIn7
namespace Go.Proofs.Ytdjfahnnfhediaa
set_option maxRecDepth 100000
open Go.RowKit Crc Wm

/-- an append onto a log whose device is there for good, by its numbers -/
theorem Lg.step {F S H T E safe : Int} {D : Dv} {b : List UInt8} (on : (Lg.mk ⟨F, S, H, T⟩ E safe false).On D) (hf : D.Free) (hn : needN b ≤ 1024) (hT : T ≤ 1000000) :
    (S - (T - H) < (needN b : Int) ∧ Lg.appE ⟨⟨F, S, H, T⟩, E, safe, false⟩ D b = 5 ∧ Lg.appG ⟨⟨F, S, H, T⟩, E, safe, false⟩ D b = ⟨⟨F, S, H, T⟩, E, safe, false⟩ ∧ Lg.appD ⟨⟨F, S, H, T⟩, E, safe, false⟩ D b = D) ∨
    ((needN b : Int) ≤ S - (T - H) ∧ Lg.preE ⟨⟨F, S, H, T⟩, E, safe, false⟩ b = 0 ∧ Lg.appE ⟨⟨F, S, H, T⟩, E, safe, false⟩ D b = 0 ∧ Lg.appAt ⟨⟨F, S, H, T⟩, E, safe, false⟩ D b = T ∧ Lg.appG ⟨⟨F, S, H, T⟩, E, safe, false⟩ D b = ⟨⟨F, S, H, T + needN b⟩, E, safe, false⟩ ∧ (Lg.appD ⟨⟨F, S, H, T⟩, E, safe, false⟩ D b).Free) := by
  have hp := Lg.pre_free on rfl hn hT
  replace hp : Lg.preE ⟨⟨F, S, H, T⟩, E, safe, false⟩ b = if S - (T - H) < (needN b : Int) then 5 else 0 := hp
  by_cases hh : S - (T - H) < (needN b : Int)
  · rw [if_pos hh] at hp
    obtain ⟨e1, e2, e3⟩ := Lg.app_none (D := D) (show Lg.preE ⟨⟨F, S, H, T⟩, E, safe, false⟩ b ≠ 0 by rw [hp]; decide)
    exact .inl ⟨hh, by rw [e1, hp], e2, e3⟩
  · rw [if_neg hh] at hp
    obtain ⟨e1, e2, e3, e4, _⟩ := Lg.app_free hp hf
    exact .inr ⟨by omega, hp, e1, e2, e3, e4⟩

/-- byte(i) -/
theorem byte_of (i : Nat) (h : i < 256) : ∃ c : UInt8, (i : Int) = (c.toNat : Int) ∧ c = UInt8.ofNat i := by
  refine ⟨UInt8.ofNat i, ?_, rfl⟩
  rw [toNat_ofNat]
  omega

theorem need_511 {n : Nat} {c : UInt8} (h : n ≤ 511) : needN (someB n c) ≤ 12 := by
  have h1 := needN_pos (someB n c)
  have h2 := needN_bd (someB n c)
  rw [length_someB] at h2
  by_cases hh : needN (someB n c) ≤ 12
  · exact hh
  · have := h2.2.1
    omega
/-- the first number of pieces that have room for so many bytes -/
theorem need_first {k j : Nat} {c : UInt8} (h1 : 1 ≤ j) (h2 : j ≤ needN (someB k c)) (h3 : k ≤ 44 * j) : j = needN (someB k c) := by
  have hb := needN_bd (someB k c)
  rw [length_someB] at hb
  by_cases hh : 1 < needN (someB k c)
  · have := hb.2.2 hh
    omega
  · omega
theorem need_more {k j : Nat} {c : UInt8} (_h1 : 1 ≤ j) (h2 : 44 * j < k) : j + 1 ≤ needN (someB k c) := by
  have hb := needN_bd (someB k c)
  rw [length_someB] at hb
  omega

theorem drop_above {F S H T E safe to_ : Int} (h : to_ < H ∨ T < to_) : Lg.dropE ⟨⟨F, S, H, T⟩, E, safe, false⟩ to_ = 1 ∧ Lg.dropG ⟨⟨F, S, H, T⟩, E, safe, false⟩ to_ = ⟨⟨F, S, H, T⟩, E, safe, false⟩ := by
  have e : Lg.dropE ⟨⟨F, S, H, T⟩, E, safe, false⟩ to_ = 1 := by
    unfold Lg.dropE
    rw [if_neg (by exact Bool.false_ne_true)]
    unfold Rg.dropE
    rw [if_neg]
    simp only [Bool.and_eq_true, decide_eq_true_eq]
    show ¬ (_ ∧ H ≤ to_ ∧ to_ ≤ T)
    omega
  exact ⟨e, by unfold Lg.dropG; rw [e, if_neg (by decide)]⟩

set_option maxHeartbeats 400000 in
theorem refuses_walk (A0 : Option Addr) (cap0 len0 : Nat) (f0 : Nat → Int) (n to_ : Int) (w : World) (hi0 : Is w A0 len0 f0) : Calls Try.prog 7 #[.slice A0 len0 cap0, .int .i64 n, .int .i64 to_] w fun e w' => e = .returned (.bool true) ∧ Below w.heap.size w w' := by
  have HI := Lib.hid hi0
  clear hi0
  by_cases hlen : 20 < len0
  · have d1 : decide ((len0 : Int) > 20) = true := decide_eq_true (by omega)
    have d1' : decide (20 < (len0 : Int)) = true := decide_eq_true (by omega)
    have d1'' : decide (20 < len0) = true := decide_eq_true hlen
    go_enter Try.func7, Try.ntmps7
    go_wp2_with fail
    refine (awake_any w).mono ?_
    rintro e w0 ⟨rfl, hb⟩
    have HB := Lib.hid hb
    clear hb
    go_wp2_with fail
    go_ret
    exact ⟨rfl, HB.out⟩
  have d1 : decide ((len0 : Int) > 20) = false := decide_eq_false (by omega)
  have d1' : decide (20 < (len0 : Int)) = false := decide_eq_false (by omega)
  have d1'' : decide (20 < len0) = false := decide_eq_false hlen
  obtain ⟨k, hk, hkb⟩ := low n 511 9 (by decide) (by omega)
  obtain ⟨x, hx, hxb⟩ := low to_ 255 8 (by decide) (by omega)
  have hk' : k < 512 := hk
  have hx' : x < 256 := hx
  clear hk hx
  go_enter Try.func7, Try.ntmps7
  go_wp2_with fail
  refine (awake_any w).mono ?_
  rintro e w0 ⟨rfl, hb⟩
  have HB := Lib.hid hb
  clear hb
  go_wp2_with fail
  refine (newdr (w := w) HB.out 20 (by omega) (by omega)).mono ?_
  rintro e w1 ⟨p, L, M, rfl, hd1, _, _, _, _⟩
  have HD1 := Lib.hid hd1
  clear hd1 d1 d1' d1''
  go_wp2_with fail
  refine (open_dr HD1.out 0 8 0 1 (fresh_open 20 (by decide))).mono ?_
  rintro e w2 ⟨q, rs, t, A1, n1, c1, rfl, _, _, _, _, hfd, hlw, _, _⟩
  obtain ⟨_, ht⟩ := found_none (fun _ => rfl) (fun _ => rfl) (by decide) (by decide) (by decide) rfl (by decide) hfd
  subst ht
  have HL2 := Lib.hid hlw
  clear hfd hlw HD1 HB
  go_wp2_with fail
  go_loopw [13] (fun u wr => ∃ (i : Nat) (T : Int) (D : Dv), u = .int .i64 (i : Int) ∧ i ≤ len0 ∧ (0 ≤ T ∧ T ≤ 8) ∧ Hid (Lw w wr q p L M ⟨⟨0, 8, 0, T⟩, 1, 0, false⟩ D) ∧ Hid D.Free ∧ Hid (D.spent ≤ 3 * i)) (fun u _ => len0 - (intOf u).toNat)
  case atStart => exact ⟨0, 0, .fresh 20, rfl, Nat.zero_le _, by decide, HL2, Dv.free_fresh 20, Nat.le_refl _⟩
  case round =>
    obtain ⟨i, T, D, rfl, hi, hT, HL, HF, HS⟩ := hrel
    rcases Nat.lt_or_ge i len0 with hlt | hge
    · obtain ⟨b, o, hA, hc⟩ := HI.out.get HL.out.bel hlt
      subst hA
      obtain ⟨y, hy, hyb⟩ := low (f0 i) 127 7 (by decide) (by omega)
      have hy' : y ≤ 127 := by have : y < 128 := hy; omega
      obtain ⟨c, hcw, _⟩ := byte_of i (by omega)
      have HCW := Lib.hid hcw
      have hdj : decide ((i : Int) < (len0 : Int)) = true := decide_eq_true (by omega)
      have hdj2 : decide (i < len0) = true := decide_eq_true hlt
      have hi2 : (i : Int) < (len0 : Int) := by omega
      have HST := Lib.hid (Lg.step HL.out.on HF.out (b := someB y c) (by have := (need_127 (c := c) hy').2; omega) (by omega))
      have HSP := Lib.hid (Lg.appD_spent ⟨⟨0, 8, 0, T⟩, 1, 0, false⟩ D (someB y c))
      have HN3 := Lib.hid (need_127 (c := c) hy')
      generalize f0 i = fi at *
      clear hy hcw
      go_wp2_with fail
      refine (some_at y (by omega) c _ HCW.out _).mono ?_
      rintro e w3 ⟨A3, n3, rfl, ho3, hb3⟩
      have HL3 := Lib.hid (HL.out.below hb3)
      have HO3 := Lib.hid ho3
      clear ho3 hb3 HL hc hyb
      go_wp2_with fail
      refine (HL3.out.append (Nat.le_trans HS.out (by omega)) A3 y n3 (someB y c) HO3.out.lies (by omega)).mono ?_
      rintro e w4 ⟨rfl, hl4, _⟩
      have HL4 := Lib.hid hl4
      clear hl4 HL3 HO3
      go_wp2_with fail
      rcases HST.out with ⟨h1, h2, h3, h4⟩ | ⟨h1, h2, h3, _, h4, h5⟩
      · have hl := HL4.out
        rw [h3, h4] at hl
        exact ⟨⟨i + 1, T, D, by go_num, by omega, hT, hl, HF, Nat.le_trans HS.out (by omega)⟩, by simp [intOf]; omega⟩
      · have hl := HL4.out
        rw [h4] at hl
        have hn1 := HN3.out.1
        exact ⟨⟨i + 1, _, _, by go_num, by omega, by omega, hl, h5, by have h1 := HSP.out; have h2 := HS.out; have h3 := HN3.out.2; show _ ≤ _; omega⟩, by simp [intOf]; omega⟩
    · obtain rfl : i = len0 := by omega
      have hdj : decide ((i : Int) < (i : Int)) = false := decide_eq_false (by omega)
      have hdj2 : decide (i < i) = false := decide_eq_false (by omega)
      have hTL := HL.out.tail
      have HTL : Hid (Calls Try.prog 19 #[ptr q] wr fun e V => e = .returned (.int .i64 T) ∧ V = wr) := hTL
      clear hTL
      go_wp2_with fail
      refine HTL.out.mono ?_
      rintro e w' ⟨rfl, hw⟩
      replace hw := hw.symm
      subst hw
      have HFR : Hid (Calls Try.prog 23 #[ptr q] wr fun e V => e = .returned (.int .i64 (8 - (T - 0))) ∧ Lw w V q p L M ⟨⟨0, 8, 0, T⟩, 1, 0, false⟩ D ∧ Below wr.heap.size wr V) := HL.out.free
      clear HTL
      go_wp2_with fail
      refine HFR.out.mono ?_
      rintro e w3 ⟨rfl, hl3, _⟩
      have HL3 := Lib.hid hl3
      clear hl3 HFR
      have hfr : (8 : Int) - (T - 0) = 8 - T := by omega
      rw [hfr]
      clear hfr
      go_wp2_with fail
      refine (some_any k (by omega) 1 _).mono ?_
      rintro e w4 ⟨A4, n4, rfl, ho4, hb4⟩
      have HL4 := Lib.hid (HL3.out.below hb4)
      have HO4 := Lib.hid ho4
      clear ho4 hb4 HL3 HL
      have HN12 := Lib.hid (need_511 (c := 1) (show k ≤ 511 by omega))
      have HST := Lib.hid (Lg.step HL4.out.on HF.out (b := someB k 1) (by have := HN12.out; omega) (by omega))
      go_wp2_with fail
      refine (HL4.out.append (Nat.le_trans HS.out (by omega)) A4 k n4 (someB k 1) HO4.out.lies (by omega)).mono ?_
      rintro e w5 ⟨rfl, hl5, _⟩
      have HL5 := Lib.hid hl5
      have HND := Lib.hid (fun (j : Nat) h1 h2 h3 => need_first (c := 1) (k := k) (j := j) h1 h2 h3)
      have HNM := Lib.hid (fun (j : Nat) h1 h2 => need_more (c := 1) (k := k) (j := j) h1 h2)
      have HNP := Lib.hid (needN_pos (someB k 1))
      clear hl5 HL4 HO4
      obtain ⟨T', D', ef, at5, N, hcase, HLW⟩ : ∃ (T' : Int) (D' : Dv) (ef at5 : Int) (N : Nat), Hid (Lg.appE ⟨⟨0, 8, 0, T⟩, 1, 0, false⟩ D (someB k 1) = ef ∧ Lg.appAt ⟨⟨0, 8, 0, T⟩, 1, 0, false⟩ D (someB k 1) = at5 ∧ needN (someB k 1) = N ∧ ((8 - T < (N : Int) ∧ ef = 5 ∧ T' = T) ∨ ((N : Int) ≤ 8 - T ∧ ef = 0 ∧ T' = T + N))) ∧ Hid (Lw w w5 q p L M ⟨⟨0, 8, 0, T'⟩, 1, 0, false⟩ D') := by
        rcases HST.out with ⟨h1, h2, h3, h4⟩ | ⟨h1, _, h2, _, h4, h5⟩
        · refine ⟨T, D, 5, Lg.appAt ⟨⟨0, 8, 0, T⟩, 1, 0, false⟩ D (someB k 1), needN (someB k 1), ⟨h2, rfl, rfl, .inl ⟨by omega, rfl, rfl⟩⟩, ?_⟩
          have := HL5.out
          rw [h3, h4] at this
          exact this
        · refine ⟨T + needN (someB k 1), Lg.appD ⟨⟨0, 8, 0, T⟩, 1, 0, false⟩ D (someB k 1), 0, Lg.appAt ⟨⟨0, 8, 0, T⟩, 1, 0, false⟩ D (someB k 1), needN (someB k 1), ⟨h2, rfl, rfl, .inr ⟨by omega, rfl, rfl⟩⟩, ?_⟩
          have := HL5.out
          rw [h4] at this
          exact this
      have HE := Lib.hid hcase.out.1
      have HAT := Lib.hid hcase.out.2.1
      have hcs := hcase.out.2.2.2
      have hNe := hcase.out.2.2.1
      rw [hNe] at HND HNM HNP HN12
      have hN1 : 1 ≤ N := HNP.out
      have hN2 : N ≤ 12 := HN12.out
      rw [HE.out, HAT.out]
      clear hcase HE HAT HST HL5 hNe
      go_wp2_with fail
      go_loopw [19] (fun u wq => ∃ j : Nat, u = .int .i64 (j : Int) ∧ 1 ≤ j ∧ j ≤ N ∧ wq = w5) (fun u _ => N - (intOf u).toNat)
      case atStart => exact ⟨1, rfl, Nat.le_refl _, hN1, rfl⟩
      case round =>
        obtain ⟨j, rfl, hj1, hjN, hwq⟩ := hrel
        subst hwq
        have hw44 : IntKind.i64.wrap (44 * (j : Int)) = ((44 * j : Nat) : Int) := by rw [IntKind.wrap_i64]; omega
        by_cases hjk : 44 * j < k
        · have hd : decide (((44 * j : Nat) : Int) < (k : Int)) = true := decide_eq_true (by omega)
          have hd2 : decide (44 * j < k) = true := decide_eq_true hjk
          have hnm := HNM.out j hj1 hjk
          go_wp2_with fail
          exact ⟨⟨j + 1, by go_num, by omega, hnm, by first | rfl | trivial⟩, by simp [intOf]; omega⟩
        · have hd : decide (((44 * j : Nat) : Int) < (k : Int)) = false := decide_eq_false (by omega)
          have hd2 : decide (44 * j < k) = false := decide_eq_false hjk
          have hjn : j = N := HND.out j hj1 hjN (by omega)
          subst hjn
          clear HND HNM HNP HN12
          have HTL : Hid (Calls Try.prog 19 #[ptr q] wr fun e V => e = .returned (.int .i64 T') ∧ V = wr) := HLW.out.tail
          have HHD : Hid (∀ V, Lw w V q p L M ⟨⟨0, 8, 0, T'⟩, 1, 0, false⟩ D' → Calls Try.prog 21 #[ptr q] V fun e V' => e = .returned (.int .i64 0) ∧ V' = V) := fun V hV => hV.head
          obtain ⟨g1, g2⟩ := drop_above (F := 0) (S := 8) (H := 0) (T := T') (E := 1) (safe := 0) (to_ := T' + 1 + (x : Int)) (.inr (by omega))
          obtain ⟨g3, g4⟩ := drop_above (F := 0) (S := 8) (H := 0) (T := T') (E := 1) (safe := 0) (to_ := 0 - 1 - (x : Int)) (.inl (by omega))
          have HG := Lib.hid (show _ ∧ _ ∧ _ ∧ _ from ⟨g1, g2, g3, g4⟩)
          have hTb : 0 ≤ T' ∧ T' ≤ 100 := by omega
          clear g1 g2 g3 g4
          go_wp2_with fail
          refine HTL.out.mono ?_
          rintro e w' ⟨rfl, hw⟩
          replace hw := hw.symm
          subst hw
          go_wp2_with fail
          refine (HLW.out.drop _).mono ?_
          rintro e w6 ⟨rfl, hl6, _⟩
          rw [(drop_above (.inr (by omega))).1]
          rw [(drop_above (.inr (by omega))).2] at hl6
          have HL6 := Lib.hid hl6
          clear hl6 HTL HG
          go_wp2_with fail
          refine (HHD.out _ HL6.out).mono ?_
          rintro e w' ⟨rfl, hw⟩
          replace hw := hw.symm
          subst hw
          go_wp2_with fail
          refine (HL6.out.drop _).mono ?_
          rintro e w7 ⟨rfl, hl7, _⟩
          rw [(drop_above (.inl (by omega))).1]
          rw [(drop_above (.inl (by omega))).2] at hl7
          have HL7 := Lib.hid hl7
          have HB7 := Lib.hid hl7.bel
          clear hl7 HL6 HHD
          have HTL : Hid (Calls Try.prog 19 #[ptr q] w7 fun e V => e = .returned (.int .i64 T') ∧ V = w7) := HL7.out.tail
          have HFR : Hid (Calls Try.prog 23 #[ptr q] w7 fun e V => e = .returned (.int .i64 (8 - (T' - 0))) ∧ Lw w V q p L M ⟨⟨0, 8, 0, T'⟩, 1, 0, false⟩ D' ∧ Below w7.heap.size w7 V) := HL7.out.free
          rcases hcs with ⟨m1, rfl, rfl⟩ | ⟨m1, rfl, rfl⟩
          · have hd5 : ((5 : Int) == 0) = false := rfl
            have hm1 : decide ((j : Int) > 8 - T') = true := decide_eq_true (by omega)
            have hm2 : decide (8 - T' < (j : Int)) = true := decide_eq_true (by omega)
            have hfr : (8 : Int) - (T' - 0) = 8 - T' := by omega
            clear m1
            go_wp2_with fail
            refine HTL.out.mono ?_
            rintro e w' ⟨rfl, hw⟩
            replace hw := hw.symm
            subst hw
            go_wp2_with fail
            refine HFR.out.mono ?_
            rintro e w8 ⟨rfl, hl8, _⟩
            have HB8 := Lib.hid hl8.bel
            clear hl8
            rw [hfr]
            go_wp2_with fail
            go_ret
            exact ⟨rfl, HB8.out⟩
          · have hd5 : ((0 : Int) == 0) = true := rfl
            have hm1 : decide ((j : Int) ≤ 8 - T) = true := decide_eq_true (by omega)
            clear m1
            go_wp2_with fail
            refine HTL.out.mono ?_
            rintro e w' ⟨rfl, hw⟩
            replace hw := hw.symm
            subst hw
            go_wp2_with fail
            go_ret
            exact ⟨rfl, HB7.out⟩

end Go.Proofs.Ytdjfahnnfhediaa
