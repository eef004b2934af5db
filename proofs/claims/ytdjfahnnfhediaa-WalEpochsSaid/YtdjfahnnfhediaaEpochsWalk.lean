/-
  WalEpochs: the walk: a record of an elder epoch ends all.
-/
import Derived.Test.YtdjfahnnfhediaaRefusesWalk
import Derived.Test.YtdjfahnnfhediaaEpochs7
import Derived.Test.YtdjfahnnfhediaaRecsMany
namespace Go.Proofs.Ytdjfahnnfhediaa
set_option maxRecDepth 100000
open Go.RowKit Crc Wm

/-- byte(i), from 100 on -/
theorem byte_100 (i : Nat) (h : i < 100) : ∃ c : UInt8, 100 + (i : Int) = (c.toNat : Int) := by
  refine ⟨UInt8.ofNat (100 + i), ?_⟩
  rw [toNat_ofNat]
  omega

theorem Lw.grown {w W V : World} {q p L M B : Nat} {G : Lg} {D : Dv} (h : Lw w W q p L M G D) {row : Option Nat} (hg : W.grownBy V row) (hr : ∀ j, row = some j → B ≤ j) (hlt : ∀ k, LS q p L M k → k < B) (hwB : w.heap.size ≤ B) : Lw w V q p L M G D := by
  have ht : Turn (fun k => row = some k) W V := (Turn.refl _ _).grown hg (fun j hj => .inl hj)
  have hn : ∀ k, LS q p L M k → ¬ (row = some k) := fun k hk e => by have h1 := hlt k hk; have h2 := hr k e; omega
  exact ⟨h.log.turn ht (hn q (.inr rfl)), h.dev.turn ht (hn p (.inl (.inl rfl))) (hn L (.inl (.inr (.inl rfl)))) (hn M (.inl (.inr (.inr rfl)))), h.bel.trans (ht.below (fun k hk => Nat.le_trans hwB (hr k hk)) h.bel.size), h.lo, h.on⟩

theorem spent_settle (D : Dv) (keep : Nat → Bool) : (D.crash keep).spent = D.spent := rfl

set_option maxHeartbeats 2000000 in
theorem epochs_walk (A0 A1 A2 A3 : Option Addr) (cap0 cap1 cap2 cap3 len0 len1 len2 len3 : Nat) (f0 f1 : Nat → Int) (f2 f3 : Nat → Bool) (w : World) (hi0 : Is w A0 len0 f0) (hi1 : Is w A1 len1 f1) (hb2 : BoolsAt w A2 len2 f2) (hb3 : BoolsAt w A3 len3 f3) :
    Calls Try.prog 4 #[.slice A0 len0 cap0, .slice A1 len1 cap1, .slice A2 len2 cap2, .slice A3 len3 cap3] w fun e w' => e = .returned (.bool true) ∧ Below w.heap.size w w' := by
  have HI := Lib.hid hi0
  have HJ := Lib.hid hi1
  have HK := Lib.hid hb2
  have HH := Lib.hid hb3
  clear hi0 hi1 hb2 hb3
  by_cases hlen : 12 < len0 ∨ 12 < len1 ∨ 100 < len2 ∨ 100 < len3
  · go_enter Try.func4, Try.ntmps4
    go_wp2_with fail
    refine (awake_any w).mono ?_
    rintro e w0 ⟨rfl, hb⟩
    have HB := Lib.hid hb
    clear hb
    rcases (show 12 < len0 ∨ (len0 ≤ 12 ∧ 12 < len1) ∨ (len0 ≤ 12 ∧ len1 ≤ 12 ∧ 100 < len2) ∨ (len0 ≤ 12 ∧ len1 ≤ 12 ∧ len2 ≤ 100 ∧ 100 < len3) by omega) with h | ⟨h, h2⟩ | ⟨h, h2, h3⟩ | ⟨h, h2, h3, h4⟩
    · have d1 : decide ((len0 : Int) > 12) = true := decide_eq_true (by omega)
      have d1' : decide (12 < (len0 : Int)) = true := decide_eq_true (by omega)
      have d1'' : decide (12 < len0) = true := decide_eq_true h
      clear hlen
      go_wp2_with fail
      go_ret
      exact ⟨rfl, HB.out⟩
    · have d1 : decide ((len0 : Int) > 12) = false := decide_eq_false (by omega)
      have d1'' : decide (12 < len0) = false := decide_eq_false (by omega)
      have d2 : decide ((len1 : Int) > 12) = true := decide_eq_true (by omega)
      have d2'' : decide (12 < len1) = true := decide_eq_true h2
      clear hlen
      go_wp2_with fail
      go_ret
      exact ⟨rfl, HB.out⟩
    · have d1 : decide ((len0 : Int) > 12) = false := decide_eq_false (by omega)
      have d1'' : decide (12 < len0) = false := decide_eq_false (by omega)
      have d2 : decide ((len1 : Int) > 12) = false := decide_eq_false (by omega)
      have d2'' : decide (12 < len1) = false := decide_eq_false (by omega)
      have d3 : decide ((len2 : Int) > 100) = true := decide_eq_true (by omega)
      have d3'' : decide (100 < len2) = true := decide_eq_true h3
      clear hlen
      go_wp2_with fail
      go_ret
      exact ⟨rfl, HB.out⟩
    · have d1 : decide ((len0 : Int) > 12) = false := decide_eq_false (by omega)
      have d1'' : decide (12 < len0) = false := decide_eq_false (by omega)
      have d2 : decide ((len1 : Int) > 12) = false := decide_eq_false (by omega)
      have d2'' : decide (12 < len1) = false := decide_eq_false (by omega)
      have d3 : decide ((len2 : Int) > 100) = false := decide_eq_false (by omega)
      have d3'' : decide (100 < len2) = false := decide_eq_false (by omega)
      have d4 : decide ((len3 : Int) > 100) = true := decide_eq_true (by omega)
      have d4'' : decide (100 < len3) = true := decide_eq_true h4
      clear hlen
      go_wp2_with fail
      go_ret
      exact ⟨rfl, HB.out⟩
  have d1 : decide ((len0 : Int) > 12) = false := decide_eq_false (by omega)
  have d1'' : decide (12 < len0) = false := decide_eq_false (by omega)
  have d2 : decide ((len1 : Int) > 12) = false := decide_eq_false (by omega)
  have d2'' : decide (12 < len1) = false := decide_eq_false (by omega)
  have d3 : decide ((len2 : Int) > 100) = false := decide_eq_false (by omega)
  have d3'' : decide (100 < len2) = false := decide_eq_false (by omega)
  have d4 : decide ((len3 : Int) > 100) = false := decide_eq_false (by omega)
  have d4'' : decide (100 < len3) = false := decide_eq_false (by omega)
  have hl12 : len0 ≤ 12 ∧ len1 ≤ 12 := by omega
  clear hlen
  obtain ⟨i0, hi, hz0, hz1, hz2⟩ := info_parts rec_facts
  have HSL := Lib.hid (show _ ∧ _ ∧ _ ∧ _ from ⟨hi, hz0, hz1, hz2⟩)
  clear hi hz0 hz1 hz2
  go_enter Try.func4, Try.ntmps4
  go_wp2_with fail
  refine (awake_any w).mono ?_
  rintro e w0 ⟨rfl, hb⟩
  have HB := Lib.hid hb
  clear hb
  go_wp2_with fail
  refine (newdr (w := w) HB.out 64 (by omega) (by omega)).mono ?_
  rintro e w1 ⟨p, L, M, rfl, hd1, _, _, _, _⟩
  have HD1 := Lib.hid hd1
  clear hd1 d1 d1'' d2 d2'' d3 d3'' d4 d4''
  go_wp2_with fail
  refine (open_dr HD1.out 0 64 0 1 (fresh_open 64 (by decide))).mono ?_
  rintro e w2 ⟨q, rs, t, A5, n5, c5, rfl, _, _, _, _, hfd, hlw, _, _⟩
  obtain ⟨_, ht⟩ := found_none (fun _ => rfl) (fun _ => rfl) (by decide) (by decide) (by decide) rfl (by decide) hfd
  subst ht
  have HL2 := Lib.hid hlw
  clear hfd hlw HD1 HB
  go_wp2_with fail
  go_loopw [15] (fun u wr => ∃ (i : Nat) (T : Int) (D : Dv) (bs : List (List UInt8)), u = .int .i64 (i : Int) ∧ i ≤ len0 ∧ (0 ≤ T ∧ T ≤ 64) ∧ Hid (Lw w wr q p L M ⟨⟨0, 64, 0, T⟩, 1, 0, false⟩ D) ∧ Hid D.Free ∧ Hid (D.spent ≤ 3 * i) ∧ Hid (Cuts 1 0 bs ∧ T = tailOf 0 bs ∧ D.n = 64 ∧ Tr ⟨0, 64, 0, 0⟩ 0 zeroC D (piecesAt 1 0 bs) (piecesAt 1 0 bs).length 0)) (fun u _ => len0 - (intOf u).toNat)
  case atStart => exact ⟨0, 0, .fresh 64, [], rfl, Nat.zero_le _, by decide, HL2, Dv.free_fresh 64, Nat.le_refl _, trivial, rfl, rfl, Tr.start' (fun _ => rfl) (fun _ => rfl)⟩
  case round =>
    obtain ⟨i, T, D, bs, rfl, hi, hT, HL, HF, HS, HP⟩ := hrel
    rcases Nat.lt_or_ge i len0 with hlt | hge
    · obtain ⟨b, o, hA, hc⟩ := HI.out.get HL.out.bel hlt
      subst hA
      obtain ⟨y, hy, hyb⟩ := low (f0 i) 127 7 (by decide) (by omega)
      have hy' : y ≤ 127 := by have : y < 128 := hy; omega
      obtain ⟨c, hcw, _⟩ := byte_of i (by omega)
      have HCW := Lib.hid hcw
      have hdj : decide ((i : Int) < (len0 : Int)) = true := decide_eq_true (by omega)
      have hdj2 : decide (i < len0) = true := decide_eq_true hlt
      have hi2 : (i : Int) < (len0 : Int) := by omega
      have HST := Lib.hid (Lg.step HL.out.on HF.out (b := someB y c) (by have := (need_127 (c := c) hy').2; omega) (by omega))
      have HSP := Lib.hid (Lg.appD_spent ⟨⟨0, 64, 0, T⟩, 1, 0, false⟩ D (someB y c))
      have HN3 := Lib.hid (need_127 (c := c) hy')
      have HON := Lib.hid HL.out.on
      generalize f0 i = fi at *
      clear hy hcw
      go_wp2_with fail
      refine (some_at y (by omega) c _ HCW.out _).mono ?_
      rintro e w3 ⟨A6, n6, rfl, ho3, hb3⟩
      have HL3 := Lib.hid (HL.out.below hb3)
      have HO3 := Lib.hid ho3
      clear ho3 hb3 HL hc hyb
      go_wp2_with fail
      refine (HL3.out.append (Nat.le_trans HS.out (by omega)) A6 y n6 (someB y c) HO3.out.lies (by omega)).mono ?_
      rintro e w4 ⟨rfl, hl4, _⟩
      have HL4 := Lib.hid hl4
      clear hl4 HL3 HO3
      go_wp2_with fail
      rcases HST.out with ⟨h1, h2, h3, h4⟩ | ⟨h1, h0, h2, h2', h3, h5⟩
      · have hl := HL4.out
        rw [h3, h4] at hl
        exact ⟨⟨i + 1, T, D, bs, by go_num, by omega, hT, hl, HF, Nat.le_trans HS.out (by omega), HP⟩, by simp [intOf]; omega⟩
      · have hl := HL4.out
        obtain ⟨p1, p2, p3, p4⟩ := HP.out
        obtain ⟨⟨g', _, _, k3, k4⟩, k5, k6, k7⟩ := lay_app p4 p1 p2 rfl HON.out h0 rfl rfl (Int.le_refl _) (Nat.zero_le _)
        rw [k3 h5.gone] at k4
        rw [h3] at hl
        have hn1 := HN3.out.1
        exact ⟨⟨i + 1, _, _, bs ++ [someB y c], by go_num, by omega, by omega, hl, h5, (by have h1 := HSP.out; have h2 := HS.out; have h3 := HN3.out.2; show _ ≤ _; omega), k5, k6.symm, (by rw [Lg.appD_n]; exact p3), k4⟩, by simp [intOf]; omega⟩
    · have hil : i = len0 := by omega
      have hdj : decide ((i : Int) < (len0 : Int)) = false := decide_eq_false (by omega)
      have hdj2 : decide (i < len0) = false := decide_eq_false (by omega)
      obtain ⟨p1, p2, p3, p4⟩ := HP.out
      have hlen := length_piecesAt 1 bs 0
      have HBO := Lib.hid (HL.out.dr.bools HK.out)
      have HCR := Lib.hid (crash_any HL.out.dev (Nat.le_trans HS.out (by omega)) cap2 HBO.out)
      have HONE := Lib.hid (fun (old : List (Int × List UInt8)) (T1 : Int) (h : Fnd (ringL (D.crash (kp len2 f2)) ⟨0, 64, 0, 0⟩) 0 2 old T1) => One.of p4 p1 p3 (by omega) (kp len2 f2) h)
      have HDR := Lib.hid HL.out.dr
      have HFC := Lib.hid (Dv.free_crash D (kp len2 f2))
      have HNC : Hid ((D.crash (kp len2 f2)).n = 64) := p3
      have HSC : Hid ((D.crash (kp len2 f2)).spent ≤ 40) := Nat.le_trans HS.out (by omega)
      clear p1 p2 p3 p4 hlen HP HBO HL HF HS
      generalize D.crash (kp len2 f2) = DC at *
      go_wp2_with fail
      refine HCR.out.mono ?_
      rintro e w3 ⟨rfl, hd3, ht3⟩
      have HD3 := Lib.hid (HDR.out.turn hd3 ht3)
      clear hd3 ht3 HCR HDR hdj hdj2
      go_wp2_with fail
      refine (open_dr HD3.out 0 64 0 2 (free_open HFC.out.gone (by rw [HNC.out]; decide))).mono ?_
      rintro e w4 ⟨q2, old, T1, A6, n6, c6, rfl, hn6, hn64, _, hr6, hfd6, hlw6, hb6, hq2⟩
      have HLT : Hid (∀ k, LS q2 p L M k → k < q2 + 1) := by
        intro k hk
        have h := HD3.out.dev.lt
        rcases hk with (rfl | rfl | rfl) | rfl <;> omega
      have HQW : Hid (q2 < w4.heap.size) := hlw6.log.lt
      have HWQ : Hid (w.heap.size ≤ q2 + 1) := by have := HD3.out.bel.size; show _ ≤ _; omega
      have HO := Lib.hid (HONE.out old T1 hfd6)
      have HL4 := Lib.hid hlw6
      have HR4 := Lib.hid hr6
      have HN6 := Lib.hid hn6
      clear hn6 hr6 hfd6 hlw6 hb6 HD3 HONE
      have HBN : Hid (Below w4.heap.size w4 (w4.alloc (.cells #[] 42))) := below_new w4 _
      have HLIT := Lib.hid (rs_lit 42 w4 (q2 + 1) HQW.out)
      have HTO := Lib.hid HO.out.t
      obtain ⟨hi', hz0, hz1, hz2⟩ := HSL.out
      go_upto_region 13 with (at_builtin; go_loud (refine wpList_append_recs rfl (.tmp 83) (.tmp 84) _ rfl (q2 + 1) i0 Try.underlying30 hi' hz0 hz1 hz2 (.slice (some ⟨w4.heap.size, 0, none⟩) 0 0) [] rfl HLIT.out w4 HBN.out (by intro g hg; have hg2 : some w4.heap.size = some g := hg; injection hg2 with hg2; omega) A6 old n6 c6 rfl HR4.out HN6.out.symm (by simp; omega) (by have h1 := HQW.out; have h2 := HBN.out.size; omega) ?_; intro v5 w5 hr5 hg5 hat5; rw [List.nil_append] at hr5; have HR5 := Lib.hid hr5; have HL5 := Lib.hid ((HL4.out.below HBN.out).grown (B := q2 + 1) hg5 (by intro j hj; have hj2 : some w4.heap.size = some j := hj; injection hj2 with hj2; have := HQW.out; omega) HLT.out HWQ.out); have HQ5 : Hid (q2 < w5.heap.size) := (by have h1 := hg5.size; have h2 := HQW.out; have h3 := HBN.out.size; show _ < _; omega); clear hr5 hg5 hat5))
      clear hi' hz0 hz1 hz2
      obtain ⟨A7, c7, hv7, _, _⟩ := HR5.out.form
      rw [HN6.out.symm] at hv7
      subst hv7
      have hT1 := HTO.out
      go_wp2_with fail
      go_loopw [19, 20] (fun v u wr => ∃ (j n : Nat) (A : Option Addr) (c : Nat) (T : Int) (D : Dv) (bs : List (List UInt8)), u = .int .i64 (j : Int) ∧ v = .slice A n c ∧ j ≤ len1 ∧ n ≤ 4096 + j ∧ (0 ≤ T ∧ T ≤ 64) ∧ Hid (n = n6 + bs.length) ∧ Hid (Lw w wr q2 p L M ⟨⟨0, 64, 0, T⟩, 2, T1, false⟩ D) ∧ Hid D.Free ∧ Hid (D.spent ≤ 40 + 3 * j) ∧ Hid (Cuts 2 T1 bs ∧ T = tailOf T1 bs ∧ D.n = 64 ∧ Tr ⟨0, 64, 0, 0⟩ T1 DC.laid D (piecesAt 2 T1 bs) (piecesAt 2 T1 bs).length 0) ∧ Hid (Rs 42 wr (q2 + 1) (.slice A n c) (old ++ recsAt T1 bs)) ∧ Hid (q2 < wr.heap.size)) (fun _ u _ => len1 - (intOf u).toNat)
      case atStart => exact ⟨0, n6, A7, c7, T1, DC, [], rfl, rfl, Nat.zero_le _, by omega, hT1, rfl, HL5, HFC, HSC, ⟨trivial, rfl, HNC.out, Tr.start' HO.out.late (fun _ => rfl)⟩, by simpa [recsAt] using HR5, HQ5⟩
      case round =>
        obtain ⟨j, n, A, c, T, D, bs, rfl, rfl, hj, hn4, hT, HN, HL, HF, HS, HP, HR, HQ⟩ := hrel
        obtain ⟨wq, hwq⟩ : ∃ wq, wq = wr := ⟨_, rfl⟩
        subst hwq
        rcases Nat.lt_or_ge j len1 with hlt | hge
        · obtain ⟨b, o, hA, hc⟩ := HJ.out.get HL.out.bel hlt
          subst hA
          obtain ⟨y, hy, hyb⟩ := low (f1 j) 127 7 (by decide) (by omega)
          have hy' : y ≤ 127 := by have : y < 128 := hy; omega
          obtain ⟨cc, hcw⟩ := byte_100 j (by omega)
          have HCW := Lib.hid hcw
          have hdj : decide ((j : Int) < (len1 : Int)) = true := decide_eq_true (by omega)
          have hdj2 : decide (j < len1) = true := decide_eq_true hlt
          have hi2 : (j : Int) < (len1 : Int) := by omega
          have HST := Lib.hid (Lg.step HL.out.on HF.out (b := someB y cc) (by have := (need_127 (c := cc) hy').2; omega) (by omega))
          have HSP := Lib.hid (Lg.appD_spent ⟨⟨0, 64, 0, T⟩, 2, T1, false⟩ D (someB y cc))
          have HN3 := Lib.hid (need_127 (c := cc) hy')
          have HON := Lib.hid HL.out.on
          generalize f1 j = fj at *
          clear hy hcw
          go_wp2_with fail
          refine (some_at y (by omega) cc _ HCW.out _).mono ?_
          rintro e w6 ⟨A8, n8, rfl, ho8, hb8⟩
          have HL6 := Lib.hid (HL.out.below hb8)
          have HO8 := Lib.hid ho8
          have HR8 := Lib.hid (HR.out.below hb8)
          clear ho8 hb8 HL hc hyb
          go_wp2_with fail
          refine (HL6.out.append (Nat.le_trans HS.out (by omega)) A8 y n8 (someB y cc) HO8.out.lies (by omega)).mono ?_
          rintro e w7 ⟨rfl, hl7, ht7⟩
          have HL7 := Lib.hid hl7
          have HR7 := Lib.hid (HR8.out.turn ht7 HLT.out)
          have HU7 : Hid (∀ a, A8 = some a → wq.heap.size ≤ a.block) := fun a ha => (HO8.out.block a ha).1
          have HX7 : Hid (Lies w7 A8 n8 y (someB y cc)) := HO8.out.lies.turn (base := q2 + 1) (.inr fun a ha => Nat.le_trans HQ.out (HU7.out a ha)) ht7 HLT.out
          have HF7 : Hid (∀ b, (Value.slice A n c).ownBlock = some b → b < wq.heap.size) := fun b hb => (HR.out.lt b hb).2
          have HQ7 : Hid (q2 < w7.heap.size) := by have h1 := ht7.size; have h2 := HL6.out.bel; exact Nat.lt_of_lt_of_le (HL6.out.log.lt) h1
          clear hl7 ht7 HL6 HO8 HR8
          rcases HST.out with ⟨h1, h2, h3, h4⟩ | ⟨h1, h0, h2, h2', h3, h5⟩
          · rw [h2]
            have hl := HL7.out
            rw [h3, h4] at hl
            have HL9 := Lib.hid hl
            have hd5 : ((5 : Int) == 0) = false := rfl
            clear hl h1 h2 h3 h4 HST HL7 HSP HN3 HON
            generalize Lg.appAt ⟨⟨0, 64, 0, T⟩, 2, T1, false⟩ D (someB y cc) = ap
            go_wp2_with fail
            exact ⟨⟨j + 1, n, A, c, T, D, bs, by go_num, rfl, by omega, by omega, hT, HN, HL9, HF, Nat.le_trans HS.out (by omega), HP, HR7, HQ7⟩, by simp [intOf]; omega⟩
          · rw [h2, h2']
            have hl := HL7.out
            obtain ⟨p1, p2, p3, p4⟩ := HP.out
            obtain ⟨⟨g', _, _, k3, k4⟩, k5, k6, k7⟩ := lay_app p4 p1 p2 rfl HON.out h0 rfl rfl hT1.1 (Nat.zero_le _)
            rw [k3 h5.gone] at k4
            rw [h3] at hl
            have hn1 := HN3.out.1
            have hn2 := HN3.out.2
            have HL9 := Lib.hid hl
            have HF9 := Lib.hid h5
            have HP9 : Hid (Cuts 2 T1 (bs ++ [someB y cc]) ∧ T + (needN (someB y cc) : Int) = tailOf T1 (bs ++ [someB y cc]) ∧ (Lg.appD ⟨⟨0, 64, 0, T⟩, 2, T1, false⟩ D (someB y cc)).n = 64 ∧ Tr ⟨0, 64, 0, 0⟩ T1 DC.laid (Lg.appD ⟨⟨0, 64, 0, T⟩, 2, T1, false⟩ D (someB y cc)) (piecesAt 2 T1 (bs ++ [someB y cc])) (piecesAt 2 T1 (bs ++ [someB y cc])).length 0) := ⟨k5, k6.symm, by rw [Lg.appD_n]; exact p3, k4⟩
            have HN9 : Hid (n + 1 = n6 + (bs ++ [someB y cc]).length) := by have := HN.out; show _ = _; rw [List.length_append]; simp; omega
            have HS9 : Hid ((Lg.appD ⟨⟨0, 64, 0, T⟩, 2, T1, false⟩ D (someB y cc)).spent ≤ 40 + 3 * (j + 1)) := by have h1 := HSP.out; have h2 := HS.out; show _ ≤ _; omega
            have HRR : Hid (old ++ recsAt T1 bs ++ [(T, someB y cc)] = old ++ recsAt T1 (bs ++ [someB y cc])) := by
              show _ = _
              rw [recsAt_append, List.append_assoc, p2]
              rfl
            have HNL : Hid ((old ++ recsAt T1 bs).length = n) := by have := HN.out; have h6 := HN6.out; show _ = _; rw [List.length_append, length_recsAt]; omega
            have hT9 : 0 ≤ T + (needN (someB y cc) : Int) ∧ T + (needN (someB y cc) : Int) ≤ 64 := by omega
            have hd5 : ((0 : Int) == 0) = true := rfl
            have HBR := Lib.hid (below_new w7 (.cells #[.int .i64 T, .slice A8 y n8] 42))
            have HR9 := Lib.hid (HR7.out.below HBR.out)
            have HX9 := Lib.hid (HX7.out.up HBR.out)
            have HFX : Hid (Far A8 (someB y cc) (Value.slice A n c).ownBlock) := .inr fun a ha e => by have h1 := HU7.out a ha; have h2 := HF7.out _ e.symm; omega
            have HUX : Hid (Up (q2 + 1) A8 (someB y cc)) := .inr fun a ha => Nat.le_trans HQ.out (HU7.out a ha)
            clear hl h0 h1 h2 h2' h3 h5 HST HL7 HSP HN3 HON k3 k4 k5 k6 k7 p1 p2 p3 p4 hn1 hn2 HR7 HX7
            generalize Lg.appD ⟨⟨0, 64, 0, T⟩, 2, T1, false⟩ D (someB y cc) = D9 at *
            generalize T + (needN (someB y cc) : Int) = T9 at *
            generalize bs ++ [someB y cc] = bs9 at *
            generalize someB y cc = bb at *
            obtain ⟨hi', hz0, hz1, hz2⟩ := HSL.out
            go_wp2_with (at_builtin; refine wpList_append_rec rfl (.tmp 109) (.tmp 113) _ rfl (q2 + 1) i0 Try.underlying30 hi' hz0 hz1 hz2 (.slice A n c) (old ++ recsAt T1 bs) rfl HR9.out n HNL.out w7.heap.size T A8 y n8 bb rfl (two_cells _ _ _ _ _ rfl) HX9.out HFX.out HUX.out (by omega) (by have := HQ7.out; simp; omega) ?_; intro v9 w9 hr9 hg9; rw [HRR.out] at hr9; have HR10 := Lib.hid hr9; have HL10 := Lib.hid ((HL9.out.below HBR.out).grown hg9 (fun j hj => (HR9.out.lt j hj).1) HLT.out HWQ.out); clear hr9 hg9; obtain ⟨A10, c10, hv10, _, _⟩ := HR10.out.form; have HN10 : Hid ((old ++ recsAt T1 bs9).length = n + 1) := (by have h1 := HN9.out; have h6 := HN6.out; show _ = _; rw [List.length_append, length_recsAt]; omega); rw [HN10.out] at hv10; subst hv10)
            exact ⟨⟨j + 1, n + 1, A10, c10, T9, D9, bs9, by go_num, rfl, by omega, by omega, hT9, HN9, HL10, HF9, HS9, HP9, HR10, HL10.out.log.lt⟩, by simp [intOf]; omega⟩
        · have hdj : decide ((j : Int) < (len1 : Int)) = false := decide_eq_false (by omega)
          have hdj2 : decide (j < len1) = false := decide_eq_false (by omega)
          obtain ⟨p1, p2, p3, p4⟩ := HP.out
          have hpl := length_piecesAt 2 bs T1
          obtain ⟨A9, c9, hv9, hrn, hcc⟩ := HR.out.form
          have hln : (old ++ recsAt T1 bs).length = n := by have := HN.out; have h6 := HN6.out; rw [List.length_append, length_recsAt]; omega
          rw [hln] at hv9 hcc
          injection hv9 with e1 e2 e3
          subst e1 e3
          have HRN := Lib.hid hrn
          obtain ⟨f1', f2', f3'⟩ := Lg.for_free (G := ⟨⟨0, 64, 0, T⟩, 2, T1, false⟩) rfl HF.out
          have hfo := HL.out.force (Nat.le_trans HS.out (by omega))
          rw [f1', f2', f3'] at hfo
          have HFO := Lib.hid hfo
          have hfe := HF.out.flushE
          have HTF := Lib.hid (p4.flush hfe)
          have HTB := Lib.hid p4
          have HFF := Lib.hid HF.out.flushed
          have HNF : Hid (D.flush.n = 64) := by show _ = _; rw [Dv.flush_n]; exact p3
          have HND : Hid (D.n = 64) := p3
          have HSF : Hid (D.flush.spent ≤ 1000) := by have h1 := Dv.flush_spent (D := D); have h2 := HS.out; show _ ≤ _; omega
          have HSD : Hid (D.spent ≤ 1000) := by have h2 := HS.out; show _ ≤ _; omega
          have HPC := Lib.hid p1
          have HPL : Hid (T1 + ((piecesAt 2 T1 bs).length : Int) ≤ 64) := by show _ ≤ _; rw [hpl, ← p2]; omega
          clear p1 p2 p3 p4 hpl hfo f1' f2' f3' hfe HP HS hrn HF HR
          generalize D.flush = DF at *
          cases hz : (bits .and .i64 (len3 : Int) 1 == 1)
          focus
            go_upto_region 23 with fail
            have HLX : Hid (∃ G, Lw w wq q2 p L M G D) := ⟨_, HL.out⟩
            have HTX2 : Hid (∃ g f m, Tr ⟨0, 64, 0, 0⟩ T1 DC.laid D (piecesAt 2 T1 bs) g f ∧ m ≤ bs.length ∧ (piecesAt 2 T1 (bs.take m)).length ≤ f ∧ ∀ nb k, nb = n6 + k → m ≤ k → (decide ((nb : Int) < (n6 : Int)) = false ∧ decide (nb < n6) = false)) := ⟨_, _, 0, HTB.out, Nat.zero_le _, by simp [piecesAt], fun nb k h1 h2 => ⟨decide_eq_false (by omega), decide_eq_false (by omega)⟩⟩
            have HRX := Lib.hid HRN.out
            have HNX := Lib.hid HND.out
            have HSX := Lib.hid HSD.out
            clear HL HTB HRN HND HSD HFO HTF HFF HNF HSF
            obtain ⟨w9, hw9⟩ : ∃ w9, w9 = wq := ⟨_, rfl⟩
            subst hw9
            obtain ⟨D9, hD9⟩ : ∃ D9, D9 = D := ⟨_, rfl⟩
            subst hD9
          rotate_left
          focus
            go_wp2_with fail
            refine HFO.out.mono ?_
            rintro e w9 ⟨rfl, hl9, ht9⟩
            have HLX : Hid (∃ G, Lw w w9 q2 p L M G DF) := ⟨_, hl9⟩
            have HRX := Lib.hid (HRN.out.turn ht9 HLT.out)
            have hd0 : ((0 : Int) == 0) = true := rfl
            clear hl9 ht9
            go_upto_region 23 with fail
            have HTX2 : Hid (∃ g f m, Tr ⟨0, 64, 0, 0⟩ T1 DC.laid DF (piecesAt 2 T1 bs) g f ∧ m ≤ bs.length ∧ (piecesAt 2 T1 (bs.take m)).length ≤ f ∧ ∀ nb k, nb = n6 + k → m ≤ k → (decide ((nb : Int) < (n : Int)) = false ∧ decide (nb < n) = false)) := ⟨_, _, bs.length, HTF.out, Nat.le_refl _, by rw [List.take_length]; exact Nat.le_refl _, fun nb k h1 h2 => by have h3 := HN.out; exact ⟨decide_eq_false (by omega), decide_eq_false (by omega)⟩⟩
            have HNX := Lib.hid HNF.out
            have HSX := Lib.hid HSF.out
            clear HL HTB HRN HND HSD HFO HTF HFF HNF HSF hd0
            obtain ⟨D9, hD9⟩ : ∃ D9, D9 = DF := ⟨_, rfl⟩
            subst hD9
          all_goals
            obtain ⟨GX, hlx⟩ := HLX.out
            obtain ⟨g, f, m, t1, t2, t3, t4⟩ := HTX2.out
            have HT4 := Lib.hid t4
            have HBO := Lib.hid (hlx.dr.bools HH.out)
            have HCR := Lib.hid (crash_any hlx.dev (Nat.le_trans HSX.out (by omega)) cap3 HBO.out)
            have HDR := Lib.hid hlx.dr
            have HTWO := Lib.hid (fun (got : List (Int × List UInt8)) (t : Int) (h : Fnd (ringL (D9.crash (kp len3 f3)) ⟨0, 64, 0, 0⟩) 0 3 got t) => One.two HO.out t1 HPC.out HNX.out HPL.out t2 t3 (kp len3 f3) h)
            have HOE := Lib.hid (free_open (D := D9.crash (kp len3 f3)) rfl (F := 0) (S := 64) (H := 0) (E := 3) (by have h : (D9.crash (kp len3 f3)).n = 64 := HNX.out; rw [h]; decide))
            clear hlx t1 t3 t4 HTX2 HLX HBO hz
            generalize D9.crash (kp len3 f3) = DE at *
            go_wp2_with fail
            refine HCR.out.mono ?_
            rintro e wa ⟨rfl, hda, hta⟩
            have HDA := Lib.hid (HDR.out.turn hda hta)
            have HRA := Lib.hid (HRX.out.turn hta (fun k hk => HLT.out k (.inl hk)))
            clear hda hta HCR HDR HRX
            go_wp2_with fail
            refine (open_dr HDA.out 0 64 0 3 HOE.out).mono ?_
            rintro e wb ⟨q3, got, tb, Ab, nb, cb, rfl, hnb, hnb4, _, hrb, hfdb, hlwb, hbb, _⟩
            obtain ⟨k, k1, k2, hgot⟩ := HTWO.out _ _ hfdb
            have h6 := HN6.out
            have hnn := HN.out
            have hnb2 : nb = n6 + k := by rw [hnb, hgot, List.length_append, length_recsAt, List.length_take]; omega
            have HGT : Hid (got = (old ++ recsAt T1 bs).take nb) := by
              show _ = _
              rw [hgot, hnb2, h6, List.take_length_add_append, recsAt_take]
            have HNB := Lib.hid hnb
            have HRB := Lib.hid (hrb.le (Nat.zero_le _))
            have HRC := Lib.hid (((HRA.out.up hbb).le (Nat.zero_le _)).take nb)
            rw [← HGT.out] at HRC
            have HBE := Lib.hid hlwb.bel
            obtain ⟨hc1, hc1'⟩ := HT4.out nb k hnb2 k1
            have hc2 : decide ((nb : Int) > (n : Int)) = false := decide_eq_false (by omega)
            have hc2'' : decide (n < nb) = false := decide_eq_false (by omega)
            have hnbn : nb ≤ n := by omega
            clear hnb hrb hfdb hlwb hbb hgot HTWO HOE HDA HRA h6 hnn HGT k1 k2 hnb2 t2 HT4
            go_upto_region 27 with fail
            have HTH := Lib.hid (fun V (hV : Below wb.heap.size wb V) => theirs_any 0 V Ab nb cb got HNB.out (by omega) (HRB.out.up hV) (Nat.zero_le _))
            have HTI := Lib.hid (fun V (hV : Below wb.heap.size wb V) => theirs_any 0 V A nb c got HNB.out (by omega) (HRC.out.up hV) (Nat.zero_le _))
            have hnbc : nb ≤ c := by omega
            clear hc1 hc1' hc2 hc2''
            refine wp_region_since (by kernel_rfl) ?_
            have hS : Since wb (World.drew wb) := (Below.refl _ _).drew
            refine wpAnyH_take (i := 0) (oi := ⟨some 160, _, _, _, _, _⟩) (v := ?_) rfl (by kernel_rfl) (by kernel_rfl) (by kernel_rfl) (fun _ _ _ h => h) (Or.inl ⟨by rfl, ?_⟩) hS ?_
            rotate_left
            · intro W hW; go_simp; with_reducible rfl
            try simp only [Act.put, List.setIfInBounds_toArray, List.set_cons_zero, List.set_cons_succ]
            refine wpAnyH_take (i := 1) (oi := ⟨some 161, _, _, _, _, _⟩) (v := ?_) rfl (by kernel_rfl) (by kernel_rfl) (by kernel_rfl) (fun _ _ _ h => h) (Or.inl ⟨by rfl, ?_⟩) hS ?_
            rotate_left
            · intro W hW; go_simp; with_reducible rfl
            try simp only [Act.put, List.setIfInBounds_toArray, List.set_cons_zero, List.set_cons_succ]
            refine wpAnyH_take (i := 2) (oi := ⟨some 162, _, _, _, _, _⟩) (v := ?_) rfl (by kernel_rfl) (by kernel_rfl) (by kernel_rfl) (fun _ _ _ h => h) (Or.inl ⟨by rfl, ?_⟩) hS ?_
            rotate_left
            · intro W hW; go_simp; with_reducible rfl
            try simp only [Act.put, List.setIfInBounds_toArray, List.set_cons_zero, List.set_cons_succ]
            refine wpAnyH_take (i := 4) (oi := ⟨some 164, _, _, _, _, _⟩) (v := ?_) rfl (by kernel_rfl) (by kernel_rfl) (by kernel_rfl) (fun _ _ _ h => h) (Or.inl ⟨by rfl, ?_⟩) hS ?_
            rotate_left
            · intro W hW; go_simp; with_reducible rfl
            try simp only [Act.put, List.setIfInBounds_toArray, List.set_cons_zero, List.set_cons_succ]
            refine wpAnyH_take (i := 5) (oi := ⟨some 165, _, _, _, _, _⟩) (v := ?_) rfl (by kernel_rfl) (by kernel_rfl) (by kernel_rfl) (fun _ _ _ h => h) (Or.inl ⟨by rfl, ?_⟩) hS ?_
            rotate_left
            · intro W hW; go_simp; with_reducible rfl
            try simp only [Act.put, List.setIfInBounds_toArray, List.set_cons_zero, List.set_cons_succ]
            refine wpAnyH_take (i := 6) (oi := ⟨some 166, _, _, _, _, _⟩) (v := ?_) rfl (by kernel_rfl) (by kernel_rfl) (by kernel_rfl) (fun _ _ _ h => h) (Or.inl ⟨by rfl, ?_⟩) hS ?_
            rotate_left
            · intro W hW; go_simp; with_reducible rfl
            try simp only [Act.put, List.setIfInBounds_toArray, List.set_cons_zero, List.set_cons_succ]
            refine wpAnyH_take (i := 7) (oi := ⟨some 167, _, _, _, _, _⟩) (v := ?_) rfl (by kernel_rfl) (by kernel_rfl) (by kernel_rfl) (fun _ _ _ h => h) (Or.inl ⟨by rfl, ?_⟩) hS ?_
            rotate_left
            · intro W hW; go_simp; with_reducible rfl
            try simp only [Act.put, List.setIfInBounds_toArray, List.set_cons_zero, List.set_cons_succ]
            refine wpAnyH_ready (rs := [3]) (by kernel_rfl) (by simp) ?_
            refine AllReadyH.cons (o := ⟨some 163, _, _, _, _, _⟩) rfl (fun Kr hKr => ?_) AllReadyH.nil
            -- operation 3: a call
            go_simp
            refine (HTH.out _ hS).mono ?_
            rintro e V0 ⟨Ax, nx, cx, rfl, hnx, _, hrx, hx⟩
            have hnx2 : nx = nb := by rw [hnx, ← HNB.out]
            clear hnx
            subst hnx2
            have HX0 := Lib.hid hrx
            show Kr _ _
            refine hKr.out _ _ ?_ (fun _ => ?_)
            · exact since_trans hS hx
            clear hKr Kr
            replace hS : Since wb V0 := since_trans hS hx
            try simp only [Act.put, List.setIfInBounds_toArray, List.set_cons_zero, List.set_cons_succ]
            refine wpAnyH_ready (rs := [8]) (by kernel_rfl) (by simp) ?_
            refine AllReadyH.cons (o := ⟨some 168, _, _, _, _, _⟩) rfl (fun Kr hKr => ?_) AllReadyH.nil
            -- operation 8: a call
            go_simp
            refine (HTI.out _ hS).mono ?_
            rintro e V1 ⟨Ay, ny, cy, rfl, hny, _, hry, hy⟩
            have hny2 : ny = nx := by rw [hny, ← HNB.out]
            clear hny
            subst hny2
            have HY1 := Lib.hid hry
            have HX1 := Lib.hid (HX0.out.up hy)
            show Kr _ _
            refine hKr.out _ _ ?_ (fun _ => ?_)
            · exact since_trans hS hy
            clear hKr Kr
            replace hS : Since wb V1 := since_trans hS hy
            try simp only [Act.put, List.setIfInBounds_toArray, List.set_cons_zero, List.set_cons_succ]
            refine wpAnyH_ready (rs := [9]) (by kernel_rfl) (by simp) ?_
            refine AllReadyH.cons (o := ⟨some 169, _, _, _, _, _⟩) rfl (fun Kr hKr => ?_) AllReadyH.nil
            -- operation 9: a call
            go_simp
            refine (same_any 0 0 V1 Ax Ay ny cx cy got HNB.out (by omega) HX1.out HY1.out).mono ?_
            rintro e V2 ⟨rfl, hz2⟩
            show Kr _ _
            refine hKr.out _ _ ?_ (fun _ => ?_)
            · exact since_trans hS hz2
            clear hKr Kr
            replace hS : Since wb V2 := since_trans hS hz2
            try simp only [Act.put, List.setIfInBounds_toArray, List.set_cons_zero, List.set_cons_succ]
            refine wpAnyH_take (i := 10) (oi := ⟨some 170, _, _, _, _, _⟩) (v := ?_) rfl (by kernel_rfl) (by kernel_rfl) (by kernel_rfl) (fun _ _ _ h => h) (Or.inl ⟨by rfl, ?_⟩) hS ?_
            rotate_left
            · intro W hW; go_simp; with_reducible rfl
            try simp only [Act.put, List.setIfInBounds_toArray, List.set_cons_zero, List.set_cons_succ]
            refine wpAnyH_take (i := 11) (oi := ⟨some 8, _, _, _, _, _⟩) (v := ?_) rfl (by kernel_rfl) (by kernel_rfl) (by kernel_rfl) (fun _ _ _ h => h) (Or.inl ⟨by rfl, ?_⟩) hS ?_
            rotate_left
            · intro W hW; go_simp; with_reducible rfl
            try simp only [Act.put, List.setIfInBounds_toArray, List.set_cons_zero, List.set_cons_succ]
            refine wpAnyH_done (by kernel_rfl) ?_ _
            have HBF : Hid (Below w.heap.size w V2) := HBE.out.trans (Below.mono hS HBE.out.size)
            clear hS
            go_wp2_with fail
            go_ret
            exact ⟨rfl, HBF.out⟩

end Go.Proofs.Ytdjfahnnfhediaa
