/-
  WalKeeps: the walk: what is forced is there.
-/
import Derived.Test.YtdjfahnnfhediaaRefusesWalk
import Derived.Test.YtdjfahnnfhediaaKeeps7
import Derived.Test.YtdjfahnnfhediaaTheirs
namespace Go.Proofs.Ytdjfahnnfhediaa
set_option maxRecDepth 100000
open Go.RowKit Crc Wm

theorem Lw.gone {w W : World} {q p L M : Nat} {G : Lg} {D : Dv} (h : Lw w W q p L M G D) : Calls Try.prog 12 #[ptr p] W fun e V => e = .returned (.bool D.gone) ∧ V = W := gone_any h.dev

theorem Lw.grown {w W V : World} {q p L M B : Nat} {G : Lg} {D : Dv} (h : Lw w W q p L M G D) {row : Option Nat} (hg : W.grownBy V row) (hr : ∀ j, row = some j → B ≤ j) (hlt : ∀ k, LS q p L M k → k < B) (hwB : w.heap.size ≤ B) : Lw w V q p L M G D := by
  have ht : Turn (fun k => row = some k) W V := (Turn.refl _ _).grown hg (fun j hj => .inl hj)
  have hn : ∀ k, LS q p L M k → ¬ (row = some k) := fun k hk e => by have h1 := hlt k hk; have h2 := hr k e; omega
  exact ⟨h.log.turn ht (hn q (.inr rfl)), h.dev.turn ht (hn p (.inl (.inl rfl))) (hn L (.inl (.inr (.inl rfl)))) (hn M (.inl (.inr (.inr rfl)))), h.bel.trans (ht.below (fun k hk => Nat.le_trans hwB (hr k hk)) h.bel.size), h.lo, h.on⟩

theorem budget_trail {D : Dv} (k : Int) : (D.budget k).laid = D.laid ∧ (D.budget k).late = D.late ∧ (D.budget k).n = D.n ∧ (D.budget k).spent = D.spent := ⟨rfl, rfl, rfl, rfl⟩

set_option maxHeartbeats 1000000 in
theorem keeps_walk (A0 A2 : Option Addr) (cap0 cap2 len0 len2 : Nat) (f0 : Nat → Int) (f2 : Nat → Bool) (bu : Int) (w : World) (hi0 : Is w A0 len0 f0) (hb0 : BoolsAt w A2 len2 f2) : Calls Try.prog 3 #[.slice A0 len0 cap0, .int .i64 bu, .slice A2 len2 cap2] w fun e w' => e = .returned (.bool true) ∧ Below w.heap.size w w' := by
  have HI := Lib.hid hi0
  have HK := Lib.hid hb0
  clear hi0 hb0
  by_cases hlen : 20 < len0 ∨ 100 < len2
  · have hh : decide ((len0 : Int) > 20) = true ∨ (decide ((len0 : Int) > 20) = false ∧ decide ((len2 : Int) > 100) = true) := by
      by_cases h : 20 < len0
      · exact .inl (decide_eq_true (by omega))
      · exact .inr ⟨decide_eq_false (by omega), decide_eq_true (by omega)⟩
    go_enter Try.func3, Try.ntmps3
    go_wp2_with fail
    refine (awake_any w).mono ?_
    rintro e w0 ⟨rfl, hb⟩
    have HB := Lib.hid hb
    clear hb
    by_cases h : 20 < len0
    · have d1 : decide ((len0 : Int) > 20) = true := decide_eq_true (by omega)
      have d1' : decide (20 < (len0 : Int)) = true := decide_eq_true (by omega)
      have d1'' : decide (20 < len0) = true := decide_eq_true h
      clear hh hlen
      go_wp2_with fail
      go_ret
      exact ⟨rfl, HB.out⟩
    · have h2 : 100 < len2 := by omega
      have d1 : decide ((len0 : Int) > 20) = false := decide_eq_false (by omega)
      have d1' : decide (20 < (len0 : Int)) = false := decide_eq_false (by omega)
      have d1'' : decide (20 < len0) = false := decide_eq_false h
      have d2 : decide ((len2 : Int) > 100) = true := decide_eq_true (by omega)
      have d2' : decide (100 < (len2 : Int)) = true := decide_eq_true (by omega)
      have d2'' : decide (100 < len2) = true := decide_eq_true h2
      clear hh hlen
      go_wp2_with fail
      go_ret
      exact ⟨rfl, HB.out⟩
  have d1 : decide ((len0 : Int) > 20) = false := decide_eq_false (by omega)
  have d1' : decide (20 < (len0 : Int)) = false := decide_eq_false (by omega)
  have d1'' : decide (20 < len0) = false := decide_eq_false (by omega)
  have d2 : decide ((len2 : Int) > 100) = false := decide_eq_false (by omega)
  have d2' : decide (100 < (len2 : Int)) = false := decide_eq_false (by omega)
  have d2'' : decide (100 < len2) = false := decide_eq_false (by omega)
  have hl20 : len0 ≤ 20 := by omega
  clear hlen
  obtain ⟨k, hk, hkb⟩ := low bu 63 6 (by decide) (by omega)
  have hk' : k < 64 := hk
  clear hk
  obtain ⟨i0, hi, hz0, hz1, hz2⟩ := info_parts sl_facts
  have HSL := Lib.hid (show _ ∧ _ ∧ _ ∧ _ from ⟨hi, hz0, hz1, hz2⟩)
  clear hi hz0 hz1 hz2
  go_enter Try.func3, Try.ntmps3
  go_wp2_with fail
  refine (awake_any w).mono ?_
  rintro e w0 ⟨rfl, hb⟩
  have HB := Lib.hid hb
  clear hb
  go_wp2_with fail
  refine (newdr (w := w) HB.out 64 (by omega) (by omega)).mono ?_
  rintro e w1 ⟨p, L, M, rfl, hd1, _, _, _, _⟩
  have HD1 := Lib.hid hd1
  clear hd1 d1 d1' d1'' d2 d2' d2''
  go_wp2_with fail
  refine (open_dr HD1.out 2 60 5 7 (fresh_open 64 (by decide))).mono ?_
  rintro e w2 ⟨q, rs, t, A1, n1, c1, rfl, hn1, _, _, _, hfd, hlw, _, _⟩
  obtain ⟨hrs, ht⟩ := found_none (fun _ => rfl) (fun _ => rfl) (by decide) (by decide) (by decide) rfl (by decide) hfd
  subst ht hrs
  have hn1' : n1 = 0 := hn1
  subst hn1'
  have HL2 := Lib.hid hlw
  clear hfd hlw HD1 HB hn1
  go_wp2_with fail
  refine (budget_any HL2.out.dev (k : Int) (by omega)).mono ?_
  rintro e w3 ⟨rfl, hd3, ht3⟩
  have HL3 : Hid (Lw w w3 q p L M ⟨⟨2, 60, 5, 5⟩, 7, 5, false⟩ ((Dv.fresh 64).budget (k : Int))) := HL2.out.turn (HL2.out.log.turn ht3 (log_ne HL2.out.log HL2.out.dev)) hd3 (ht3.mono (fun _ h => .inl h)) (HL2.out.on.dev rfl)
  have HKP : Hid (KP [] 0 ⟨⟨2, 60, 5, 5⟩, 7, 5, false⟩ ((Dv.fresh 64).budget (k : Int))) := KP.start rfl (fun _ => rfl) (fun _ => rfl) 5
  have HSP : Hid (((Dv.fresh 64).budget (k : Int)).spent ≤ 4 * 0) := Nat.le_refl _
  generalize (Dv.fresh 64).budget (k : Int) = D0 at *
  have HLT := Lib.hid HL3.out.lt
  obtain ⟨B, hB⟩ : ∃ B, w3.heap.size = B := ⟨_, rfl⟩
  rw [hB] at HLT
  have HBB := Lib.hid hB
  have HWB : Hid (w.heap.size ≤ B) := by rw [← hB]; exact HL3.out.bel.size
  clear hd3 ht3 HL2 hB hkb
  go_wp2_with fail
  go_loopw [13, 14, 15] (fun v s u wr => ∃ (i m n : Nat) (A : Option Addr) (c : Nat) (bs : List (List UInt8)) (G : Lg) (D : Dv), u = .int .i64 (i : Int) ∧ s = .int .i64 (m : Int) ∧ v = .slice A n c ∧ i ≤ len0 ∧ n ≤ i ∧ Hid (bs.length = n) ∧ Hid (Lw w wr q p L M G D) ∧ Hid (KP bs m G D) ∧ Hid (D.spent ≤ 4 * i) ∧ Hid (Rw wr B (.slice A n c) bs) ∧ Hid (B ≤ wr.heap.size)) (fun _ _ u _ => len0 - (intOf u).toNat)
  case atStart => exact ⟨0, 0, 0, none, 0, [], _, _, rfl, rfl, rfl, Nat.zero_le _, Nat.le_refl _, rfl, HL3, HKP, HSP, Lib.hid (Rw.nil _ _), by rw [HBB.out]; exact Nat.le_refl _⟩
  case round =>
    obtain ⟨i, m, n, A, c, bs, G, D, rfl, rfl, rfl, hi, hni, HN, HL, HP, HS, HR, HBW⟩ := hrel
    have HGO := Lib.hid HL.out.gone
    by_cases hstop : i < len0 ∧ D.gone = false
    · obtain ⟨hlt, hgn⟩ := hstop
      rw [hgn] at HGO
      obtain ⟨b, o, hA, hc⟩ := HI.out.get HL.out.bel hlt
      subst hA
      obtain ⟨y, hy, hyb⟩ := low (f0 i) 127 7 (by decide) (by omega)
      have hy' : y ≤ 127 := by have : y < 128 := hy; omega
      obtain ⟨cc, hcw, _⟩ := byte_of i (by omega)
      have HCW := Lib.hid hcw
      have HIX := Lib.hid (fun V hV => HI.out.get (V := V) hV hlt)
      have hdj : decide ((i : Int) < (len0 : Int)) = true := decide_eq_true (by omega)
      have hdj2 : decide (i < len0) = true := decide_eq_true hlt
      have hi2 : (i : Int) < (len0 : Int) := by omega
      have HST := Lib.hid (HP.out.app (b := someB y cc) HL.out.on hgn (need_127 hy').2)
      have HSP := Lib.hid (Lg.appD_spent G D (someB y cc))
      have HN3 := Lib.hid (need_127 (c := cc) hy').2
      generalize hfi : f0 i = fi at *
      clear hy hcw hgn hfi
      go_wp2_with fail
      refine HGO.out.mono ?_
      rintro e w' ⟨rfl, hw⟩
      replace hw := hw.symm
      subst hw
      go_wp2_with fail
      refine (some_at y (by omega) cc _ HCW.out _).mono ?_
      rintro e w3 ⟨A3, n3, rfl, ho3, hb3⟩
      have HL3 := Lib.hid (HL.out.below hb3)
      have HO3 := Lib.hid ho3
      have HR3 := Lib.hid (HR.out.below hb3)
      have HBW3 : Hid (wr.heap.size ≤ w3.heap.size) := hb3.size
      clear ho3 hb3 HL hc hyb
      go_wp2_with fail
      refine (HL3.out.append (Nat.le_trans HS.out (by omega)) A3 y n3 (someB y cc) HO3.out.lies (by omega)).mono ?_
      rintro e w4 ⟨rfl, hl4, ht4⟩
      have HL4 := Lib.hid hl4
      have HR4 := Lib.hid (HR3.out.turn ht4 HLT.out)
      have HO4 : Hid (Lies w4 A3 n3 y (someB y cc)) := HO3.out.lies.turn (base := wr.heap.size) (.inr fun a ha => (HO3.out.block a ha).1) ht4 (fun k hk => Nat.lt_of_lt_of_le (HLT.out k hk) HBW.out)
      have HBW4 : Hid (wr.heap.size ≤ w4.heap.size) := Nat.le_trans HBW3.out ht4.size
      have HF4 : Hid (∀ b, (Value.slice A n c).ownBlock = some b → b < wr.heap.size) := fun b hb => (HR.out.lt b hb).2
      have HU4 : Hid (∀ a, A3 = some a → wr.heap.size ≤ a.block) := fun a ha => (HO3.out.block a ha).1
      clear hl4 ht4 HL3 HO3 HR3 HBW3
      rcases HST.out with ⟨h1, h2, h3⟩ | ⟨h1, hkp⟩
      · rw [h1]
        have hl := HL4.out
        rw [h2, h3] at hl
        have HL5 := Lib.hid hl
        have hd5 : ((5 : Int) == 0) = false := rfl
        have hd6 : ((5 : Int) == 11) = false := rfl
        have HP5 := Lib.hid HP.out.for
        have HFO := Lib.hid (HL5.out.force (Nat.le_trans HS.out (by omega)))
        have HS5 : Hid ((G.forD D).spent ≤ 4 * (i + 1)) := by have h1 := Lg.forD_spent G D; have h2 := HS.out; show _ ≤ _; omega
        have HSS : Hid (D.spent ≤ 4 * (i + 1)) := by have h2 := HS.out; show _ ≤ _; omega
        obtain ⟨b2, o2, hA2, hc2⟩ := HIX.out w4 HL5.out.bel
        injection hA2 with hA2
        injection hA2 with hb2 ho2
        subst hb2 ho2
        have HBV := Lib.hid (Nat.le_trans HBW.out HBW4.out)
        clear h1 h2 h3 hl HST HL4 HSP
        generalize G.appAt D (someB y cc) = ap
        cases hz : (bits .and .i64 fi 128 == 128) with
        | false =>
          go_wp2_with fail
          exact ⟨⟨i + 1, m, n, A, c, bs, G, D, by go_num, rfl, rfl, by omega, by omega, HN, HL5, HP, HSS, HR4, HBV⟩, by simp [intOf]; omega⟩
        | true =>
          go_wp2_with fail
          refine HFO.out.mono ?_
          rintro e w6 ⟨rfl, hl6, ht6⟩
          have HL6 := Lib.hid hl6
          have HR6 := Lib.hid (HR4.out.turn ht6 HLT.out)
          have HB6 := Lib.hid (Nat.le_trans HBV.out ht6.size)
          clear hl6 ht6 hc2
          rcases HP5.out with ⟨h1, h2⟩ | ⟨h1, h2⟩
          · rw [h1]
            have hd7 : ((0 : Int) == 0) = true := rfl
            have HK6 := Lib.hid h2
            rw [HN.out] at HK6
            clear h1 h2
            go_wp2_with fail
            exact ⟨⟨i + 1, n, n, A, c, bs, _, _, by go_num, rfl, rfl, by omega, by omega, HN, HL6, HK6, HS5, HR6, HB6⟩, by simp [intOf]; omega⟩
          · rw [h1]
            have hd7 : ((11 : Int) == 0) = false := rfl
            have HK6 := Lib.hid h2
            clear h1 h2
            go_wp2_with fail
            exact ⟨⟨i + 1, m, n, A, c, bs, _, _, by go_num, rfl, rfl, by omega, by omega, HN, HL6, HK6, HS5, HR6, HB6⟩, by simp [intOf]; omega⟩
      · have HKA := Lib.hid hkp
        have HL5 := Lib.hid HL4.out
        have HSS : Hid ((G.appD D (someB y cc)).spent ≤ 4 * i + 3) := by have h1 := HSP.out; have h2 := HS.out; have h3 := HN3.out; show _ ≤ _; omega
        have HNE : Hid (G.appE D (someB y cc) = 0 ∨ G.appE D (someB y cc) = 11) := h1
        clear h1 hkp HST HL4 HSP
        generalize G.appAt D (someB y cc) = ap
        generalize G.appD D (someB y cc) = D5 at *
        generalize G.appG D (someB y cc) = G5 at *
        generalize hef : G.appE D (someB y cc) = ef at *
        clear hef
        have HP5 := Lib.hid HKA.out.for
        have HS5 : Hid ((G5.forD D5).spent ≤ 4 * (i + 1)) := by have h1 := Lg.forD_spent G5 D5; have h2 := HSS.out; show _ ≤ _; omega
        have HBV := Lib.hid (Nat.le_trans HBW.out HBW4.out)
        have HBN := Lib.hid (below_new w4 (.cells #[.slice A3 y n3] 35))
        have HLS : Hid (Ls (w4.alloc (.cells #[.slice A3 y n3] 35)) (some ⟨w4.heap.size, 0, none⟩) [someB y cc]) := Lib.hid (ls_one HO4.out _ _ rfl)
        have HFR := Lib.hid (far_one (w := w4) (n := y) (c := n3) (t := 35) (B := B) (g := (Value.slice A n c).ownBlock) (A2 := A3) (l := someB y cc) ⟨.inr fun a ha e => by have h1 := HU4.out a ha; have h2 := HF4.out _ e.symm; omega, .inr fun a ha => Nat.le_trans HBW.out (HU4.out a ha)⟩)
        have HR5 := Lib.hid (HR4.out.below HBN.out)
        obtain ⟨hi', hz0, hz1, hz2⟩ := HSL.out
        rcases HNE.out with h | h
        all_goals
          subst h
          go_upto_region 16 with (at_builtin; refine wpList_append_rw rfl (.tmp 78) (.tmp 80) _ rfl B i0 Try.underlying34 hi' hz0 hz1 hz2 (.slice A n c) bs rfl HR5.out _ _ 1 _ rfl HLS.out rfl HFR.out (by rw [HN.out]; omega) (by have := HBV.out; simp; omega) ?_; intro v5 w5 hr5 hg5 hat5; have HR6 := Lib.hid hr5; have HL6 := Lib.hid ((HL5.out.below HBN.out).grown hg5 (fun j hj => (HR5.out.lt j hj).1) HLT.out HWB.out); have HB6 : Hid (B ≤ w5.heap.size) := Nat.le_trans (Nat.le_trans HBV.out HBN.out.size) hg5.size; clear hr5 hg5 hat5; obtain ⟨A6, c6, hv6, _, _⟩ := HR6.out.form; have HN6 : Hid ((bs ++ [someB y cc]).length = n + 1) := (by show _ = _; rw [List.length_append, HN.out]; rfl); rw [HN6.out] at hv6; subst hv6)
          obtain ⟨b2, o2, hA2, hc2⟩ := HIX.out w5 HL6.out.bel
          injection hA2 with hA2
          injection hA2 with hb2 ho2
          subst hb2 ho2
          have HFO := Lib.hid (HL6.out.force (Nat.le_trans HSS.out (by omega)))
          have HSQ : Hid (D5.spent ≤ 4 * (i + 1)) := Nat.le_trans HSS.out (by omega)
          clear hi' hz0 hz1 hz2 HR5 HFR HLS HR4 HL5
          cases hz : (bits .and .i64 fi 128 == 128) with
          | false =>
            go_wp2_with fail
            exact ⟨⟨i + 1, m, n + 1, A6, c6, _, G5, D5, by go_num, rfl, rfl, by omega, by omega, HN6, HL6, HKA, HSQ, HR6, HB6⟩, by simp [intOf]; omega⟩
          | true =>
            go_wp2_with fail
            refine HFO.out.mono ?_
            rintro e w7 ⟨rfl, hl7, ht7⟩
            have HL7 := Lib.hid hl7
            have HR7 := Lib.hid (HR6.out.turn ht7 HLT.out)
            have HB7 := Lib.hid (Nat.le_trans HB6.out ht7.size)
            clear hl7 ht7 hc2
            rcases HP5.out with ⟨h1, h2⟩ | ⟨h1, h2⟩
            · rw [h1]
              have hd7 : ((0 : Int) == 0) = true := rfl
              have HK7 := Lib.hid h2
              rw [HN6.out] at HK7
              clear h1 h2
              go_wp2_with fail
              exact ⟨⟨i + 1, n + 1, n + 1, A6, c6, _, _, _, by go_num, rfl, rfl, by omega, by omega, HN6, HL7, HK7, HS5, HR7, HB7⟩, by simp [intOf]; omega⟩
            · rw [h1]
              have hd7 : ((11 : Int) == 0) = false := rfl
              have HK7 := Lib.hid h2
              clear h1 h2
              go_wp2_with fail
              exact ⟨⟨i + 1, m, n + 1, A6, c6, _, _, _, by go_num, rfl, rfl, by omega, by omega, HN6, HL7, HK7, HS5, HR7, HB7⟩, by simp [intOf]; omega⟩
    · have hexit : (i < len0 ∧ D.gone = true) ∨ i = len0 := by
        rcases Nat.lt_or_ge i len0 with h | h
        · left
          refine ⟨h, ?_⟩
          cases hg : D.gone with
          | true => rfl
          | false => exact absurd ⟨h, hg⟩ hstop
        · exact .inr (by omega)
      clear hstop
      have HBO := Lib.hid (HL.out.dr.bools HK.out)
      have HCR := Lib.hid (crash_any HL.out.dev (Nat.le_trans HS.out (by omega)) cap2 HBO.out)
      have HFI := Lib.hid (HP.out.final (kp len2 f2))
      have HDR := Lib.hid HL.out.dr
      have HML := Lib.hid HP.out.mle
      have hmn : m ≤ n := by have := HML.out; rw [HN.out] at this; exact this
      have HRL := Lib.hid HR.out.lsn
      clear HP HS HBO
      generalize hDC : D.crash (kp len2 f2) = DC at *
      clear hDC
      rcases hexit with ⟨hx, hg⟩ | hx
      focus
        rw [hg] at HGO
        have hdj : decide ((i : Int) < (len0 : Int)) = true := decide_eq_true (by omega)
        have hdj2 : decide (i < len0) = true := decide_eq_true hx
        clear hg
        go_upto_region 18 with (go_at_call 12; refine HGO.out.mono ?_; rintro e w' ⟨rfl, hw⟩; replace hw := hw.symm; subst hw)
      rotate_left
      focus
        have hdj : decide ((i : Int) < (len0 : Int)) = false := decide_eq_false (by omega)
        have hdj2 : decide (i < len0) = false := decide_eq_false (by omega)
        go_upto_region 18 with fail
      all_goals
        clear hdj hdj2 HGO HL HR
        go_wp2_with fail
        refine HCR.out.mono ?_
        rintro e w5 ⟨rfl, hd5, ht5⟩
        have HD5 := Lib.hid (HDR.out.turn hd5 ht5)
        have HR5 := Lib.hid (HRL.out.turn ht5 (fun k hk => HLT.out k (.inl hk)))
        clear hd5 ht5 HCR HDR HRL
        go_wp2_with fail
        refine (open_dr HD5.out 2 60 5 8 HFI.out.1).mono ?_
        rintro e w6 ⟨q2, rs2, t2, A5, n2, c2, rfl, hn2, _, _, hr2, hfd2, hlw2, hb2, _⟩
        obtain ⟨kk, k1, k2, hrs⟩ := HFI.out.2 _ _ hfd2
        have hnk : n2 = kk := by rw [hn2, hrs, length_recsAt, List.length_take]; omega
        subst hnk
        have HRS : Hid (∀ (j : Nat) (r : Int × List UInt8), rs2[j]? = some r → bs[j]? = some r.2) := by
          intro j r hj
          rw [hrs] at hj
          have := recsAt_data _ _ _ _ hj
          rw [List.getElem?_take] at this
          split at this
          · exact this
          · cases this
        have HN2 := Lib.hid hn2
        have HG6 := Lib.hid hr2
        have HR6 := Lib.hid (HR5.out.up hb2)
        have HBE := Lib.hid hlw2.bel
        have hkn : n2 ≤ n := by rw [← HN.out]; exact k2
        have hc1 : decide ((n2 : Int) < (m : Int)) = false := decide_eq_false (by omega)
        have hc1' : decide (n2 < m) = false := decide_eq_false (by omega)
        have hc2 : decide ((n2 : Int) > (n : Int)) = false := decide_eq_false (by omega)
        have hc2' : decide ((n : Int) < (n2 : Int)) = false := decide_eq_false (by omega)
        have hc2'' : decide (n < n2) = false := decide_eq_false (by omega)
        clear hn2 hr2 hfd2 hlw2 hb2 k2 hrs HD5 HR5 HFI
        go_wp2_with fail
        clear hc1 hc1' hc2 hc2' hc2''
        go_loopw [22] (fun u wq => ∃ j : Nat, u = .int .i64 (j : Int) ∧ j ≤ n2 ∧ Hid (Below w6.heap.size w6 wq)) (fun u _ => n2 - (intOf u).toNat)
        case atStart => exact ⟨0, rfl, Nat.zero_le _, Below.refl _ _⟩
        case round =>
          obtain ⟨j, rfl, hj, HBQ⟩ := hrel
          obtain ⟨wq, hwq⟩ : ∃ wq, wq = wr := ⟨_, rfl⟩
          subst hwq
          rcases Nat.lt_or_ge j n2 with hlt | hge
          · have hjr : j < rs2.length := by rw [← HN2.out]; exact hlt
            obtain ⟨r, hr⟩ : ∃ r, rs2[j]? = some r := ⟨_, List.getElem?_eq_getElem hjr⟩
            have hbj := HRS.out j r hr
            rcases HG6.out with h0 | ⟨b, e, hb, hp⟩
            · rw [h0] at hjr; simp at hjr
            rcases HR6.out with h0 | ⟨b', o', e', hb', hp'⟩
            · rw [h0] at hbj; simp at hbj
            subst e e'
            obtain ⟨_, Ax, nx, cx, k1, hl, _⟩ := hp j r hr
            obtain ⟨Ay, ny, cy, k1', hl', _⟩ := hp' j _ hbj
            obtain ⟨rx, ry⟩ := r
            simp only at hl hl'
            have v1 : ∀ V, Since wq V → V.cell? ⟨b, j * 2 + 1, none⟩ = some (.slice Ax nx cx) := fun V hV => ((HBQ.out.trans (Below.mono hV HBQ.out.size)).cell (p := ⟨b, j * 2 + 1, none⟩) hb.2).trans k1
            have v1' : ∀ V, Since wq V → V.cell? ⟨b', o' + j, none⟩ = some (.slice Ay ny cy) := fun V hV => ((HBQ.out.trans (Below.mono hV HBQ.out.size)).cell (p := ⟨b', o' + j, none⟩) hb'.2).trans k1'
            have w1 : ∀ V, Since wq V → (convert 35 9 (.slice Ax nx cx)).run Try.prog V = .ok (.string ⟨ry.toArray⟩) V := fun V hV => (hl.up (HBQ.out.trans (Below.mono hV HBQ.out.size))).conv
            have w1' : ∀ V, Since wq V → (convert 35 9 (.slice Ay ny cy)).run Try.prog V = .ok (.string ⟨ry.toArray⟩) V := fun V hV => (hl'.up (HBQ.out.trans (Below.mono hV HBQ.out.size))).conv
            have hdj : decide ((j : Int) < (n2 : Int)) = true := decide_eq_true (by omega)
            have hdj2 : decide (j < n2) = true := decide_eq_true hlt
            have hi2 : (j : Int) < (n2 : Int) := by omega
            have hi3 : (j : Int) < (n : Int) := by omega
            have hi4 : j < n := by omega
            clear hp hp' hr k1 k1' hl hl' hb hb' hjr hbj
            go_upto_region 25 with fail
            refine wp_region_since (by kernel_rfl) ?_
            have hS : Since wq (World.drew wq) := (Below.refl _ _).drew
            refine wpAnyH_take (i := 0) (oi := ⟨some 134, _, _, _, _, _⟩) (v := ?_) rfl (by kernel_rfl) (by kernel_rfl) (by kernel_rfl) (fun _ _ _ h => h) (Or.inl ⟨by rfl, ?_⟩) hS ?_
            rotate_left
            · intro W hW; go_simp; with_reducible rfl
            try simp only [Act.put, List.setIfInBounds_toArray, List.set_cons_zero, List.set_cons_succ]
            refine wpAnyH_take (i := 1) (oi := ⟨some 135, _, _, _, _, _⟩) (v := ?_) rfl (by kernel_rfl) (by kernel_rfl) (by kernel_rfl) (fun _ _ _ h => h) (Or.inl ⟨by rfl, ?_⟩) hS ?_
            rotate_left
            · intro W hW; go_simp; with_reducible rfl
            try simp only [Act.put, List.setIfInBounds_toArray, List.set_cons_zero, List.set_cons_succ]
            refine wpAnyH_take (i := 2) (oi := ⟨some 136, _, _, _, _, _⟩) (v := ?_) rfl (by kernel_rfl) (by kernel_rfl) (by kernel_rfl) (fun _ _ _ h => h) (Or.inl ⟨by rfl, ?_⟩) hS ?_
            rotate_left
            · intro W hW; go_simp; with_reducible rfl
            try simp only [Act.put, List.setIfInBounds_toArray, List.set_cons_zero, List.set_cons_succ]
            refine wpAnyH_take (i := 3) (oi := ⟨some 137, _, _, _, _, _⟩) (v := ?_) rfl (by kernel_rfl) (by kernel_rfl) (by kernel_rfl) (fun _ _ _ h => h) (Or.inl ⟨by rfl, ?_⟩) hS ?_
            rotate_left
            · intro W hW; go_simp; with_reducible rfl
            try simp only [Act.put, List.setIfInBounds_toArray, List.set_cons_zero, List.set_cons_succ]
            refine wpAnyH_take (i := 4) (oi := ⟨some 138, _, _, _, _, _⟩) (v := ?_) rfl (by kernel_rfl) (by kernel_rfl) (by kernel_rfl) (fun _ _ _ h => h) (Or.inl ⟨by rfl, ?_⟩) hS ?_
            rotate_left
            · intro W hW; go_simp; with_reducible rfl
            try simp only [Act.put, List.setIfInBounds_toArray, List.set_cons_zero, List.set_cons_succ]
            refine wpAnyH_take (i := 5) (oi := ⟨some 139, _, _, _, _, _⟩) (v := ?_) rfl (by kernel_rfl) (by kernel_rfl) (by kernel_rfl) (fun _ _ _ h => h) (Or.inl ⟨by rfl, ?_⟩) hS ?_
            rotate_left
            · intro W hW; go_simp; with_reducible rfl
            try simp only [Act.put, List.setIfInBounds_toArray, List.set_cons_zero, List.set_cons_succ]
            refine wpAnyH_take (i := 6) (oi := ⟨some 140, _, _, _, _, _⟩) (v := ?_) rfl (by kernel_rfl) (by kernel_rfl) (by kernel_rfl) (fun _ _ _ h => h) (Or.inl ⟨by rfl, ?_⟩) hS ?_
            rotate_left
            · intro W hW; go_simp; with_reducible rfl
            try simp only [Act.put, List.setIfInBounds_toArray, List.set_cons_zero, List.set_cons_succ]
            refine wpAnyH_take (i := 7) (oi := ⟨some 141, _, _, _, _, _⟩) (v := ?_) rfl (by kernel_rfl) (by kernel_rfl) (by kernel_rfl) (fun _ _ _ h => h) (Or.inl ⟨by rfl, ?_⟩) hS ?_
            rotate_left
            · intro W hW; go_simp; with_reducible rfl
            try simp only [Act.put, List.setIfInBounds_toArray, List.set_cons_zero, List.set_cons_succ]
            refine wpAnyH_take (i := 8) (oi := ⟨some 142, _, _, _, _, _⟩) (v := ?_) rfl (by kernel_rfl) (by kernel_rfl) (by kernel_rfl) (fun _ _ _ h => h) (Or.inl ⟨by rfl, ?_⟩) hS ?_
            rotate_left
            · intro W hW; go_simp; with_reducible rfl
            try simp only [Act.put, List.setIfInBounds_toArray, List.set_cons_zero, List.set_cons_succ]
            refine wpAnyH_take (i := 9) (oi := ⟨some 143, _, _, _, _, _⟩) (v := ?_) rfl (by kernel_rfl) (by kernel_rfl) (by kernel_rfl) (fun _ _ _ h => h) (Or.inl ⟨by rfl, ?_⟩) hS ?_
            rotate_left
            · intro W hW; go_simp; with_reducible rfl
            try simp only [Act.put, List.setIfInBounds_toArray, List.set_cons_zero, List.set_cons_succ]
            refine wpAnyH_take (i := 10) (oi := ⟨some 144, _, _, _, _, _⟩) (v := ?_) rfl (by kernel_rfl) (by kernel_rfl) (by kernel_rfl) (fun _ _ _ h => h) (Or.inl ⟨by rfl, ?_⟩) hS ?_
            rotate_left
            · intro W hW; go_simp; with_reducible rfl
            try simp only [Act.put, List.setIfInBounds_toArray, List.set_cons_zero, List.set_cons_succ]
            refine wpAnyH_take (i := 11) (oi := ⟨some 145, _, _, _, _, _⟩) (v := ?_) rfl (by kernel_rfl) (by kernel_rfl) (by kernel_rfl) (fun _ _ _ h => h) (Or.inl ⟨by rfl, ?_⟩) hS ?_
            rotate_left
            · intro W hW; go_simp; with_reducible rfl
            try simp only [Act.put, List.setIfInBounds_toArray, List.set_cons_zero, List.set_cons_succ]
            refine wpAnyH_done (by kernel_rfl) ?_ _
            have HB2 : Hid (Below w6.heap.size w6 wq.drew) := HBQ.out.trans (Below.mono hS HBQ.out.size)
            clear hS v1 v1' w1 w1'
            go_wp2_with fail
            refine ⟨⟨j + 1, by go_num, by omega, HB2⟩, by simp [intOf]; omega⟩
          · have hjn : j = n2 := by omega
            subst hjn
            have hdj : decide ((j : Int) < (j : Int)) = false := decide_eq_false (by omega)
            have hdj2 : decide (j < j) = false := decide_eq_false (by omega)
            go_wp2_with fail
            go_ret
            exact ⟨rfl, HBE.out.trans (HBQ.out.mono HBE.out.size)⟩

end Go.Proofs.Ytdjfahnnfhediaa
