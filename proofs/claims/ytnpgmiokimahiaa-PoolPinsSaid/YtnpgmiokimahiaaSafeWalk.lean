/-
  PoolSafe, over the words.
-/
import Derived.Test.YtnpgmiokimahiaaPs
import Derived.LoopTactic
import Derived.Deep.LoopGhost
import Derived.Deep.Cut
namespace Go.Proofs.Ytnpgmiokimahiaa
set_option maxRecDepth 100000
set_option linter.unusedVariables false
open Go.RowKit Pl

theorem pad9 : (Dv.pad x9).length = 64 ∧ (Dv.pad x9)[0]? = some 9 := ⟨Dv.len_pad _ (by decide), rfl⟩

set_option maxHeartbeats 4000000 in
theorem safe_walk {PAt : Lay} (K : PoolOk PAt) (A : Option Addr) (len c : Nat) (f : Nat → Int) (z : Int) (w : World) (hl : Is w A len f) :
    Calls Try.prog 7 #[.slice A len c, .int .i64 z] w fun e w' => e = .returned (.bool true) ∧ Below w.heap.size w w' := by
  have HL := Lib.hid hl
  have HAW := Lib.hid (awake_any K w)
  have HK := Lib.hid K
  clear hl K
  by_cases h8 : len ≤ 8
  · obtain ⟨s, hs⟩ : ∃ s, s = lw z := ⟨_, rfl⟩
    have hs16 : s < 16 := by rw [hs]; exact lw_lt z
    have hz : bits .and .i64 z 15 = (s : Int) := by rw [hs]; exact and_lw z
    clear hs
    have hd8 : decide ((8 : Int) < (len : Int)) = false := decide_eq_false (by omega)
    go_enter Try.func7, Try.ntmps7
    go_wp2_with fail
    refine HAW.out.mono ?_
    rintro e w0 ⟨rfl, hb0⟩
    have HB0 := Lib.hid hb0
    clear hb0 HAW
    go_wp2_with fail
    refine (newdr HB0.out 8 (by omega) (by omega)).mono ?_
    rintro e w1 ⟨p, L, M, rfl, hdr, _, _⟩
    have HD1 := Lib.hid hdr
    have HF := Lib.hid (Dv.free_fresh 8)
    clear hdr HB0
    go_wp2_with fail
    refine (PW.made HK.out HD1.out HF.out 8 (by omega)).mono ?_
    rintro e w2 ⟨v, T, rfl, hpw, _, _⟩
    have HP2 : Hid (PW PAt w w2 p L M v (Dv.fresh 8) (mS f 0) T) := Lib.hid (by rw [mS_zero]; exact hpw)
    clear hpw HD1
    go_wp2_with fail
    go_loopg [11] len (fun gn i wr => ∃ (j : Nat) (T : Nat → Prop), i = .int .i64 (j : Int) ∧ j + gn = len ∧ Hid (PW PAt w wr p L M v (Dv.fresh 8) (mS f j) T))
    case atStart => exact ⟨0, T, rfl, by omega, HP2⟩
    case round =>
      obtain ⟨j, T, rfl, hog, HP⟩ := hrel
      have HRD : Hid ((mS f j).reads ≤ 100000) := Lib.hid (show j ≤ 100000 by omega)
      have HSP : Hid ((Dv.fresh 8).spent ≤ 100000) := Lib.hid (Nat.zero_le _)
      rcases Nat.lt_or_ge j len with hlt | hge
      · have hdj : decide ((j : Int) < (len : Int)) = true := decide_eq_true (by omega)
        have hdn : decide (j < len) = true := decide_eq_true hlt
        have hbj := HP.out.dr.bel
        obtain ⟨b, o, rfl, hc⟩ := HL.out.get (V := wr.alloc (.cells #[.int .u8 9] 5)) (hbj.trans ((below_new wr _).mono hbj.size)) hlt
        have hand := and_lw (f j)
        have HLW := Lib.hid (lw_lt (f j))
        obtain ⟨y, hy⟩ : ∃ y, y = lw (f j) := ⟨_, rfl⟩
        rw [← hy] at hand
        have HY := Lib.hid hy
        have HP3 := Lib.hid (HP.out.alloc HK.out (.cells #[.int .u8 9] 5))
        have HFI : Hid (Firm (PS T p L M) (wr.alloc (.cells #[.int .u8 9] 5)) (some ⟨wr.heap.size, 0, none⟩) x9) := Lib.hid (firm_one 9 9 rfl (Oth.new (o := .cells #[.int .u8 9] 5) HK.out HP.out).no (0, 0))
        clear hbj hy
        go_wp2_with fail
        clear hc
        generalize wr.alloc (.cells #[.int .u8 9] 5) = w3 at *
        generalize wr.heap.size = g3 at *
        refine (HP3.out.put HK.out HSP.out HRD.out j (show j < 8 by omega) (y : Int) (by have := HLW.out; have := HY.out; omega) HFI.out rfl (by decide)).mono ?_
        rintro e w4 ⟨E, D4, m4, T4, rfl, hp⟩
        obtain ⟨rfl, rfl, hm4⟩ := hp.put.wide (mS_none f j) (show (keys 8 (mS f j).F).length < 8 from by rw [mS_keys f 8 j (by omega)]; omega) (by decide) (by omega)
        have HP4 : Hid (PW PAt w w4 p L M v (Dv.fresh 8) (mS f (j + 1)) T4) := Lib.hid (by
          have h := hp.pw
          rw [hm4, HY.out, mS_step] at h
          exact h)
        clear hp hm4 HP3 HFI hand
        go_wp2_with fail
        go_roundg (gk - 1)
        case measure => omega
        case rel => exact ⟨j + 1, T4, by go_num, by omega, HP4⟩
      · obtain rfl : j = len := by omega
        clear hge
        go_wp2_with fail
        refine (HP.out.tell HK.out HSP.out HRD.out (s : Int) ⟨by omega, by omega⟩).mono ?_
        rintro e w5 ⟨T5, rfl, hp5, _⟩
        have HP5 := Lib.hid hp5
        clear hp5 HP
        go_wp2_with fail
        refine (HP5.out.wash HK.out HSP.out HRD.out).mono ?_
        rintro e w6 ⟨D6, m6, T6, rfl, hcl, hp6, _⟩
        have HSE := Lib.hid (safe_end f j s h8 hcl)
        have HP6 := Lib.hid hp6
        have HRD6 : Hid (m6.reads ≤ 100000) := Lib.hid (by have := HSE.out.reads; omega)
        have HSP6 : Hid (D6.spent ≤ 100000) := Lib.hid (by have := HSE.out.spent; omega)
        clear hcl hp6 HP5 HRD HSP
        go_wp2_with fail
        refine (HP6.out.dirty HK.out HSP6.out HRD6.out).mono ?_
        rintro e w7 ⟨A7, q, c7, rfl, hq7, how7, hb7⟩
        rw [HSE.out.n, HSE.out.dirt] at hq7 how7
        have HP7 := Lib.hid (HP6.out.below HK.out hb7)
        have HQ := Lib.hid hq7
        have hqc : q ≤ c7 := by
          rcases how7.2 with ⟨e, hn⟩ | ⟨g, cc, cur, e, _, _, hnc, _⟩
          · injection e with e1 e2 e3; omega
          · injection e with _ e2 e3; omega
        have HCL : Hid (∀ (n i : Nat), (lates f j s j)[n]? = some i → ∃ g, A7 = some ⟨g, 0, none⟩ ∧ ∀ V, Below w7.heap.size w7 V → V.cell? ⟨g, n, none⟩ = some (.int .i64 (i : Int))) := Lib.hid (fun n i hn => by
          have hlt := (List.getElem?_eq_some_iff.1 hn).1
          obtain ⟨g, e, _, hgl, hc⟩ := ints_cells how7 (by omega)
          refine ⟨g, e, fun V hV => ?_⟩
          have h1 := hc n hlt
          rw [List.getD_eq_getElem?_getD, hn] at h1
          exact (hV.cell (p := ⟨g, n, none⟩) hgl).trans h1)
        have HQL : Hid (D6.spent + q = j) := Lib.hid (by rw [hq7]; exact HSE.out.spent)
        have hqj : q ≤ j := by have := HQL.out; omega
        clear how7 hq7 hb7 HP6
        go_wp2_with fail
        go_loopg [14, 15, 16, 17, 18] j (fun gn n i _ _ _ wr => ∃ (k nn : Nat), i = .int .i64 (k : Int) ∧ n = .int .i64 (nn : Int) ∧ k + gn = j ∧ nn ≤ k ∧ Hid (nn = (lates f j s k).length) ∧ Hid (PW PAt w wr p L M v D6 m6 T6) ∧ Hid (Below w7.heap.size w7 wr))
        case atStart => exact ⟨0, 0, rfl, rfl, by omega, Nat.le_refl _, Lib.hid rfl, HP7, Lib.hid (Below.refl _ _)⟩
        case round =>
          obtain ⟨k, nn, rfl, rfl, hok, hnk, HNN, HPW, HBL⟩ := hrel
          rcases Nat.lt_or_ge k j with hlt | hge
          · have hdj : decide (k < j) = true := decide_eq_true hlt
            have hdi : decide ((k : Int) < (j : Int)) = true := decide_eq_true (by omega)
            obtain ⟨b, o, rfl, hc⟩ := HL.out.get HPW.out.dr.bel hlt
            have hand := and_lw (f k)
            obtain ⟨y, hy⟩ : ∃ y, y = lw (f k) := ⟨_, rfl⟩
            rw [← hy] at hand
            have HY := Lib.hid hy
            have hy16 : y < 16 := by rw [hy]; exact lw_lt _
            have hfree := HPW.out.free
            have hrd : D6.read (k : Int) = sec D6 k := hfree.read (i := k) (by rw [HSE.out.n]; omega)
            have hse := HSE.out.sec k hlt
            clear hy hfree
            by_cases hlate : s < y
            · have hl1 : late f j s k = true := by unfold late; rw [← HY.out]; simp; omega
              have hb1 : decide (s < y) = true := decide_eq_true hlate
              have hb2 : decide ((s : Int) < (y : Int)) = true := decide_eq_true (by omega)
              rw [hl1, if_pos rfl] at hse
              have HRS : Hid (D6.read (k : Int) = Dv.zeros) := Lib.hid (hrd.trans hse)
              have hat := lates_at f j s k j hlt hl1
              rw [← HNN.out] at hat
              have hnq : nn < q := by rw [HQ.out]; exact (List.getElem?_eq_some_iff.1 hat).1
              have hst : (lates f j s (k + 1)).length = nn + 1 := by rw [lates_step, if_pos hl1, List.length_append, ← HNN.out]; rfl
              have HST := Lib.hid hst
              have hdq : decide (q ≤ nn) = false := decide_eq_false (by omega)
              have hdq2 : decide ((q : Int) ≤ (nn : Int)) = false := decide_eq_false (by omega)
              have HAT := Lib.hid hat
              clear hrd hse hat hst hl1
              go_wp2_with fail
              refine (read_sec HPW.out.dr.dev (k : Int) HRS.out Dv.len_zeros).mono ?_
              rintro e w8 ⟨g8, rfl, _, hc8, hb8⟩
              have HP8 := Lib.hid (HPW.out.below HK.out hb8)
              have HB8 := Lib.hid (HBL.out.trans (hb8.mono HBL.out.size))
              have b0 : w8.cell? ⟨g8, 0, none⟩ = some (.int .u8 0) := by rw [cell_of_row _ _ _ _ _ _ hc8]; rfl
              obtain ⟨g7, rfl, hcell⟩ := HCL.out nn k HAT.out
              have hc9 := hcell w8 HB8.out
              clear hc8 hb8 hc hcell HAT HBL HPW HRS
              go_wp2_with fail
              go_roundg (gk - 1)
              case measure => omega
              case rel => exact ⟨k + 1, nn + 1, by go_num, by go_num, by omega, by omega, Lib.hid HST.out.symm, HP8, HB8⟩
            · have hl1 : late f j s k = false := by unfold late; rw [← HY.out]; simp; omega
              have hb1 : decide (s < y) = false := decide_eq_false hlate
              have hb2 : decide ((s : Int) < (y : Int)) = false := decide_eq_false (by omega)
              rw [hl1, if_neg (by simp)] at hse
              have HRS : Hid (D6.read (k : Int) = Dv.pad x9) := Lib.hid (hrd.trans hse)
              have HST : Hid ((lates f j s (k + 1)).length = nn) := Lib.hid (by rw [lates_step, if_neg (by rw [hl1]; simp), ← HNN.out])
              clear hrd hse hl1
              go_wp2_with fail
              refine (read_sec HPW.out.dr.dev (k : Int) HRS.out pad9.1).mono ?_
              rintro e w8 ⟨g8, rfl, _, hc8, hb8⟩
              have HP8 := Lib.hid (HPW.out.below HK.out hb8)
              have HB8 := Lib.hid (HBL.out.trans (hb8.mono HBL.out.size))
              have b0 : w8.cell? ⟨g8, 0, none⟩ = some (.int .u8 9) := by rw [cell_of_row _ _ _ _ _ _ hc8]; rfl
              clear hc8 hb8 hc HBL HPW HRS
              go_wp2_with fail
              go_roundg (gk - 1)
              case measure => omega
              case rel => exact ⟨k + 1, nn, by go_num, rfl, by omega, by omega, Lib.hid HST.out.symm, HP8, HB8⟩
          · obtain rfl : k = j := by omega
            have hnq : nn = q := by rw [HQ.out]; exact HNN.out
            subst hnq
            have HSPN := Lib.hid (spent_any HPW.out.dr.dev)
            obtain ⟨sp, hsp⟩ : ∃ sp, sp = D6.spent := ⟨_, rfl⟩
            have HQS := HQL.out
            rw [← hsp] at HSPN HQS
            have hfin : ((sp : Int) == (k : Int) - (nn : Int)) = true := by simp; omega
            have hsub : IntKind.i64.wrap ((k : Int) - (nn : Int)) = (k : Int) - (nn : Int) := by rw [IntKind.wrap_i64]; omega
            have HBE := Lib.hid HPW.out.dr.bel
            clear hsp HQS hge
            go_wp2_with fail
            refine HSPN.out.mono ?_
            rintro e w8 ⟨rfl, he8⟩
            subst he8
            go_wp2_with fail
            go_ret
            exact ⟨rfl, HBE.out⟩
  · have hd8 : decide ((8 : Int) < (len : Int)) = true := decide_eq_true (by omega)
    go_enter Try.func7, Try.ntmps7
    go_wp2_with fail
    refine HAW.out.mono ?_
    rintro e w0 ⟨rfl, hb0⟩
    have HB0 := Lib.hid hb0
    clear hb0 HAW
    go_wp2_with fail
    go_ret
    exact ⟨rfl, HB0.out⟩

end Go.Proofs.Ytnpgmiokimahiaa
