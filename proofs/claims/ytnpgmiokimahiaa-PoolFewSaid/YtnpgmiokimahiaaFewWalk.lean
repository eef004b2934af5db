/-
  PoolFew, over the words.
-/
import Derived.Test.YtnpgmiokimahiaaPf
import Derived.Test.YtnpgmiokimahiaaSafeWalk
namespace Go.Proofs.Ytnpgmiokimahiaa
set_option maxRecDepth 100000
set_option linter.unusedVariables false
open Go.RowKit Pl

theorem wpList_make_run {P : Program} {ops : Array Oper} {rest : List Oper} {o : Oper} {a : Act} {w w' : World} {Q : Exit → Act → World → Prop} (hgd : o.guard = none) (t : TypeId) (l c : Operand) (ho : o.op = .makeSlice t l c) {x y v : Value} (hl : a.eval l = x) (hc : a.eval c = y)
    (hrun : (Instr.makeSlice t x y).run P w = .ok v w') (h : wpList P ops Q rest (a.put o.dst v) w') : wpList P ops Q (o :: rest) a w :=
  wpList_plain hgd fun _ hK => wp_make t l c ho hl hc hrun (hK _ _ h)

/-- a number's three low bits -/
def l3 (n : Int) : Nat := (n % 8).toNat
theorem l3_lt (n : Int) : l3 n < 8 := by unfold l3; omega
theorem and_l3 (n : Int) : bits .and .i64 n 7 = (l3 n : Int) := by
  rw [and_mask n 7 3 (by decide) (by omega)]
  unfold l3
  omega

def metV (met : Nat → Bool) : List Value := (List.range 8).map fun i => .bool (met i)
theorem metV_zero : List.replicate 8 (Value.bool false) = metV fun _ => false := rfl
theorem metV_at (met : Nat → Bool) {i : Nat} (hi : i < 8) : (metV met)[i]? = some (.bool (met i)) := by
  unfold metV
  rw [List.getElem?_map, List.getElem?_range hi]
  rfl
theorem metV_set (met : Nat → Bool) {i : Nat} (hi : i < 8) : (metV met).set i (.bool true) = metV (meet met i) := by
  apply List.ext_getElem?
  intro j
  rw [List.getElem?_set]
  unfold metV
  rw [List.getElem?_map]
  by_cases e : i = j
  · subst e
    rw [if_pos rfl, List.length_map, List.length_range, if_pos hi, List.getElem?_map, List.getElem?_range hi]
    show _ = some (Value.bool (meet met i i))
    rw [show meet met i i = true from if_pos rfl]
  · rw [if_neg e, List.getElem?_map]
    rcases Nat.lt_or_ge j 8 with h | h
    · rw [List.getElem?_range h]
      show some (Value.bool (met j)) = some (Value.bool (meet met i j))
      rw [show meet met i j = met j from if_neg (fun e2 => e e2.symm)]
    · rw [List.getElem?_eq_none (by simp; exact h)]
      rfl

set_option maxHeartbeats 4000000 in
theorem few_walk {PAt : Lay} (K : PoolOk PAt) (A : Option Addr) (len c : Nat) (f : Nat → Int) (z : Int) (w : World) (hl : Is w A len f) :
    Calls Try.prog 6 #[.slice A len c, .int .i64 z] w fun e w' => e = .returned (.bool true) ∧ Below w.heap.size w w' := by
  have HL := Lib.hid hl
  have HAW := Lib.hid (awake_any K w)
  have HK := Lib.hid K
  clear hl K
  by_cases h100 : len ≤ 100
  · obtain ⟨s, hs⟩ : ∃ s, s = l3 z := ⟨_, rfl⟩
    have hs8 : s < 8 := by rw [hs]; exact l3_lt z
    have hz : bits .and .i64 z 7 = (s : Int) := by rw [hs]; exact and_l3 z
    clear hs
    have hd8 : decide ((100 : Int) < (len : Int)) = false := decide_eq_false (by omega)
    go_enter Try.func6, Try.ntmps6
    go_wp2_with fail
    refine HAW.out.mono ?_
    rintro e w0 ⟨rfl, hb0⟩
    have HB0 := Lib.hid hb0
    clear hb0 HAW
    go_wp2_with fail
    refine (newdr HB0.out 8 (by omega) (by omega)).mono ?_
    rintro e w1 ⟨p, L, M, rfl, hdr, _, _⟩
    have HD1 := Lib.hid hdr
    clear hdr HB0
    go_wp2_with fail
    go_loopg [8] 8 (fun gn i wr => ∃ (j : Nat) (D : Dv), i = .int .i64 (j : Int) ∧ j + gn = 8 ∧ Hid (Dr w wr p L M D) ∧ Hid (Fw D j))
    case atStart => exact ⟨0, _, rfl, by omega, HD1, Lib.hid Fw.zero⟩
    case round =>
      obtain ⟨j, D, rfl, hog, HD, HFW⟩ := hrel
      rcases Nat.lt_or_ge j 8 with hlt | hge
      · have hdj : decide ((j : Int) < 8) = true := decide_eq_true (by omega)
        obtain ⟨y, hy⟩ : ∃ y : Int, y = ((UInt8.ofNat (j + 1)).toNat : Int) := ⟨_, rfl⟩
        have hyj : y = (j : Int) + 1 := by rw [hy, UInt8.toNat_ofNat']; omega
        subst hyj
        have hwr : IntKind.u8.wrap ((j : Int) + 1) = (j : Int) + 1 := by simp only [IntKind.wrap, IntKind.bits, IntKind.signed]; simp; omega
        have HFI : Hid (Firm (DS p L M) (wr.alloc (.cells #[.int .u8 ((j : Int) + 1)] 5)) (some ⟨wr.heap.size, 0, none⟩) [UInt8.ofNat (j + 1)]) := Lib.hid (firm_one _ _ hy HD.out.notNew (0, 0))
        have HD2 := Lib.hid (HD.out.alloc (.cells #[.int .u8 ((j : Int) + 1)] 5))
        clear hy
        go_wp2_with fail
        generalize wr.alloc (.cells #[.int .u8 ((j : Int) + 1)] 5) = w3 at *
        generalize wr.heap.size = g3 at *
        refine (dwrite_any HD2.out.dev (by rw [HFW.out.spent]; omega) (j : Int) HFI.out 1 1 rfl).mono ?_
        rintro e w4 ⟨rfl, hdv, htn⟩
        have HD4 := Lib.hid (HD2.out.turn hdv htn)
        have HF4 := Lib.hid (HFW.out.step hlt)
        generalize D.writeE (j : Int) [UInt8.ofNat (j + 1)] = E at *
        clear hdv htn HD2 HFI
        go_wp2_with fail
        go_roundg (gk - 1)
        case measure => omega
        case rel => exact ⟨j + 1, _, by go_num, by omega, HD4, HF4⟩
      · obtain rfl : j = 8 := by omega
        clear hge
        have HFR := Lib.hid HFW.out.free
        go_wp2_with fail
        refine (PW.made HK.out HD.out HFR.out 8 (by omega)).mono ?_
        rintro e w5 ⟨v1, T1, rfl, hp1, _, _⟩
        have HP1 := Lib.hid hp1
        clear hp1
        go_wp2_with fail
        have hsum : (1 : Int) + (s : Int) = ((1 + s : Nat) : Int) := by omega
        refine (PW.made HK.out HP1.out.dr HFR.out (1 + s) (by omega)).mono ?_
        rintro e w6 ⟨v2, T2, rfl, hp2, hb6, ht2⟩
        clear hsum
        have HP2 := Lib.hid hp2
        have HP6 := Lib.hid (HP1.out.below HK.out hb6)
        have HDJ : Hid (∀ k, T2 k → ¬ T1 k) := Lib.hid (fun k h2 h1 => by have := ht2 k h2; have := HK.out.lt HP1.out.pat k h1; omega)
        obtain ⟨w7, hmk, hvr, hb7⟩ := make_row (t := 48) Try.underlying48 bool_info rfl w6 8 (by omega) (by omega)
        have HMK := Lib.hid hmk
        have HV7 : Hid (Vr w7 w6.heap.size 4 (metV fun _ => false)) := Lib.hid (by rw [← metV_zero]; exact hvr)
        have HA7 : Hid (PW PAt w w7 p L M v1 D (mA D (fun _ => false) (cntM fun _ => false)) T1) := Lib.hid (by
          have h := HP6.out.below HK.out hb7
          rw [← mA_zero D] at h
          exact h)
        have HC7 := Lib.hid (HP2.out.below HK.out hb7)
        have HO1 : Hid (Oth w7 p L M T1 w6.heap.size) := Lib.hid ⟨hvr.lt, (Oth.new (o := .cells #[] 4) HK.out HP6.out).no⟩
        have HO2 : Hid (Oth w7 p L M T2 w6.heap.size) := Lib.hid ⟨hvr.lt, (Oth.new (o := .cells #[] 4) HK.out HP2.out).no⟩
        have HWG : Hid (w.heap.size ≤ w6.heap.size) := Lib.hid HP2.out.dr.bel.size
        clear hmk hvr hb7 hp2 hb6 ht2 HP1 HP2 HP6
        go_wp2_with (at_make; refine wpList_make_run rfl 48 _ _ rfl rfl rfl HMK.out ?_)
        generalize w6.heap.size = g at *
        clear HMK
        go_loopg [15, 16, 17, 18, 19, 20, 21] len (fun gn n i _ _ _ _ _ wr => ∃ (j n0 : Nat) (met : Nat → Bool) (m2 : Pm) (T1 T2 : Nat → Prop), i = .int .i64 (j : Int) ∧ n = .int .i64 (n0 : Int) ∧ j + gn = len ∧ Hid (n0 = cntM met) ∧
          Hid (PW PAt w wr p L M v1 D (mA D met (cntM met)) T1) ∧ Hid (PW PAt w wr p L M v2 D m2 T2) ∧ Hid (∀ k, T2 k → ¬ T1 k) ∧ Hid (FB met (1 + s) j (cntM met) m2) ∧ Hid (Vr wr g 4 (metV met)) ∧ Hid (Oth wr p L M T1 g) ∧ Hid (Oth wr p L M T2 g))
        case atStart => exact ⟨0, 0, _, _, T1, T2, rfl, rfl, by omega, Lib.hid rfl, HA7, HC7, HDJ, Lib.hid (FB.zero _), HV7, HO1, HO2⟩
        case round =>
          clear HA7 HC7 HDJ HV7 HO1 HO2 HD
          obtain ⟨j, n0, met, m2, T1, T2, rfl, rfl, hog, HN0, HA, HB, HDJ, HFB, HV, HO1, HO2⟩ := hrel
          have hn8 : n0 ≤ 8 := by rw [HN0.out]; exact cntM_le met
          rcases Nat.lt_or_ge j len with hlt | hge
          · have hdj : decide (j < len) = true := decide_eq_true hlt
            have hdi : decide ((j : Int) < (len : Int)) = true := decide_eq_true (by omega)
            obtain ⟨b, o, rfl, hc⟩ := HL.out.get HA.out.dr.bel hlt
            have hand := and_l3 (f j)
            obtain ⟨a, ha⟩ : ∃ a, a = l3 (f j) := ⟨_, rfl⟩
            have ha8 : a < 8 := by rw [ha]; exact l3_lt _
            rw [← ha] at hand
            have hm0 := (HV.out.cell a).trans (metV_at met ha8)
            have fm0 := HV.out.fr a
            clear ha
            rcases Bool.eq_false_or_eq_true (met a) with hm | hm
            focus
              have HM := Lib.hid hm
              rw [hm] at hm0
              clear hm
              go_upto_region 23 with fail
              clear hm0 fm0 hc hand
              have HN1 : Hid (n0 = cntM (meet met a)) := Lib.hid (by rw [meet_met HM.out]; exact HN0.out)
              have HV1 : Hid (Vr wr g 4 (metV (meet met a))) := Lib.hid (by rw [meet_met HM.out]; exact HV.out)
              clear HM HN0 HV
              obtain ⟨wq, hwq⟩ : ∃ wq, wq = wr := ⟨_, rfl⟩
              obtain ⟨nx, hnx⟩ : ∃ nx, nx = n0 := ⟨_, rfl⟩
              subst hwq hnx
            rotate_left
            focus
              have HM := Lib.hid hm
              rw [hm] at hm0
              clear hm
              go_upto_region 23 with fail
              clear hm0 fm0 hc hand
              have hg := setCell_grown wr g a (.bool true)
              have HA' := Lib.hid (HA.out.turn HK.out HO1.out hg HWG.out)
              have HB' := Lib.hid (HB.out.turn HK.out HO2.out hg HWG.out)
              have HO1' := Lib.hid (HO1.out.size hg.size)
              have HO2' := Lib.hid (HO2.out.size hg.size)
              have HV1 : Hid (Vr (wr.setCell ⟨g, a, none⟩ (.bool true)) g 4 (metV (meet met a))) := Lib.hid (by
                have h := HV.out.set_ a (.bool true)
                rw [metV_set met ha8] at h
                exact h)
              have hn1 : (n0 : Int) + 1 = ((n0 + 1 : Nat) : Int) := by omega
              rw [hn1]
              have HN1 : Hid (n0 + 1 = cntM (meet met a)) := Lib.hid (by rw [cntM_new ha8 HM.out, ← HN0.out])
              clear hg HA HB HO1 HO2 HV HN0 HM hn1
              generalize wr.setCell ⟨g, a, none⟩ (.bool true) = wq at *
              obtain ⟨nx, hnx⟩ : ∃ nx, n0 + 1 = nx := ⟨_, rfl⟩
              rw [hnx] at HN1 ⊢
              clear hnx
              have HA := HA'
              have HB := HB'
              have HO1 := HO1'
              have HO2 := HO2'
              clear HA' HB' HO1' HO2'
            all_goals
              have HSP : Hid (D.spent ≤ 100000) := Lib.hid (by rw [HFW.out.spent]; omega)
              have HRA : Hid ((mA D met (cntM met)).reads ≤ 100000) := Lib.hid (by show cntM met ≤ 100000; have := cntM_le met; omega)
              have HRB : Hid (m2.reads ≤ 100000) := Lib.hid (by have := HFB.out.hi; omega)
              have HDN : Hid (a < D.n) := Lib.hid (by rw [HFW.out.n]; exact ha8)
              go_wp2_with fail
              refine (HA.out.get HK.out HSP.out HRA.out a HDN.out).mono ?_
              rintro e x1 ⟨E1, A1, N1, c1, l1, D1, m1, T3, rfl, ho1, hg1⟩
              obtain ⟨rfl, rfl, hm1, hcn⟩ := mA_get HFW.out.n ha8 hg1.held
              obtain ⟨rfl, hl1⟩ := hg1.yes rfl
              have HLQ : Hid (l1 = Dv.pad [UInt8.ofNat (a + 1)]) := Lib.hid (by rw [hl1, mA_cur]; exact HFW.out.sec a ha8)
              have HA1 : Hid (PW PAt w x1 p L M v1 D1 (mA D1 (meet met a) (cntM (meet met a))) T3) := Lib.hid (by rw [← hm1]; exact hg1.pw)
              obtain ⟨hb1, hd1⟩ := HB.out.beside HK.out hg1.pw hg1.nx HDJ.out
              have HB1 := Lib.hid hb1
              have HD1 := Lib.hid hd1
              have HW1 := Lib.hid ho1
              have HS1 : Hid (wq.heap.size ≤ x1.heap.size ∧ ∀ k, PS T2 p L M k → k < wq.heap.size) := Lib.hid ⟨hg1.nx.turn.size, fun k hk => by
                rcases hk with hk | hk
                · exact HK.out.lt HB.out.pat k hk
                · have := HB.out.dr.dev.lt; rcases hk with e | e | e <;> omega⟩
              have HO3 := Lib.hid (HO1.out.next hg1.nx)
              have HO4 : Hid (Oth x1 p L M T2 g) := Lib.hid (HO2.out.size hg1.nx.turn.size)
              have HV2 := Lib.hid (HV1.out.keep (hg1.nx.blk HO1.out))
              have HNX : Hid (nextN met a (cntM met) = cntM (meet met a)) := Lib.hid hcn.symm
              clear ho1 hg1 hm1 hcn hl1 hb1 hd1 HA HB HDJ HO1 HO2 HV1 HRA
              go_wp2_with fail
              refine (HB1.out.get HK.out HSP.out HRB.out a HDN.out).mono ?_
              rintro e x2 ⟨E2, A2, N2, c2, l2, D2, m3, T4, rfl, ho2, hg2⟩
              obtain ⟨rfl, rfl, hfb⟩ := HFB.out.get (by omega) hg2.held
              obtain ⟨rfl, hl2⟩ := hg2.yes rfl
              have HL2 : Hid (l2 = l1) := Lib.hid (by rw [hl2, HLQ.out, HFB.out.cur HB1.out.agree]; exact HFW.out.sec a ha8)
              have HFB2 : Hid (FB (meet met a) (1 + s) (j + 1) (cntM (meet met a)) m3) := Lib.hid (by rw [← HNX.out]; exact hfb)
              obtain ⟨ha1, hd1⟩ := HA1.out.beside HK.out hg2.pw hg2.nx (fun k h3 h2 => HD1.out k h2 h3)
              have HA2 := Lib.hid ha1
              have HD2 : Hid (∀ k, T4 k → ¬ T3 k) := Lib.hid (fun k h4 h3 => hd1 k h3 h4)
              have HB2 := Lib.hid hg2.pw
              have HW2 := Lib.hid (HW1.out.turn hg2.nx.turn HS1.out.2)
              have HO5 : Hid (Oth x2 p L M T3 g) := Lib.hid (HO3.out.size hg2.nx.turn.size)
              have HO6 := Lib.hid (HO4.out.next hg2.nx)
              have HV3 := Lib.hid (HV2.out.keep (hg2.nx.blk HO4.out))
              have HFEW : Hid ((keys D2.n m3.F).length ≤ 1 + s) := Lib.hid (by have h := hg2.held.mok.few; rw [hg2.held.room, HFB.out.room] at h; exact h)
              have kc1 := run_string_rd HW2.out.read 33 9 Try.underlying33 Try.underlying5 Try.underlying9 64 c1 HW2.out.len
              have kc2 := run_string_rd ho2.read 33 9 Try.underlying33 Try.underlying5 Try.underlying9 64 c2 ho2.len
              rw [HL2.out] at kc2
              obtain ⟨ga, rfl, _, _, hcell⟩ := HW2.out.at_ (by omega)
              obtain ⟨y, hy⟩ : ∃ y : Int, y = ((UInt8.ofNat (a + 1)).toNat : Int) := ⟨_, rfl⟩
              have hya : y = (a : Int) + 1 := by rw [hy, UInt8.toNat_ofNat']; omega
              have b0 : x2.cell? ⟨ga, 0, none⟩ = some (.int .u8 ((a : Int) + 1)) := by
                have h := hcell 0 (UInt8.ofNat (a + 1)) (by rw [HLQ.out]; rfl)
                rw [← hya, hy]
                exact h
              have hwr : IntKind.u8.wrap ((a : Int) + 1) = (a : Int) + 1 := by simp only [IntKind.wrap, IntKind.bits, IntKind.signed]; simp; omega
              have hself : (l1 == l1) = true := beq_self_eq_true _
              have HRC : Hid (m3.reads ≤ 100000) := Lib.hid (by have := HFB2.out.hi; omega)
              clear hfb hl2 ho2 hg2 ha1 hd1 HA1 HB1 HD1 HO3 HO4 HV2 HFB HRB HW1 HS1 hcell hy hya HNX
              go_wp2_with fail
              clear kc1 kc2 b0
              refine (HB2.out.held HK.out HSP.out HRC.out).mono ?_
              rintro e x3 ⟨A7, q, c7, rfl, hq7, _, hb7⟩
              have hq1 : q ≤ 1 + s := by rw [hq7]; exact HFEW.out
              have hdq : decide ((1 : Int) + (s : Int) < (q : Int)) = false := decide_eq_false (by omega)
              have HA3 := Lib.hid (HA2.out.below HK.out hb7)
              have HB3 := Lib.hid (HB2.out.below HK.out hb7)
              have HO7 := Lib.hid (HO5.out.below hb7)
              have HO8 := Lib.hid (HO6.out.below hb7)
              have HV4 := Lib.hid (HV3.out.below hb7)
              clear hq7 hb7 HA2 HB2 HO5 HO6 HV3
              go_wp2_with fail
              go_roundg (gk - 1)
              case measure => omega
              case rel => exact ⟨j + 1, nx, meet met a, m3, T3, T4, by go_num, rfl, by omega, HN1, HA3, HB3, HD2, HFB2, HV4, HO7, HO8⟩
          · obtain rfl : j = len := by omega
            have HSP : Hid (D.spent ≤ 100000) := Lib.hid (by rw [HFW.out.spent]; omega)
            have HRA : Hid ((mA D met (cntM met)).reads ≤ 100000) := Lib.hid (by show cntM met ≤ 100000; have := cntM_le met; omega)
            have HRB : Hid (m2.reads ≤ 100000) := Lib.hid (by have := HFB.out.hi; omega)
            clear hge HO1 HO2 HV
            have HKA : Hid ((keys D.n (mA D met (cntM met)).F).length = n0) := Lib.hid (by rw [HFW.out.n, mA_keys]; exact HN0.out.symm)
            have HDA : Hid (dirt D.n (mA D met (cntM met)).F = []) := Lib.hid (by rw [HFW.out.n, mA_dirt])
            have HDB : Hid (dirt D.n m2.F = []) := Lib.hid (HFB.out.dirt _)
            go_wp2_with fail
            refine (HA.out.told HK.out HSP.out HRA.out).mono ?_
            rintro e x1 ⟨rfl, hb⟩
            have hr1 : (mA D met (cntM met)).reads = n0 := HN0.out.symm
            rw [hr1]
            have HA1 := Lib.hid (HA.out.below HK.out hb)
            have HB1 := Lib.hid (HB.out.below HK.out hb)
            clear hb HA HB hr1
            go_wp2_with fail
            refine (HB1.out.told HK.out HSP.out HRB.out).mono ?_
            rintro e x2 ⟨rfl, hb⟩
            have hr2 : n0 ≤ m2.reads := by rw [HN0.out]; exact HFB.out.lo
            obtain ⟨r2, hre⟩ : ∃ r2, r2 = m2.reads := ⟨_, rfl⟩
            rw [← hre] at hr2 ⊢
            clear hre
            have hd2 : decide ((n0 : Int) ≤ (r2 : Int)) = true := decide_eq_true (by omega)
            have hd3 : decide (n0 ≤ r2) = true := decide_eq_true hr2
            have HA2 := Lib.hid (HA1.out.below HK.out hb)
            have HB2 := Lib.hid (HB1.out.below HK.out hb)
            clear hb HA1 HB1
            go_wp2_with fail
            refine (HA2.out.held HK.out HSP.out HRA.out).mono ?_
            rintro e x3 ⟨A3, q3, c3, rfl, hq, _, hb⟩
            rw [HKA.out] at hq
            subst hq
            have HA3 := Lib.hid (HA2.out.below HK.out hb)
            have HB3 := Lib.hid (HB2.out.below HK.out hb)
            clear hb HA2 HB2
            go_wp2_with fail
            refine (HA3.out.dirty HK.out HSP.out HRA.out).mono ?_
            rintro e x4 ⟨A4, q4, c4, rfl, hq, _, hb⟩
            rw [HDA.out] at hq
            replace hq : q4 = 0 := hq
            subst hq
            have HA4 := Lib.hid (HA3.out.below HK.out hb)
            have HB4 := Lib.hid (HB3.out.below HK.out hb)
            clear hb HA3 HB3
            go_wp2_with fail
            refine (HB4.out.dirty HK.out HSP.out HRB.out).mono ?_
            rintro e x5 ⟨A5, q5, c5, rfl, hq, _, hb⟩
            rw [HDB.out] at hq
            replace hq : q5 = 0 := hq
            subst hq
            have HA5 := Lib.hid (HA4.out.below HK.out hb)
            clear hb HA4 HB4
            go_wp2_with fail
            have HSN := Lib.hid (spent_any HA5.out.dr.dev)
            have hs8 : D.spent = 8 := HFW.out.spent
            rw [hs8] at HSN
            clear hs8
            refine HSN.out.mono ?_
            rintro e x6 ⟨rfl, he⟩
            subst he
            go_wp2_with fail
            go_ret
            exact ⟨rfl, HA5.out.dr.bel⟩
  · have hd8 : decide ((100 : Int) < (len : Int)) = true := decide_eq_true (by omega)
    go_enter Try.func6, Try.ntmps6
    go_wp2_with fail
    refine HAW.out.mono ?_
    rintro e w0 ⟨rfl, hb0⟩
    have HB0 := Lib.hid hb0
    clear hb0 HAW
    go_wp2_with fail
    go_ret
    exact ⟨rfl, HB0.out⟩

end Go.Proofs.Ytnpgmiokimahiaa
