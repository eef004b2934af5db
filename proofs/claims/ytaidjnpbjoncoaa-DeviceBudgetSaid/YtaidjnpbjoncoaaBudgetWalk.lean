/-
  DeviceBudget: the walk: so many writes are done, then it is gone, until a crash; a device that was never made is gone.
-/
import Derived.Test.YtaidjnpbjoncoaaMask
namespace Go.Proofs.Ytaidjnpbjoncoaa
open Go.RowKit

/-- behind j writes of a budget of k -/
structure BInv (D : Dv) (k j : Nat) : Prop where
  n4 : D.n = 4
  left : D.left = (k : Int) - (min j k : Nat)
  spent : D.spent = min j k
  gone : D.gone = decide (k < j)

theorem BInv.start (k : Nat) : BInv ((Dv.fresh 4).budget (k : Int)) k 0 := ⟨rfl, by simp [Dv.budget]; omega, by simp [Dv.budget, Dv.fresh], by simp [Dv.budget, Dv.fresh]⟩
theorem BInv.step {D : Dv} {k j : Nat} (h : BInv D k j) (i : Nat) (hi : i < 4) (x : UInt8) : BInv (D.write (i : Int) [x]) k (j + 1) ∧ D.writeE (i : Int) [x] = if j < k then 0 else 11 := by
  have hh : D.has (i : Int) = true := by
    unfold Dv.has
    rw [h.n4, decide_eq_true (by omega), decide_eq_true (by omega)]
    rfl
  have hw : (D.has (i : Int) && decide ([x].length ≤ 64)) = true := by rw [hh]; rfl
  unfold Dv.write Dv.writeE
  rw [hw, h.gone]
  by_cases h1 : k < j
  · rw [decide_eq_true h1, if_pos rfl, if_pos rfl, if_neg (by omega)]
    exact ⟨⟨h.n4, by rw [h.left]; omega, by rw [h.spent]; omega, by rw [h.gone, decide_eq_true h1, decide_eq_true (by omega)]⟩, rfl⟩
  · rw [decide_eq_false h1, if_neg Bool.false_ne_true, if_neg Bool.false_ne_true, if_pos rfl, if_pos rfl]
    have hl := h.left
    by_cases h2 : j < k
    · rw [if_neg (by omega), if_neg (by omega), if_pos h2]
      refine ⟨⟨h.n4, ?_, ?_, ?_⟩, rfl⟩
      · show max (D.left - 1) (-1) = _
        omega
      · show D.spent + 1 = _
        rw [h.spent]; omega
      · show D.gone = _
        rw [h.gone, decide_eq_false h1, decide_eq_false (by omega)]
    · rw [if_pos (by omega), if_pos (by omega), if_neg h2]
      exact ⟨⟨h.n4, by show D.left = _; omega, by show D.spent = _; rw [h.spent]; omega, by show true = _; rw [decide_eq_true (by omega)]⟩, rfl⟩

set_option maxHeartbeats 8000000 in
set_option maxRecDepth 100000 in
theorem budget_walk (n at_ : Int) (w : World) : Calls Try.prog 5 #[.int .i64 n, .int .i64 at_] w fun e w' => e = .returned (.bool true) ∧ Below w.heap.size w w' := by
  obtain ⟨k, hk16, hk⟩ := low15 n
  obtain ⟨a, ha4, ha⟩ := low3 at_
  have HAWK := Lib.hid (awake_any w)
  go_enter Try.func5, Try.ntmps5
  go_wp2_with (first
    | (go_at_call 9; refine HAWK.out.mono ?_; rintro e w0 ⟨rfl, hb0⟩; have HB0 := Lib.hid hb0; clear hb0)
    | (go_at_call 11; refine (newdr (w := w) HB0.out 4 (by omega) (by omega)).mono ?_; rintro e w1 ⟨p, L, M, rfl, hd1, _, _, _, _⟩; have HD1 := Lib.hid hd1; clear hd1)
    | (go_at_call 17; refine (budget_any HD1.out.dev (k : Int) ⟨by omega, by omega⟩).mono ?_; rintro e w2 ⟨rfl, hd2, ht2⟩; have HD2 := Lib.hid (HD1.out.turn hd2 ht2); clear hd2 ht2))
  have hp0 : 0 < 1 := by omega
  go_loopw [9, 10] (fun v u wr => ∃ (D : Dv) (j m : Nat), v = .int .i64 (m : Int) ∧ u = .int .i64 (j : Int) ∧ j ≤ 20 ∧ m ≤ 20 ∧ Hid (m = min j k) ∧ Hid (BInv D k j) ∧ Hid (Dr w wr p L M D)) (fun _ u _ => 20 - (intOf u).toNat)
  case atStart => exact ⟨_, 0, 0, rfl, rfl, by omega, by omega, Lib.hid (by omega), Lib.hid (BInv.start k), HD2⟩
  case round =>
    obtain ⟨D, j, m, rfl, rfl, hj, hm, HM, HI, HD⟩ := hrel
    clear HD1 HD2 HB0 hp0
    rcases Nat.lt_or_ge j 20 with hlt | hge
    · obtain ⟨b, hb4, hb⟩ := low3 ((a : Int) + (j : Int))
      obtain ⟨x, hx⟩ : ∃ x : UInt8, (j : Int) = (x.toNat : Int) := ⟨UInt8.ofNat j, by simp; omega⟩
      have hst := HI.out.step b hb4 x
      have hspent : D.spent ≤ 1000000 := by rw [HI.out.spent]; omega
      have hdj : decide ((j : Int) < 20) = true := decide_eq_true (by omega)
      have HX := Lib.hid hx
      have HSP := Lib.hid hspent
      have HS1 := Lib.hid hst.1
      rcases Nat.lt_or_ge j k with hjk | hjk
      · have HWE : Hid (D.writeE (b : Int) [x] = 0) := by rw [Hid, hst.2, if_pos hjk]
        clear hx hst hspent
        go_wp2_with (go_at_call 13; refine (write_any (HD.out.alloc _).dev HSP.out (b : Int) (firm_one x _ HX.out HD.out.notNew _) 1 1 rfl).mono ?_; rintro e w3 ⟨rfl, hd3, ht3⟩; have HD3 := Lib.hid ((HD.out.alloc _).turn hd3 ht3); clear hd3 ht3; rw [HWE.out])
        refine ⟨⟨_, j + 1, m + 1, by go_num, by go_num, by omega, by have := HM.out; omega, Lib.hid (by have := HM.out; omega), HS1, HD3⟩, by simp [intOf]; omega⟩
      · have HWE : Hid (D.writeE (b : Int) [x] = 11) := by rw [Hid, hst.2, if_neg (by omega)]
        clear hx hst hspent
        go_wp2_with (go_at_call 13; refine (write_any (HD.out.alloc _).dev HSP.out (b : Int) (firm_one x _ HX.out HD.out.notNew _) 1 1 rfl).mono ?_; rintro e w3 ⟨rfl, hd3, ht3⟩; have HD3 := Lib.hid ((HD.out.alloc _).turn hd3 ht3); clear hd3 ht3; rw [HWE.out])
        refine ⟨⟨_, j + 1, m, by go_num, by go_num, by omega, by omega, Lib.hid (by have := HM.out; omega), HS1, HD3⟩, by simp [intOf]; omega⟩
    · obtain rfl : j = 20 := by omega
      have hmk : m = k := by have := HM.out; omega
      subst hmk
      have hI := HI.out
      have hgone : D.gone = true := by rw [hI.gone]; exact decide_eq_true (by omega)
      have hspent : D.spent = m := by rw [hI.spent]; omega
      have hfe : D.flushE = 11 := by unfold Dv.flushE; rw [if_pos hgone]
      have hfl : D.flush = D := by unfold Dv.flush; rw [if_pos hgone]
      have hr0 : D.readE 0 = 11 := by unfold Dv.readE; rw [if_pos hgone]
      have hrl : D.read 0 = [] := by unfold Dv.read; rw [if_pos hgone]
      obtain ⟨E, hE⟩ : ∃ E, E = D.crash (kp 0 fun _ => false) := ⟨_, rfl⟩
      have hEn : E.has 0 = true := by rw [hE]; unfold Dv.has; show (decide (0 ≤ (0 : Int)) && decide ((0 : Int) < (D.n : Int))) = true; rw [hI.n4]; rfl
      have hEw : E.writeE 0 [] = 0 := by
        unfold Dv.writeE
        rw [hEn, hE]
        rfl
      have hEx : E.write 0 [] = E.more.put 0 (Dv.pad []) := by
        unfold Dv.write
        rw [hEn, hE]
        rfl
      have hEs : (((E.write 0 []).spent : Nat) : Int) = (m : Int) + 1 := by rw [hEx, hE]; show ((D.spent + 1 : Nat) : Int) = _; rw [hspent]; rfl
      have hEg : (E.write 0 []).gone = false := by rw [hEx, hE]; rfl
      have HSP : Hid (D.spent ≤ 1000000) := Lib.hid (by omega)
      have HSE : Hid (E.spent ≤ 1000000) := Lib.hid (by rw [hE]; show D.spent ≤ _; omega)
      have HF := Lib.hid (show _ ∧ _ ∧ _ ∧ _ ∧ _ from ⟨hgone, hfe, hfl, hr0, hrl⟩)
      have HE := Lib.hid (show _ ∧ _ ∧ _ ∧ _ from ⟨hE, hEw, hEs, hEg⟩)
      clear hgone hspent hfe hfl hr0 hrl hE hEn hEw hEx hEs hEg hI hj hm
      go_wp2_with fail
      refine (flush_any HD.out.dev HSP.out).mono ?_
      rintro e w3 ⟨rfl, hd3, ht3⟩
      rw [HF.out.2.2.1] at hd3
      rw [HF.out.2.1]
      have HD3 := Lib.hid (HD.out.turn hd3 ht3)
      clear hd3 ht3
      go_wp2_with fail
      refine (read_any HD3.out.dev 0).mono ?_
      rintro e w4 ⟨A4, n4, c4, rfl, hg4, hb4⟩
      rw [HF.out.2.2.2.1]
      have HD4 := Lib.hid (HD3.out.below hb4)
      clear hg4 hb4 HD3
      go_wp2_with fail
      refine (gone_any HD4.out.dev).mono ?_
      rintro e w' ⟨rfl, hw⟩
      replace hw := hw.symm
      subst hw
      rw [HF.out.1]
      go_wp2_with fail
      refine (crash_any HD4.out.dev (Nat.le_trans HSP.out (by omega)) 0 (kn := 0) (f := fun _ => false) Bools.nil).mono ?_
      rintro e w5 ⟨rfl, hd5, ht5⟩
      rw [← HE.out.1] at hd5
      have HD5 := Lib.hid (HD4.out.turn hd5 ht5)
      clear hd5 ht5 HD4
      go_wp2_with fail
      refine (write_any HD5.out.dev HSE.out 0 (l := []) Firm.nil 0 0 rfl).mono ?_
      rintro e w6 ⟨rfl, hd6, ht6⟩
      rw [HE.out.2.1]
      have HD6 := Lib.hid (HD5.out.turn hd6 ht6)
      clear hd6 ht6 HD5
      go_wp2_with fail
      refine (budget_nil _ _).mono ?_
      rintro e w' ⟨rfl, hw⟩
      replace hw := hw.symm
      subst hw
      go_wp2_with fail
      refine (crash_nil _ _ _ _).mono ?_
      rintro e w' ⟨rfl, hw⟩
      replace hw := hw.symm
      subst hw
      go_wp2_with fail
      refine (read_nil _ _).mono ?_
      rintro e w7 ⟨A7, n7, c7, rfl, hg7, hb7⟩
      have HD7 := Lib.hid (HD6.out.below hb7)
      clear hg7 hb7 HD6
      go_wp2_with fail
      refine (gone_any HD7.out.dev).mono ?_
      rintro e w' ⟨rfl, hw⟩
      replace hw := hw.symm
      subst hw
      rw [HE.out.2.2.2]
      go_wp2_with fail
      refine (spent_any HD7.out.dev).mono ?_
      rintro e w' ⟨rfl, hw⟩
      replace hw := hw.symm
      subst hw
      rw [HE.out.2.2.1]
      go_wp2_with fail
      refine (write_nil _ _ _ _ _).mono ?_
      rintro e w' ⟨rfl, hw⟩
      replace hw := hw.symm
      subst hw
      go_wp2_with fail
      refine (flush_nil _).mono ?_
      rintro e w' ⟨rfl, hw⟩
      replace hw := hw.symm
      subst hw
      go_wp2_with fail
      refine (gone_nil _).mono ?_
      rintro e w' ⟨rfl, hw⟩
      replace hw := hw.symm
      subst hw
      go_wp2_with fail
      refine (size_nil _).mono ?_
      rintro e w' ⟨rfl, hw⟩
      replace hw := hw.symm
      subst hw
      go_wp2_with fail
      refine (spent_nil _).mono ?_
      rintro e w' ⟨rfl, hw⟩
      replace hw := hw.symm
      subst hw
      go_wp2_with fail
      refine (cached_nil _).mono ?_
      rintro e w8 ⟨A8, n8, c8, rfl, hn8, _, hb8⟩
      obtain rfl : n8 = 0 := hn8
      have HD8 := Lib.hid (HD7.out.below hb8)
      clear hb8
      go_wp2_with fail
      go_ret
      exact ⟨rfl, HD8.out.bel⟩

end Go.Proofs.Ytaidjnpbjoncoaa
