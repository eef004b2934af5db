/-
  PoolWaits, over the words.
-/
import Derived.Test.YtnpgmiokimahiaaAc
import Derived.Test.YtnpgmiokimahiaaPinsWalk
namespace Go.Proofs.Ytnpgmiokimahiaa
set_option maxRecDepth 100000
set_option linter.unusedVariables false
open Go.RowKit Pl

set_option maxHeartbeats 4000000 in
theorem waits_walk {PAt : Lay} (K : PoolOk PAt) (z : Int) (A : Option Addr) (len c : Nat) (X : Nat → Deed) (w : World) (hl : Deeds w A len X) :
    Calls Try.prog 4 #[.int .i64 z, .slice A len c] w fun e w' => e = .returned (.bool true) ∧ Below w.heap.size w w' := by
  have HL := Lib.hid hl
  have HAW := Lib.hid (awake_any K w)
  have HK := Lib.hid K
  clear hl K
  obtain ⟨s, hs⟩ : ∃ s, s = l3 z := ⟨_, rfl⟩
  have hs8 : s < 8 := by rw [hs]; exact l3_lt z
  have hz : bits .and .i64 z 7 = (s : Int) := by rw [hs]; exact and_l3 z
  clear hs
  go_enter Try.func4, Try.ntmps4
  go_wp2_with fail
  refine HAW.out.mono ?_
  rintro e w0 ⟨rfl, hb0⟩
  have HB0 := Lib.hid hb0
  have HL0 : Hid (Deeds w0 A len X) := Lib.hid (by
    rcases HL.out with h | ⟨b, o, e, hb, hd⟩
    · exact .inl h
    · refine .inr ⟨b, o, e, Nat.lt_of_lt_of_le hb hb0.size, fun i hi => ?_⟩
      obtain ⟨c0, c1, c2, B, cc, c3, hr, hc⟩ := hd i hi
      exact ⟨(hb0.cell (p := ⟨b, o + i * 4, none⟩) hb).trans c0, (hb0.cell (p := ⟨b, o + i * 4 + 1, none⟩) hb).trans c1, (hb0.cell (p := ⟨b, o + i * 4 + 2, none⟩) hb).trans c2, B, cc, (hb0.cell (p := ⟨b, o + i * 4 + 3, none⟩) hb).trans c3, hr.up hb0, hc⟩)
  clear hb0 HAW
  go_wp2_with fail
  refine (small_any A len c X w0 HL0.out).mono ?_
  rintro e w1 ⟨rfl, hsm⟩
  rcases hsm with ⟨rfl, hfew⟩ | rfl
  · have h60 := hfew.1
    have HFW := Lib.hid hfew
    clear hfew HL0
    go_wp2_with fail
    refine (newdr HB0.out 12 (by omega) (by omega)).mono ?_
    rintro e w2 ⟨p, L, M, rfl, hdr, _, _⟩
    have HD1 := Lib.hid hdr
    have HF := Lib.hid (Dv.free_fresh 12)
    clear hdr HB0
    go_wp2_with fail
    refine (PW.made HK.out HD1.out HF.out (1 + s) (by omega)).mono ?_
    rintro e w3 ⟨v, T, rfl, hpw, _, _⟩
    have HP3 := Lib.hid hpw
    clear hpw HD1
    go_wp2_with fail
    go_loopg [10, 11, 12] len (fun gn q i _ wr => ∃ (j put : Nat) (D : Dv) (m : Pm) (T : Nat → Prop), i = .int .i64 (j : Int) ∧ q = .int .i64 (put : Int) ∧ j + gn = len ∧ put ≤ j ∧ Hid (PW PAt w wr p L M v D m T) ∧ Hid (WI j put D m))
    case atStart => exact ⟨0, 0, _, _, T, rfl, rfl, by omega, Nat.le_refl _, HP3, Lib.hid WI.start⟩
    case round =>
      clear HP3 HF
      obtain ⟨j, put, D, m, T, rfl, rfl, hog, hpj, HP, HW⟩ := hrel
      have HSP : Hid (D.spent ≤ 100000) := Lib.hid (by rw [HW.out.spent]; omega)
      rcases Nat.lt_or_ge j len with hlt | hge
      · have HRD : Hid (m.reads ≤ 100000) := Lib.hid (by have := HW.out.reads; omega)
        have hdj : decide (j < len) = true := decide_eq_true hlt
        have hdi : decide ((j : Int) < (len : Int)) = true := decide_eq_true (by omega)
        obtain ⟨b, o, B, n, cb, rfl, hD⟩ := HL.out.get hlt
        have HD := Lib.hid hD
        obtain ⟨x, hx⟩ : ∃ x, x = X j := ⟨_, rfl⟩
        rw [← hx] at HD
        clear hx hD
        obtain ⟨what, at0, lsn, bs⟩ := x
        have hc1 := HD.out.c1 wr HP.out.dr.bel
        have hc0 := HD.out.c0 wr HP.out.dr.bel
        simp only at hc0 hc1
        obtain ⟨y, hy⟩ : ∃ y, y = lb at0 := ⟨_, rfl⟩
        have hand : bits .and .i64 at0 255 = (y : Int) := by rw [hy]; exact and_lb _
        obtain ⟨a, ha⟩ : ∃ a, a = at12 at0 := ⟨_, rfl⟩
        have ha12 : a < 12 := by rw [ha]; exact at12_lt _
        have hy12 : Int.tmod (y : Int) 12 = (a : Int) := by rw [hy, ha]; exact at12_mod _
        have HAN : Hid (a < D.n) := Lib.hid (by rw [HW.out.n]; exact ha12)
        clear hy ha
        by_cases hput : 3 ≤ what ∧ what ≤ 5
        · have h3 : decide ((3 : Int) ≤ what) = true := decide_eq_true hput.1
          have h5 : decide (what ≤ 5) = true := decide_eq_true hput.2
          obtain ⟨u, hu⟩ : ∃ u, u = lw lsn := ⟨_, rfl⟩
          have hu16 : u < 16 := by rw [hu]; exact lw_lt _
          have hau : bits .and .i64 lsn 15 = (u : Int) := by rw [hu]; exact and_lw _
          have hwu : IntKind.i64.wrap ((1 : Int) + (u : Int)) = (1 : Int) + (u : Int) := by rw [IntKind.wrap_i64]; omega
          have HC3 : Hid (∀ V, Turn (fun k => w.heap.size ≤ k) wr V → V.cell? ⟨b, o + j * 4 + 3, none⟩ = some (.slice B n cb)) := Lib.hid (fun V hV => HD.out.c3 V (HP.out.dr.bel.trans (hV.below (fun _ h => h) HP.out.dr.bel.size)))
          have HC2 : Hid (∀ V, Turn (fun k => w.heap.size ≤ k) wr V → V.cell? ⟨b, o + j * 4 + 2, none⟩ = some (.int .i64 lsn)) := Lib.hid (fun V hV => HD.out.c2 V (HP.out.dr.bel.trans (hV.below (fun _ h => h) HP.out.dr.bel.size)))
          have HPD := Lib.hid (HP.out.below HK.out ((Below.refl _ _).drew))
          clear hu hput
          go_upto_region 15 with fail
          clear hc0 hc1
          refine wp_region_turn (X := (fun k => w.heap.size ≤ k)) (by kernel_rfl) ?_
          have hS : Turn (fun k => w.heap.size ≤ k) wr (World.drew wr) := (Turn.refl _ _).drew
          refine wpAnyH_take (i := 0) (oi := ⟨some 66, _, _, _, _, _⟩) (v := ?_) rfl (by kernel_rfl) (by kernel_rfl) (by kernel_rfl) (fun _ _ _ h => h) (Or.inl ⟨by rfl, ?_⟩) hS ?_
          rotate_left
          · intro W hW; go_simp; with_reducible rfl
          try simp only [Act.put, List.setIfInBounds_toArray, List.set_cons_zero, List.set_cons_succ]
          refine wpAnyH_take (i := 1) (oi := ⟨some 67, _, _, _, _, _⟩) (v := ?_) rfl (by kernel_rfl) (by kernel_rfl) (by kernel_rfl) (fun _ _ _ h => h) (Or.inl ⟨by rfl, ?_⟩) hS ?_
          rotate_left
          · intro W hW; go_simp; with_reducible rfl
          try simp only [Act.put, List.setIfInBounds_toArray, List.set_cons_zero, List.set_cons_succ]
          refine wpAnyH_take (i := 2) (oi := ⟨some 68, _, _, _, _, _⟩) (v := ?_) rfl (by kernel_rfl) (by kernel_rfl) (by kernel_rfl) (fun _ _ _ h => h) (Or.inl ⟨by rfl, ?_⟩) hS ?_
          rotate_left
          · intro W hW; go_simp; with_reducible rfl
          try simp only [Act.put, List.setIfInBounds_toArray, List.set_cons_zero, List.set_cons_succ]
          refine wpAnyH_take (i := 3) (oi := ⟨some 69, _, _, _, _, _⟩) (v := ?_) rfl (by kernel_rfl) (by kernel_rfl) (by kernel_rfl) (fun _ _ _ h => h) (Or.inl ⟨by rfl, ?_⟩) hS ?_
          rotate_left
          · intro W hW; go_simp; with_reducible rfl
          try simp only [Act.put, List.setIfInBounds_toArray, List.set_cons_zero, List.set_cons_succ]
          refine wpAnyH_take (i := 4) (oi := ⟨some 70, _, _, _, _, _⟩) (v := ?_) rfl (by kernel_rfl) (by kernel_rfl) (by kernel_rfl) (fun _ _ _ h => h) (Or.inl ⟨by rfl, ?_⟩) hS ?_
          rotate_left
          · intro W hW; go_simp; with_reducible rfl
          try simp only [Act.put, List.setIfInBounds_toArray, List.set_cons_zero, List.set_cons_succ]
          refine wpAnyH_take (i := 5) (oi := ⟨some 71, _, _, _, _, _⟩) (v := ?_) rfl (by kernel_rfl) (by kernel_rfl) (by kernel_rfl) (fun _ _ _ h => h) (Or.inl ⟨by rfl, ?_⟩) hS ?_
          rotate_left
          · intro W hW; go_simp; with_reducible rfl
          try simp only [Act.put, List.setIfInBounds_toArray, List.set_cons_zero, List.set_cons_succ]
          refine wpAnyH_take (i := 6) (oi := ⟨some 72, _, _, _, _, _⟩) (v := ?_) rfl (by kernel_rfl) (by kernel_rfl) (by kernel_rfl) (fun _ _ _ h => h) (Or.inl ⟨by rfl, ?_⟩) hS ?_
          rotate_left
          · intro W hW
            have q0 := HC3.out W hW
            go_simp
            with_reducible rfl
          try simp only [Act.put, List.setIfInBounds_toArray, List.set_cons_zero, List.set_cons_succ]
          refine wpAnyH_take (i := 7) (oi := ⟨some 73, _, _, _, _, _⟩) (v := ?_) rfl (by kernel_rfl) (by kernel_rfl) (by kernel_rfl) (fun _ _ _ h => h) (Or.inl ⟨by rfl, ?_⟩) hS ?_
          rotate_left
          · intro W hW; go_simp; with_reducible rfl
          try simp only [Act.put, List.setIfInBounds_toArray, List.set_cons_zero, List.set_cons_succ]
          refine wpAnyH_take (i := 8) (oi := ⟨some 74, _, _, _, _, _⟩) (v := ?_) rfl (by kernel_rfl) (by kernel_rfl) (by kernel_rfl) (fun _ _ _ h => h) (Or.inl ⟨by rfl, ?_⟩) hS ?_
          rotate_left
          · intro W hW; go_simp; with_reducible rfl
          try simp only [Act.put, List.setIfInBounds_toArray, List.set_cons_zero, List.set_cons_succ]
          refine wpAnyH_take (i := 9) (oi := ⟨some 75, _, _, _, _, _⟩) (v := ?_) rfl (by kernel_rfl) (by kernel_rfl) (by kernel_rfl) (fun _ _ _ h => h) (Or.inl ⟨by rfl, ?_⟩) hS ?_
          rotate_left
          · intro W hW; go_simp; with_reducible rfl
          try simp only [Act.put, List.setIfInBounds_toArray, List.set_cons_zero, List.set_cons_succ]
          refine wpAnyH_take (i := 10) (oi := ⟨some 76, _, _, _, _, _⟩) (v := ?_) rfl (by kernel_rfl) (by kernel_rfl) (by kernel_rfl) (fun _ _ _ h => h) (Or.inl ⟨by rfl, ?_⟩) hS ?_
          rotate_left
          · intro W hW; go_simp; with_reducible rfl
          try simp only [Act.put, List.setIfInBounds_toArray, List.set_cons_zero, List.set_cons_succ]
          refine wpAnyH_take (i := 11) (oi := ⟨some 77, _, _, _, _, _⟩) (v := ?_) rfl (by kernel_rfl) (by kernel_rfl) (by kernel_rfl) (fun _ _ _ h => h) (Or.inl ⟨by rfl, ?_⟩) hS ?_
          rotate_left
          · intro W hW
            have q0 := HC2.out W hW
            go_simp
            with_reducible rfl
          try simp only [Act.put, List.setIfInBounds_toArray, List.set_cons_zero, List.set_cons_succ]
          refine wpAnyH_take (i := 12) (oi := ⟨some 78, _, _, _, _, _⟩) (v := ?_) rfl (by kernel_rfl) (by kernel_rfl) (by kernel_rfl) (fun _ _ _ h => h) (Or.inl ⟨by rfl, ?_⟩) hS ?_
          rotate_left
          · intro W hW; go_simp; with_reducible rfl
          try simp only [Act.put, List.setIfInBounds_toArray, List.set_cons_zero, List.set_cons_succ]
          refine wpAnyH_take (i := 13) (oi := ⟨some 79, _, _, _, _, _⟩) (v := ?_) rfl (by kernel_rfl) (by kernel_rfl) (by kernel_rfl) (fun _ _ _ h => h) (Or.inl ⟨by rfl, ?_⟩) hS ?_
          rotate_left
          · intro W hW; go_simp; with_reducible rfl
          try simp only [Act.put, List.setIfInBounds_toArray, List.set_cons_zero, List.set_cons_succ]
          refine wpAnyH_ready (rs := [14]) (by kernel_rfl) (by simp) ?_
          refine AllReadyH.cons (o := ⟨some 80, _, _, _, _, _⟩) rfl (fun Kr hKr => ?_) AllReadyH.nil
          -- operation 14: a call
          go_simp
          refine (HPD.out.put HK.out HSP.out HRD.out a HAN.out ((1 : Int) + (u : Int)) (by omega) (HPD.out.firm HD.out.rd) HD.out.n_ HD.out.cap).mono ?_
          rintro e x1 ⟨E, D1, m1, T1, rfl, hp⟩
          show Kr _ _
          refine hKr.out _ _ ?_ (fun _ => ?_)
          · exact hS.trans (hp.nx.turn.mono HPD.out.los)
          clear hKr Kr
          replace hS : Turn (fun k => w.heap.size ≤ k) wr x1 := hS.trans (hp.nx.turn.mono HPD.out.los)
          obtain ⟨bE, hbE⟩ : ∃ bE, (E == 0) = bE := ⟨_, rfl⟩
          try simp only [Act.put, List.setIfInBounds_toArray, List.set_cons_zero, List.set_cons_succ]
          refine wpAnyH_take (i := 15) (oi := ⟨some 81, _, _, _, _, _⟩) (v := ?_) rfl (by kernel_rfl) (by kernel_rfl) (by kernel_rfl) (fun _ _ _ h => h) (Or.inl ⟨by rfl, ?_⟩) hS ?_
          rotate_left
          · intro W hW; go_simp; with_reducible rfl
          try simp only [Act.put, List.setIfInBounds_toArray, List.set_cons_zero, List.set_cons_succ]
          refine wpAnyH_done (by kernel_rfl) ?_ _
          have HP1 := Lib.hid hp.pw
          have HW1 := Lib.hid (HW.out.putd (by omega) hp.put)
          clear hS hp HC2 HC3 HPD HP HW HRD
          cases bE with
          | true =>
            have h0 : E = 0 := eq_of_beq hbE
            have HW2 : Hid (WI (j + 1) (put + 1) D1 m1) := Lib.hid (by have h := HW1.out; rw [if_pos h0] at h; exact h)
            clear hbE h0 HW1
            go_wp2_with fail
            go_roundg (gk - 1)
            case measure => omega
            case rel => exact ⟨j + 1, put + 1, D1, m1, T1, by go_num, by go_num, by omega, by omega, HP1, HW2⟩
          | false =>
            have h0 : E ≠ 0 := ne_of_beq_false hbE
            have HW2 : Hid (WI (j + 1) put D1 m1) := Lib.hid (by have h := HW1.out; rw [if_neg h0] at h; exact h)
            clear hbE h0 HW1
            go_wp2_with fail
            go_roundg (gk - 1)
            case measure => omega
            case rel => exact ⟨j + 1, put, D1, m1, T1, by go_num, rfl, by omega, by omega, HP1, HW2⟩
        · have h35 : decide ((3 : Int) ≤ what) = false ∨ (decide ((3 : Int) ≤ what) = true ∧ decide (what ≤ 5) = false) := by
            by_cases h : 3 ≤ what
            · exact .inr ⟨decide_eq_true h, decide_eq_false (fun h2 => hput ⟨h, h2⟩)⟩
            · exact .inl (decide_eq_false h)
          clear hput
          by_cases h9 : what = 9
          · subst h9
            have h3 : decide ((3 : Int) ≤ 9) = true := by decide
            have h5 : decide ((9 : Int) ≤ 5) = false := by decide
            clear h35
            go_wp2_with fail
            refine (HP.out.wash HK.out HSP.out HRD.out).mono ?_
            rintro e x1 ⟨D1, m1, T1, rfl, hcl, hp, _⟩
            have HP1 := Lib.hid hp
            have HW1 := Lib.hid (HW.out.wash hcl)
            clear hcl hp hc0 hc1 HP HW HRD
            go_wp2_with fail
            go_roundg (gk - 1)
            case measure => omega
            case rel => exact ⟨j + 1, put, D1, m1, T1, by go_num, rfl, by omega, by omega, HP1, HW1⟩
          · have h9b : (what == 9) = false := beq_eq_false_iff_ne.2 h9
            clear h9
            rcases h35 with h3 | ⟨h3, h5⟩
            all_goals
              go_wp2_with fail
              refine (HP.out.get HK.out HSP.out HRD.out a HAN.out).mono ?_
              rintro e x1 ⟨E, A1, N1, c1, l1, D1, m1, T1, rfl, _, hg⟩
              have HP1 := Lib.hid hg.pw
              have HW1 := Lib.hid (HW.out.held hg.held)
              clear hg hc0 hc1 HP HW HRD
              go_wp2_with fail
              go_roundg (gk - 1)
              case measure => omega
              case rel => exact ⟨j + 1, put, D1, m1, T1, by go_num, rfl, by omega, by omega, HP1, HW1⟩
      · obtain rfl : j = len := by omega
        have HRD : Hid (m.reads ≤ 100000) := Lib.hid (by have := HW.out.reads; omega)
        clear hge HL HFW
        go_wp2_with fail
        refine (HK.out.getN _ _).mono ?_
        rintro e x1 ⟨rfl, hb⟩
        have HP1 := Lib.hid (HP.out.below HK.out hb)
        clear hb HP
        go_wp2_with fail
        refine (HK.out.safeN _ _).mono ?_
        rintro e x2 ⟨rfl, hb⟩
        have HP2 := Lib.hid (HP1.out.below HK.out hb)
        clear hb HP1
        go_wp2_with fail
        have HSN := Lib.hid (spent_any HP2.out.dr.dev)
        have hs0 : D.spent = 0 := HW.out.spent
        rw [hs0] at HSN
        clear hs0
        refine HSN.out.mono ?_
        rintro e x3 ⟨rfl, he⟩
        subst he
        clear HSN
        go_wp2_with fail
        refine (HP2.out.dirty HK.out HSP.out HRD.out).mono ?_
        rintro e x4 ⟨A4, q, c4, rfl, hq, _, hb⟩
        have hqp : q ≤ put := by rw [hq, HW.out.n]; exact HW.out.put
        have hdq : decide ((q : Int) ≤ (put : Int)) = true := decide_eq_true (by omega)
        have hdr : decide (q ≤ put) = true := decide_eq_true hqp
        have HB4 := Lib.hid ((HP2.out.below HK.out hb).dr.bel)
        clear hq hb HP2
        go_wp2_with fail
        refine (HK.out.putN _ _ _ _ _ _).mono ?_
        rintro e x5 ⟨rfl, hb⟩
        have HB5 := Lib.hid (HB4.out.trans (hb.mono HB4.out.size))
        clear hb HB4
        go_wp2_with fail
        refine (HK.out.pinN _ _).mono ?_
        rintro e x6 ⟨rfl, hb⟩
        have HB6 := Lib.hid (HB5.out.trans (hb.mono HB5.out.size))
        clear hb HB5
        go_wp2_with fail
        refine (HK.out.unpinN _ _).mono ?_
        rintro e x7 ⟨rfl, hb⟩
        have HB7 := Lib.hid (HB6.out.trans (hb.mono HB6.out.size))
        clear hb HB6
        go_wp2_with fail
        refine (HK.out.cleanN _).mono ?_
        rintro e x8 ⟨rfl, hb⟩
        have HB8 := Lib.hid (HB7.out.trans (hb.mono HB7.out.size))
        clear hb HB7
        go_wp2_with fail
        refine (HK.out.heldN _).mono ?_
        rintro e x9 ⟨⟨A9, c9, rfl⟩, hb⟩
        have HB9 := Lib.hid (HB8.out.trans (hb.mono HB8.out.size))
        clear hb HB8
        go_wp2_with fail
        refine (HK.out.dirtyN _).mono ?_
        rintro e y1 ⟨⟨A10, c10, rfl⟩, hb⟩
        have HB10 := Lib.hid (HB9.out.trans (hb.mono HB9.out.size))
        clear hb HB9
        go_wp2_with fail
        refine (HK.out.readsN _).mono ?_
        rintro e y2 ⟨rfl, hb⟩
        have HB11 := Lib.hid (HB10.out.trans (hb.mono HB10.out.size))
        clear hb HB10
        go_wp2_with fail
        go_ret
        exact ⟨rfl, HB11.out⟩
  · go_wp2_with fail
    go_ret
    exact ⟨rfl, HB0.out⟩

end Go.Proofs.Ytnpgmiokimahiaa
