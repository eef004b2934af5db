/-
  SuperPlays: the walk: whatever is saved, loaded and written, and however the device crashes: the program's answer is the document's.
-/
import Derived.Test.YtojidejlohpeaaaTwo8
import Derived.Deep.CutBlock
namespace Go.Proofs.Ytojidejlohpeaaa
set_option maxRecDepth 100000
open Go.RowKit Crc Wm Sup

set_option maxHeartbeats 16000000 in
theorem plays_walk (n : Int) (A : Option Addr) (len cap : Nat) (X : Nat → Deed) (w : World) (hX : Deeds w A len X) :
    Calls Try.prog 4 #[.int .i64 n, .slice A len cap] w fun e w' => e = .returned (.bool true) ∧ Below w.heap.size w w' := by
  obtain ⟨k, hk, hand⟩ := low n 3 2 (by decide) (by omega)
  have hk4 : k < 4 := hk
  have HX := Lib.hid hX
  clear hk hX
  by_cases hl : 40 < len
  · have d1 : decide ((40 : Int) < (len : Int)) = true := decide_eq_true (by omega)
    go_enter Try.func4, Try.ntmps4
    go_wp2_with fail
    refine (awake_any w).mono ?_
    rintro e w1 ⟨rfl, hb1⟩
    have HB1 := Lib.hid hb1
    clear hb1
    go_wp2_with fail
    go_ret
    exact ⟨rfl, HB1.out⟩
  have d1 : decide ((40 : Int) < (len : Int)) = false := decide_eq_false (by omega)
  have hl40 : len ≤ 40 := by omega
  clear hl
  rcases Nat.eq_zero_or_pos k with h0 | h0
  · subst h0
    go_enter Try.func4, Try.ntmps4
    go_wp2_with fail
    refine (awake_any w).mono ?_
    rintro e w1 ⟨rfl, hb1⟩
    have HB1 := Lib.hid hb1
    clear hb1
    go_wp2_with fail
    refine (new_bad w1 0 (by omega)).mono ?_
    rintro e w2 ⟨rfl, hw⟩
    replace hw := hw.symm
    subst hw
    go_wp2_with fail
    refine (refnew_bad w1 0 (by omega)).mono ?_
    rintro e w3 ⟨rfl, hw⟩
    replace hw := hw.symm
    subst hw
    go_wp2_with fail
    refine (load_nil w1).mono ?_
    rintro e w4 ⟨rfl, hb4⟩
    have HB4 := Lib.hid (HB1.out.trans (hb4.mono HB1.out.size))
    clear hb4 HB1
    go_wp2_with (refine wpList_store_sup tyP (zero_new w4 _) rfl (.tmp 10) (.tmp 47) rfl rfl Sup.zero rfl ?_; intro w5 hs5 hg5; have HB5 := Lib.hid (HB4.out.trans ((box_below hg5).mono HB4.out.size)); clear hs5 hg5 HB4)
    go_ret
    exact ⟨rfl, HB5.out⟩
  go_enter Try.func4, Try.ntmps4
  go_wp2_with fail
  refine (awake_any w).mono ?_
  rintro e w0 ⟨rfl, hb0⟩
  have HB0 := Lib.hid hb0
  clear hb0
  go_wp2_with fail
  refine (newdr (w := w) HB0.out k h0 (by omega)).mono ?_
  rintro e w1 ⟨p, L, M, rfl, hd1, _, _, _, _⟩
  have HD1 := Lib.hid hd1
  clear hd1 HB0
  go_wp2_with fail
  refine (refnew_any w1 k h0 (by omega)).mono ?_
  rintro e w2 ⟨q, a, b, c, rfl, hr2, hb2, g1, g2, g3⟩
  have HD2 := Lib.hid (Two.start HD1.out hr2 hb2 g1 g2 g3)
  have HS2 : Hid ((Dv.fresh k).spent ≤ 2 * 0) := Lib.hid (Nat.le_refl _)
  clear hr2 hb2 g1 g2 g3 HD1
  generalize Dv.fresh k = D0 at *
  go_wp2_with fail
  go_loopg [12] len (fun gn u wr => ∃ (D : Dv) (j : Nat), u = .int .i64 (j : Int) ∧ j + gn = len ∧ Hid (D.spent ≤ 2 * j) ∧ Hid (Two w wr p L M q a b c D D))
  case atStart => exact ⟨_, 0, rfl, by omega, HS2, HD2⟩
  case round =>
    obtain ⟨D, j, rfl, hj, HI, HD⟩ := hrel
    clear HD2 HS2
    rcases Nat.lt_or_ge j len with hlt | hge
    · rcases HX.out with h0 | ⟨bb, o, rfl, hb, hc⟩
      · omega
      obtain ⟨x, hx⟩ : ∃ x, X j = x := ⟨_, rfl⟩
      have hcj := hc j hlt
      rw [hx] at hcj
      obtain ⟨hc0, hc1, hab, ⟨hc2, hc3, hc4, hc5, hc6, hc7, hc8⟩, ⟨A2, ca, hc9, hrb⟩, K, ck, hc10, hkb⟩ := hcj
      have k0 := (HD.out.bel.cell (p := ⟨bb, o + j * 11, none⟩) hb).trans hc0
      have k1 := (HD.out.bel.cell (p := ⟨bb, o + j * 11 + 1, none⟩) hb).trans hc1
      have k2 := (HD.out.bel.cell (p := ⟨bb, o + j * 11 + 2, none⟩) hb).trans hc2
      have k3 := (HD.out.bel.cell (p := ⟨bb, o + j * 11 + 3, none⟩) hb).trans hc3
      have k4 := (HD.out.bel.cell (p := ⟨bb, o + j * 11 + 4, none⟩) hb).trans hc4
      have k5 := (HD.out.bel.cell (p := ⟨bb, o + j * 11 + 5, none⟩) hb).trans hc5
      have k6 := (HD.out.bel.cell (p := ⟨bb, o + j * 11 + 6, none⟩) hb).trans hc6
      have k7 := (HD.out.bel.cell (p := ⟨bb, o + j * 11 + 7, none⟩) hb).trans hc7
      have k8 := (HD.out.bel.cell (p := ⟨bb, o + j * 11 + 8, none⟩) hb).trans hc8
      have k9 := (HD.out.bel.cell (p := ⟨bb, o + j * 11 + 9, none⟩) hb).trans hc9
      have k10 := (HD.out.bel.cell (p := ⟨bb, o + j * 11 + 10, none⟩) hb).trans hc10
      have hdj : decide ((j : Int) < (len : Int)) = true := decide_eq_true (by omega)
      have hdj2 : decide (j < len) = true := decide_eq_true (by omega)
      clear hc hc0 hc1 hc2 hc3 hc4 hc5 hc6 hc7 hc8 hc9 hc10 hx
      go_upto_region 15 with fail
      obtain ⟨Z, hZ⟩ : ∃ Z, Z = oC x A2 ca K ck := ⟨_, rfl⟩
      have HT0 := Lib.hid (HD.out.below (below_new wr (.cells (oC x A2 ca K ck) 53)))
      have HO0 : Hid (OAt (wr.alloc (.cells (oC x A2 ca K ck) 53)) wr.heap.size x A2 ca K ck) := Lib.hid (heap_alloc_new wr _)
      have HNG := Lib.hid HD.out.notNew
      have HB := Lib.hid hkb
      have HAB := Lib.hid hab
      have HRB := Lib.hid hrb
      have HSP : Hid (D.spent ≤ 100) := Lib.hid (by have := HI.out; omega)
      clear HD k0 k1 k2 k3 k4 k5 k6 k7 k8 k9 k10 hkb hab hrb hb Z hZ
      unfold oC at HT0 HO0
      generalize wr.alloc (.cells #[.int .i64 x.what, .int .i64 x.at_, .int .i64 x.s.V, .int .i64 x.s.E, .int .i64 x.s.B, .int .i64 x.s.C, .int .i64 x.s.L, .int .i64 x.s.H, .int .i64 x.s.A, .slice A2 x.b.length ca, .slice K x.kn ck] 53) = W0 at *
      generalize wr.heap.size = g at *
      have o9 := HO0.out.c9
      have o10 := HO0.out.c10
      by_cases hbl : 100 < x.b.length
      · have d2 : decide ((100 : Int) < (x.b.length : Int)) = true := decide_eq_true (by omega)
        go_wp2_with fail
        go_ret
        exact ⟨rfl, HT0.out.bel⟩
      have d2 : decide ((100 : Int) < (x.b.length : Int)) = false := decide_eq_false (by omega)
      by_cases hkl : 20 < x.kn
      · have d3 : decide ((20 : Int) < (x.kn : Int)) = true := decide_eq_true (by omega)
        go_wp2_with fail
        go_ret
        exact ⟨rfl, HT0.out.bel⟩
      have d3 : decide ((20 : Int) < (x.kn : Int)) = false := decide_eq_false (by omega)
      clear hbl hkl
      have o0 := HO0.out.c0
      go_upto_block 2 with fail
      go_cut [14, 15, 16, 17] from 54 to 164 (fun _ _ _ _ wc => ∃ E : Dv, Hid (E.spent ≤ 2 * (j + 1)) ∧ Hid (Two w wc p L M q a b c E E))
      case first =>
        have hz : (x.what = 0 ∨ x.what = 1) ∨ x.what = 3 ∨ x.what = 4 ∨ x.what = 5 ∨ ((x.what == 0) = false ∧ (x.what == 1) = false ∧ (x.what == 3) = false ∧ (x.what == 4) = false ∧ (x.what == 5) = false) := by
          simp only [beq_eq_false_iff_ne]
          omega
        have HD2 : Hid (D.spent ≤ 2 * (j + 1)) := Lib.hid (by have := HI.out; omega)
        have o2 := HO0.out.c2
        have o3 := HO0.out.c3
        have o4 := HO0.out.c4
        have o5 := HO0.out.c5
        have o6 := HO0.out.c6
        have o7 := HO0.out.c7
        have o8 := HO0.out.c8
        have o1 := HO0.out.c1
        clear o0
        generalize x.what = z at *
        rcases hz with hz | rfl | rfl | rfl | ⟨e1, e2, e3, e4, e5⟩
        rotate_left
        · go_wp2_with fail
          refine (budget_any HT0.out.dev x.at_ HAB.out).mono ?_
          rintro e w3 ⟨rfl, hd3, ht3⟩
          have HT3 := Lib.hid (HT0.out.d hd3 ht3)
          have HO3 := Lib.hid (HO0.out.turn ht3 (fun h => HNG.out (.inl h)))
          have o31 := HO3.out.c1
          clear hd3 ht3 o1 o2 o3 o4 o5 o6 o7 o8 o9 o10
          go_wp2_with fail
          refine (refbudget_any HT3.out.ref x.at_ HAB.out).mono ?_
          rintro e w4 ⟨rfl, hd4, ht4⟩
          have HT4 := Lib.hid (HT3.out.r hd4 ht4)
          clear hd4 ht4 o31
          go_wp2_with fail
          go_meet
          case rel => exact ⟨D.budget x.at_, HD2, HT4⟩
        · go_wp2_with fail
          refine (crash_any HT0.out.dev (Nat.le_trans HSP.out (by omega)) ck (HB.out.bools HT0.out.bel HT0.out.loD)).mono ?_
          rintro e w3 ⟨rfl, hd3, ht3⟩
          have HT3 := Lib.hid (HT0.out.d hd3 ht3)
          have HO3 := Lib.hid (HO0.out.turn ht3 (fun h => HNG.out (.inl h)))
          have o33 := HO3.out.c10
          clear hd3 ht3 o1 o2 o3 o4 o5 o6 o7 o8 o9 o10
          go_wp2_with fail
          refine (refcrash_any HT3.out.ref ck (HB.out.bools HT3.out.bel HT3.out.loR)).mono ?_
          rintro e w4 ⟨rfl, hd4, ht4⟩
          have HT4 := Lib.hid (HT3.out.r hd4 ht4)
          clear hd4 ht4 o33
          go_wp2_with fail
          go_meet
          case rel => exact ⟨D.crash (kp x.kn x.keep), HD2, HT4⟩
        · have HT1 : Hid (Two w W0.drew p L M q a b c D D) := Lib.hid (HT0.out.below ((Below.refl _ _).drew))
          have HO1 : Hid (OAt W0.drew g x A2 ca K ck) := Lib.hid (HO0.out.turn (S := D2 p L M q a b) ((Turn.refl _ _).drew) HNG.out)
          have HFM := Lib.hid (HT1.out.firm HRB.out)
          have hat : ∀ V, Turn (D2 p L M q a b) W0 V → V.cell? ⟨g, 1, none⟩ = some (.int .i64 x.at_) := fun V hV => (HO0.out.turn hV HNG.out).c1
          have hbt : ∀ V, Turn (D2 p L M q a b) W0 V → V.cell? ⟨g, 9, none⟩ = some (.slice A2 x.b.length ca) := fun V hV => (HO0.out.turn hV HNG.out).c9
          clear o1 o2 o3 o4 o5 o6 o7 o8 o9 o10
          go_upto_region 31 with fail
          refine wp_region_turn (X := (D2 p L M q a b)) (by kernel_rfl) ?_
          have hS : Turn (D2 p L M q a b) W0 (World.drew W0) := (Turn.refl _ _).drew
          refine wpAnyH_take (i := 0) (oi := ⟨some 126, _, _, _, _, _⟩) (v := ?_) rfl (by kernel_rfl) (by kernel_rfl) (by kernel_rfl) (fun _ _ _ h => h) (Or.inl ⟨by rfl, ?_⟩) hS ?_
          rotate_left
          · intro W hW; go_simp; with_reducible rfl
          try simp only [Act.put, List.setIfInBounds_toArray, List.set_cons_zero, List.set_cons_succ]
          refine wpAnyH_take (i := 1) (oi := ⟨some 127, _, _, _, _, _⟩) (v := ?_) rfl (by kernel_rfl) (by kernel_rfl) (by kernel_rfl) (fun _ _ _ h => h) (Or.inl ⟨by rfl, ?_⟩) hS ?_
          rotate_left
          · intro W hW; go_simp; with_reducible rfl
          try simp only [Act.put, List.setIfInBounds_toArray, List.set_cons_zero, List.set_cons_succ]
          refine wpAnyH_take (i := 2) (oi := ⟨some 128, _, _, _, _, _⟩) (v := ?_) rfl (by kernel_rfl) (by kernel_rfl) (by kernel_rfl) (fun _ _ _ h => h) (Or.inl ⟨by rfl, ?_⟩) hS ?_
          rotate_left
          · intro W hW; go_simp; with_reducible rfl
          try simp only [Act.put, List.setIfInBounds_toArray, List.set_cons_zero, List.set_cons_succ]
          refine wpAnyH_take (i := 3) (oi := ⟨some 129, _, _, _, _, _⟩) (v := ?_) rfl (by kernel_rfl) (by kernel_rfl) (by kernel_rfl) (fun _ _ _ h => h) (Or.inl ⟨by rfl, ?_⟩) hS ?_
          rotate_left
          · intro W hW; go_simp; with_reducible rfl
          try simp only [Act.put, List.setIfInBounds_toArray, List.set_cons_zero, List.set_cons_succ]
          refine wpAnyH_take (i := 4) (oi := ⟨some 130, _, _, _, _, _⟩) (v := ?_) rfl (by kernel_rfl) (by kernel_rfl) (by kernel_rfl) (fun _ _ _ h => h) (Or.inl ⟨by rfl, ?_⟩) hS ?_
          rotate_left
          · intro W hW; go_simp; with_reducible rfl
          try simp only [Act.put, List.setIfInBounds_toArray, List.set_cons_zero, List.set_cons_succ]
          refine wpAnyH_take (i := 6) (oi := ⟨some 132, _, _, _, _, _⟩) (v := ?_) rfl (by kernel_rfl) (by kernel_rfl) (by kernel_rfl) (fun _ _ _ h => h) (Or.inl ⟨by rfl, ?_⟩) hS ?_
          rotate_left
          · intro W hW; go_simp; with_reducible rfl
          try simp only [Act.put, List.setIfInBounds_toArray, List.set_cons_zero, List.set_cons_succ]
          refine wpAnyH_take (i := 7) (oi := ⟨some 133, _, _, _, _, _⟩) (v := ?_) rfl (by kernel_rfl) (by kernel_rfl) (by kernel_rfl) (fun _ _ _ h => h) (Or.inl ⟨by rfl, ?_⟩) hS ?_
          rotate_left
          · intro W hW; go_simp; with_reducible rfl
          try simp only [Act.put, List.setIfInBounds_toArray, List.set_cons_zero, List.set_cons_succ]
          refine wpAnyH_take (i := 8) (oi := ⟨some 134, _, _, _, _, _⟩) (v := ?_) rfl (by kernel_rfl) (by kernel_rfl) (by kernel_rfl) (fun _ _ _ h => h) (Or.inl ⟨by rfl, ?_⟩) hS ?_
          rotate_left
          · intro W hW; go_simp; with_reducible rfl
          try simp only [Act.put, List.setIfInBounds_toArray, List.set_cons_zero, List.set_cons_succ]
          refine wpAnyH_take (i := 9) (oi := ⟨some 135, _, _, _, _, _⟩) (v := ?_) rfl (by kernel_rfl) (by kernel_rfl) (by kernel_rfl) (fun _ _ _ h => h) (Or.inl ⟨by rfl, ?_⟩) hS ?_
          rotate_left
          · intro W hW; go_simp; with_reducible rfl
          try simp only [Act.put, List.setIfInBounds_toArray, List.set_cons_zero, List.set_cons_succ]
          refine wpAnyH_take (i := 10) (oi := ⟨some 136, _, _, _, _, _⟩) (v := ?_) rfl (by kernel_rfl) (by kernel_rfl) (by kernel_rfl) (fun _ _ _ h => h) (Or.inl ⟨by rfl, ?_⟩) hS ?_
          rotate_left
          · intro W hW; go_simp; with_reducible rfl
          try simp only [Act.put, List.setIfInBounds_toArray, List.set_cons_zero, List.set_cons_succ]
          refine wpAnyH_ready (rs := [5]) (by kernel_rfl) (by simp) ?_
          refine AllReadyH.cons (o := ⟨some 131, _, _, _, _, _⟩) rfl (fun Kr hKr => ?_) AllReadyH.nil
          -- operation 5: a call
          go_simp
          refine (dwrite_any HT1.out.dev (Nat.le_trans HSP.out (by omega)) x.at_ (HFM.out.mono fun _ h => .inl h) x.b.length ca rfl).mono ?_
          rintro e w3 ⟨rfl, hd3, ht3⟩
          have HT3 := Lib.hid (HT1.out.d hd3 ht3)
          have HO3 := Lib.hid (HO1.out.turn ht3 (fun h => HNG.out (.inl h)))
          have HF3 := Lib.hid (HFM.out.turn (ht3.mono fun _ h => .inl h))
          clear hat hbt
          have hat : ∀ V, Turn (D2 p L M q a b) w3 V → V.cell? ⟨g, 1, none⟩ = some (.int .i64 x.at_) := fun V hV => (HO3.out.turn hV HNG.out).c1
          have hbt : ∀ V, Turn (D2 p L M q a b) w3 V → V.cell? ⟨g, 9, none⟩ = some (.slice A2 x.b.length ca) := fun V hV => (HO3.out.turn hV HNG.out).c9
          show Kr _ _
          refine hKr.out _ _ ?_ (fun _ => ?_)
          · exact Turn.trans hS (ht3.mono fun _ h => .inl h)
          clear hKr Kr
          refine wpAnyH_turn (Turn.trans hS (ht3.mono fun _ h => .inl h)) ?_
          clear hS
          have hS : Turn (D2 p L M q a b) w3 w3 := Turn.refl _ _
          try simp only [Act.put, List.setIfInBounds_toArray, List.set_cons_zero, List.set_cons_succ]
          refine wpAnyH_ready (rs := [11]) (by kernel_rfl) (by simp) ?_
          refine AllReadyH.cons (o := ⟨some 137, _, _, _, _, _⟩) rfl (fun Kr hKr => ?_) AllReadyH.nil
          -- operation 11: a call
          go_simp
          refine (drefwrite_any HT3.out.ref (Nat.le_trans HSP.out (by omega)) x.at_ (HF3.out.mono fun _ h => .inr h) x.b.length ca rfl).mono ?_
          rintro e w4 ⟨rfl, hd4, ht4⟩
          have HT4 := Lib.hid (HT3.out.r hd4 ht4)
          have HWS := Lib.hid (Dv.write_spent (D := D) x.at_ x.b)
          clear hat hbt
          show Kr _ _
          refine hKr.out _ _ ?_ (fun _ => ?_)
          · exact Turn.trans hS (ht4.mono fun _ h => .inr h)
          clear hKr Kr
          refine wpAnyH_turn (Turn.trans hS (ht4.mono fun _ h => .inr h)) ?_
          clear hS
          have hS : Turn (D2 p L M q a b) w4 w4 := Turn.refl _ _
          try simp only [Act.put, List.setIfInBounds_toArray, List.set_cons_zero, List.set_cons_succ]
          refine wpAnyH_take (i := 12) (oi := ⟨some 138, _, _, _, _, _⟩) (v := ?_) rfl (by kernel_rfl) (by kernel_rfl) (by kernel_rfl) (fun _ _ _ h => h) (Or.inl ⟨by rfl, ?_⟩) hS ?_
          rotate_left
          · intro W hW; go_simp; with_reducible rfl
          try simp only [Act.put, List.setIfInBounds_toArray, List.set_cons_zero, List.set_cons_succ]
          refine wpAnyH_take (i := 13) (oi := ⟨some 139, _, _, _, _, _⟩) (v := ?_) rfl (by kernel_rfl) (by kernel_rfl) (by kernel_rfl) (fun _ _ _ h => h) (Or.inl ⟨by rfl, ?_⟩) hS ?_
          rotate_left
          · intro W hW; go_simp; with_reducible rfl
          try simp only [Act.put, List.setIfInBounds_toArray, List.set_cons_zero, List.set_cons_succ]
          refine wpAnyH_take (i := 14) (oi := ⟨some 140, _, _, _, _, _⟩) (v := ?_) rfl (by kernel_rfl) (by kernel_rfl) (by kernel_rfl) (fun _ _ _ h => h) (Or.inl ⟨by rfl, ?_⟩) hS ?_
          rotate_left
          · intro W hW; go_simp; with_reducible rfl
          try simp only [Act.put, List.setIfInBounds_toArray, List.set_cons_zero, List.set_cons_succ]
          refine wpAnyH_take (i := 16) (oi := ⟨some 142, _, _, _, _, _⟩) (v := ?_) rfl (by kernel_rfl) (by kernel_rfl) (by kernel_rfl) (fun _ _ _ h => h) (Or.inl ⟨by rfl, ?_⟩) hS ?_
          rotate_left
          · intro W hW; go_simp; with_reducible rfl
          try simp only [Act.put, List.setIfInBounds_toArray, List.set_cons_zero, List.set_cons_succ]
          refine wpAnyH_ready (rs := [15]) (by kernel_rfl) (by simp) ?_
          refine AllReadyH.cons (o := ⟨some 141, _, _, _, _, _⟩) rfl (fun Kr hKr => ?_) AllReadyH.nil
          -- operation 15: a call
          go_simp
          refine (flush_any HT4.out.dev (Nat.le_trans HWS.out (by have := HSP.out; omega))).mono ?_
          rintro e w5 ⟨rfl, hd5, ht5⟩
          have HT5 := Lib.hid (HT4.out.d hd5 ht5)
          show Kr _ _
          refine hKr.out _ _ ?_ (fun _ => ?_)
          · exact Turn.trans hS (ht5.mono fun _ h => .inl h)
          clear hKr Kr
          refine wpAnyH_turn (Turn.trans hS (ht5.mono fun _ h => .inl h)) ?_
          clear hS
          have hS : Turn (D2 p L M q a b) w5 w5 := Turn.refl _ _
          try simp only [Act.put, List.setIfInBounds_toArray, List.set_cons_zero, List.set_cons_succ]
          refine wpAnyH_ready (rs := [17]) (by kernel_rfl) (by simp) ?_
          refine AllReadyH.cons (o := ⟨some 143, _, _, _, _, _⟩) rfl (fun Kr hKr => ?_) AllReadyH.nil
          -- operation 17: a call
          go_simp
          refine (refflush_any HT5.out.ref (Nat.le_trans HWS.out (by have := HSP.out; omega))).mono ?_
          rintro e w6 ⟨rfl, hd6, ht6⟩
          have HT6 := Lib.hid (HT5.out.r hd6 ht6)
          show Kr _ _
          refine hKr.out _ _ ?_ (fun _ => ?_)
          · exact Turn.trans hS (ht6.mono fun _ h => .inr h)
          clear hKr Kr
          refine wpAnyH_turn (Turn.trans hS (ht6.mono fun _ h => .inr h)) ?_
          clear hS
          have hS : Turn (D2 p L M q a b) w6 w6 := Turn.refl _ _
          try simp only [Act.put, List.setIfInBounds_toArray, List.set_cons_zero, List.set_cons_succ]
          refine wpAnyH_take (i := 18) (oi := ⟨some 144, _, _, _, _, _⟩) (v := ?_) rfl (by kernel_rfl) (by kernel_rfl) (by kernel_rfl) (fun _ _ _ h => h) (Or.inl ⟨by rfl, ?_⟩) hS ?_
          rotate_left
          · intro W hW; go_simp; with_reducible rfl
          try simp only [Act.put, List.setIfInBounds_toArray, List.set_cons_zero, List.set_cons_succ]
          refine wpAnyH_take (i := 19) (oi := ⟨some 145, _, _, _, _, _⟩) (v := ?_) rfl (by kernel_rfl) (by kernel_rfl) (by kernel_rfl) (fun _ _ _ h => h) (Or.inl ⟨by rfl, ?_⟩) hS ?_
          rotate_left
          · intro W hW; go_simp; with_reducible rfl
          try simp only [Act.put, List.setIfInBounds_toArray, List.set_cons_zero, List.set_cons_succ]
          refine wpAnyH_done (by kernel_rfl) ?_ _
          go_wp2_with fail
          go_meet
          case rel => exact ⟨_, Lib.hid (by have h1 := HWS.out; have h2 := HI.out; have h3 := Dv.flush_spent (D := D.write x.at_ x.b); omega), HT6⟩
        · clear o1 o2 o3 o4 o5 o6 o7 o8 o9 o10
          go_wp2_with fail
          go_meet
          case rel => exact ⟨D, HD2, HT0⟩
        · obtain ⟨y, hy⟩ : ∃ y, Hid (y = D.svS x.s) := ⟨_, Lib.hid rfl⟩
          obtain ⟨er, her⟩ : ∃ er, Hid (er = D.svE x.s) := ⟨_, Lib.hid rfl⟩
          rcases hz with rfl | rfl
          · go_wp2_with fail
            refine (ours_any W0 x.s).mono ?_
            rintro e w3 ⟨rfl, hb3⟩
            have HT3 := Lib.hid (HT0.out.below hb3)
            have HO3 := Lib.hid (HO0.out.below hb3)
            clear hb3 o1 o2 o3 o4 o5 o6 o7 o8 o9 o10
            go_wp2_with fail
            refine (save_any HT3.out.dev (Nat.le_trans HSP.out (by omega)) x.s).mono ?_
            rintro e w4 ⟨rfl, hd4, ht4⟩
            rw [← hy.out, ← her.out]
            have HT4 := Lib.hid (HT3.out.d hd4 ht4)
            have HO4 := Lib.hid (HO3.out.turn ht4 (fun h => HNG.out (.inl h)))
            have HN4 := Lib.hid HT4.out.notNew
            clear hd4 ht4 HT3 HO3
            go_wp2_with (refine wpList_store_sup tyP (zero_new w4 _) rfl (.tmp 14) (.tmp 86) rfl rfl y rfl ?_; intro w5 hs5 hg5; have HT5 := Lib.hid (HT4.out.below (box_below hg5)); have HO5 := Lib.hid (HO4.out.below (box_below hg5)); have HY5 := Lib.hid hs5; have o2 := HO5.out.c2; have o3 := HO5.out.c3; have o4 := HO5.out.c4; have o5 := HO5.out.c5; have o6 := HO5.out.c6; have o7 := HO5.out.c7; have o8 := HO5.out.c8; clear hs5 hg5 HT4 HO4)
            refine (refsave_any HT5.out.ref (Nat.le_trans HSP.out (by omega)) x.s).mono ?_
            rintro e w6 ⟨rfl, hd6, ht6⟩
            rw [← hy.out, ← her.out]
            have HT6 := Lib.hid (HT5.out.r hd6 ht6)
            have HY6 : Hid (SupAt w6 w4.heap.size 29 y) := Lib.hid ((ht6.block _ (lt_of_block HY5.out) (fun h => HN4.out (.inr h))).trans HY5.out)
            clear hd6 ht6 HT5 HO5 HY5 o2 o3 o4 o5 o6 o7 o8
            go_upto_region 22 with (refine wpList_store_sup tyR (zero_new w6 _) rfl (.tmp 16) (.tmp 93) rfl rfl y rfl ?_; intro w7 hs7 hg7; have HT7 := Lib.hid (HT6.out.below (box_below hg7)); have HY7 := Lib.hid (HY6.out.below (box_below hg7)); have HR7 := Lib.hid hs7; clear hs7 hg7 HT6 HY6)
            clear HN4
            generalize w4.heap.size = gp at *
            generalize w6.heap.size = gr at *
            have s0 : ∀ V, Since w7 V → V.cell? ⟨gp, 0, none⟩ = some (.int .i64 y.V) := fun V hV => (HY7.out.below hV).cell (i := 0) (by omega)
            have s1 : ∀ V, Since w7 V → V.cell? ⟨gp, 1, none⟩ = some (.int .i64 y.E) := fun V hV => (HY7.out.below hV).cell (i := 1) (by omega)
            have s2 : ∀ V, Since w7 V → V.cell? ⟨gp, 2, none⟩ = some (.int .i64 y.B) := fun V hV => (HY7.out.below hV).cell (i := 2) (by omega)
            have s3 : ∀ V, Since w7 V → V.cell? ⟨gp, 3, none⟩ = some (.int .i64 y.C) := fun V hV => (HY7.out.below hV).cell (i := 3) (by omega)
            have s4 : ∀ V, Since w7 V → V.cell? ⟨gp, 4, none⟩ = some (.int .i64 y.L) := fun V hV => (HY7.out.below hV).cell (i := 4) (by omega)
            have s5 : ∀ V, Since w7 V → V.cell? ⟨gp, 5, none⟩ = some (.int .i64 y.H) := fun V hV => (HY7.out.below hV).cell (i := 5) (by omega)
            have s6 : ∀ V, Since w7 V → V.cell? ⟨gp, 6, none⟩ = some (.int .i64 y.A) := fun V hV => (HY7.out.below hV).cell (i := 6) (by omega)
            have r0 : ∀ V, Since w7 V → V.cell? ⟨gr, 0, none⟩ = some (.int .i64 y.V) := fun V hV => (HR7.out.below hV).cell (i := 0) (by omega)
            have r1 : ∀ V, Since w7 V → V.cell? ⟨gr, 1, none⟩ = some (.int .i64 y.E) := fun V hV => (HR7.out.below hV).cell (i := 1) (by omega)
            have r2 : ∀ V, Since w7 V → V.cell? ⟨gr, 2, none⟩ = some (.int .i64 y.B) := fun V hV => (HR7.out.below hV).cell (i := 2) (by omega)
            have r3 : ∀ V, Since w7 V → V.cell? ⟨gr, 3, none⟩ = some (.int .i64 y.C) := fun V hV => (HR7.out.below hV).cell (i := 3) (by omega)
            have r4 : ∀ V, Since w7 V → V.cell? ⟨gr, 4, none⟩ = some (.int .i64 y.L) := fun V hV => (HR7.out.below hV).cell (i := 4) (by omega)
            have r5 : ∀ V, Since w7 V → V.cell? ⟨gr, 5, none⟩ = some (.int .i64 y.H) := fun V hV => (HR7.out.below hV).cell (i := 5) (by omega)
            have r6 : ∀ V, Since w7 V → V.cell? ⟨gr, 6, none⟩ = some (.int .i64 y.A) := fun V hV => (HR7.out.below hV).cell (i := 6) (by omega)
            have nq : ∀ V, Since w7 V → (binOp .neq 23 (supV y) (.agg #[.int .i64 y.V, .int .i64 y.E, .int .i64 y.B, .int .i64 y.C, .int .i64 y.L, .int .i64 y.H, .int .i64 y.A])).run Try.prog V = .ok (.bool false) V := fun V _ => (run_ref_neq y y V).trans (by rw [supEq_self]; rfl)
            have ng : ∀ V, Since w7 V → (eqGuard .neq 23 (.tmp 96) (.tmp 97) (supV y) (.agg #[.int .i64 y.V, .int .i64 y.E, .int .i64 y.B, .int .i64 y.C, .int .i64 y.L, .int .i64 y.H, .int .i64 y.A])).run Try.prog V = .ok () V := fun V _ => run_ref_guard .neq _ _ y y V
            refine wp_region_since (by kernel_rfl) ?_
            have hS : Since w7 (World.drew w7) := (Below.refl _ _).drew
            refine wpAnyH_take (i := 0) (oi := ⟨some 95, _, _, _, _, _⟩) (v := ?_) rfl (by kernel_rfl) (by kernel_rfl) (by kernel_rfl) (fun _ _ _ h => h) (Or.inl ⟨by rfl, ?_⟩) hS ?_
            rotate_left
            · intro W hW; go_simp; with_reducible rfl
            try simp only [Act.put, List.setIfInBounds_toArray, List.set_cons_zero, List.set_cons_succ]
            refine wpAnyH_take (i := 2) (oi := ⟨some 97, _, _, _, _, _⟩) (v := ?_) rfl (by kernel_rfl) (by kernel_rfl) (by kernel_rfl) (fun _ _ _ h => h) (Or.inl ⟨by rfl, ?_⟩) hS ?_
            rotate_left
            · intro W hW; go_simp; with_reducible rfl
            try simp only [Act.put, List.setIfInBounds_toArray, List.set_cons_zero, List.set_cons_succ]
            refine wpAnyH_ready (rs := [1]) (by kernel_rfl) (by simp) ?_
            refine AllReadyH.cons (o := ⟨some 96, _, _, _, _, _⟩) rfl (fun Kr hKr => ?_) AllReadyH.nil
            -- operation 1: a call
            go_simp
            refine (theirs_any _ y).mono ?_
            rintro e V1 ⟨rfl, hx⟩
            show Kr _ _
            refine hKr.out _ _ ?_ (fun _ => ?_)
            · exact since_trans hS hx
            clear hKr Kr
            replace hS : Since w7 V1 := since_trans hS hx
            try simp only [Act.put, List.setIfInBounds_toArray, List.set_cons_zero, List.set_cons_succ]
            refine wpAnyH_take (i := 3) (oi := ⟨some 98, _, _, _, _, _⟩) (v := ?_) rfl (by kernel_rfl) (by kernel_rfl) (by kernel_rfl) (fun _ _ _ h => h) (Or.inl ⟨by rfl, ?_⟩) hS ?_
            rotate_left
            · intro W hW; go_simp; with_reducible rfl
            try simp only [Act.put, List.setIfInBounds_toArray, List.set_cons_zero, List.set_cons_succ]
            refine wpAnyH_take (i := 4) (oi := ⟨some 99, _, _, _, _, _⟩) (v := ?_) rfl (by kernel_rfl) (by kernel_rfl) (by kernel_rfl) (fun _ _ _ h => h) (Or.inl ⟨by rfl, ?_⟩) hS ?_
            rotate_left
            · intro W hW; go_simp; with_reducible rfl
            try simp only [Act.put, List.setIfInBounds_toArray, List.set_cons_zero, List.set_cons_succ]
            refine wpAnyH_take (i := 5) (oi := ⟨some 100, _, _, _, _, _⟩) (v := ?_) rfl (by kernel_rfl) (by kernel_rfl) (by kernel_rfl) (fun _ _ _ h => h) (Or.inl ⟨by rfl, ?_⟩) hS ?_
            rotate_left
            · intro W hW; go_simp; with_reducible rfl
            try simp only [Act.put, List.setIfInBounds_toArray, List.set_cons_zero, List.set_cons_succ]
            refine wpAnyH_take (i := 6) (oi := ⟨some 101, _, _, _, _, _⟩) (v := ?_) rfl (by kernel_rfl) (by kernel_rfl) (by kernel_rfl) (fun _ _ _ h => h) (Or.inl ⟨by rfl, ?_⟩) hS ?_
            rotate_left
            · intro W hW; go_simp; with_reducible rfl
            try simp only [Act.put, List.setIfInBounds_toArray, List.set_cons_zero, List.set_cons_succ]
            refine wpAnyH_take (i := 7) (oi := ⟨some 102, _, _, _, _, _⟩) (v := ?_) rfl (by kernel_rfl) (by kernel_rfl) (by kernel_rfl) (fun _ _ _ h => h) (Or.inl ⟨by rfl, ?_⟩) hS ?_
            rotate_left
            · intro W hW; go_simp; with_reducible rfl
            try simp only [Act.put, List.setIfInBounds_toArray, List.set_cons_zero, List.set_cons_succ]
            refine wpAnyH_take (i := 8) (oi := ⟨some 103, _, _, _, _, _⟩) (v := ?_) rfl (by kernel_rfl) (by kernel_rfl) (by kernel_rfl) (fun _ _ _ h => h) (Or.inl ⟨by rfl, ?_⟩) hS ?_
            rotate_left
            · intro W hW; go_simp; with_reducible rfl
            try simp only [Act.put, List.setIfInBounds_toArray, List.set_cons_zero, List.set_cons_succ]
            refine wpAnyH_done (by kernel_rfl) ?_ _
            have HTZ := Lib.hid (HT7.out.below (show Below _ _ _ from hS))
            clear hS HT7 HY7 HR7 s0 s1 s2 s3 s4 s5 s6 r0 r1 r2 r3 r4 r5 r6 nq ng
            go_wp2_with fail
            go_meet
            case rel => exact ⟨D.svD x.s, Lib.hid (by have h1 := D.svD_spent x.s; have h2 := HI.out; omega), HTZ⟩
          · go_wp2_with fail
            refine (ours_any W0 x.s).mono ?_
            rintro e w3 ⟨rfl, hb3⟩
            have HT3 := Lib.hid (HT0.out.below hb3)
            have HO3 := Lib.hid (HO0.out.below hb3)
            clear hb3 o1 o2 o3 o4 o5 o6 o7 o8 o9 o10
            go_wp2_with fail
            refine (save_any HT3.out.dev (Nat.le_trans HSP.out (by omega)) x.s).mono ?_
            rintro e w4 ⟨rfl, hd4, ht4⟩
            rw [← hy.out, ← her.out]
            have HT4 := Lib.hid (HT3.out.d hd4 ht4)
            have HO4 := Lib.hid (HO3.out.turn ht4 (fun h => HNG.out (.inl h)))
            have HN4 := Lib.hid HT4.out.notNew
            clear hd4 ht4 HT3 HO3
            go_wp2_with (refine wpList_store_sup tyP (zero_new w4 _) rfl (.tmp 14) (.tmp 86) rfl rfl y rfl ?_; intro w5 hs5 hg5; have HT5 := Lib.hid (HT4.out.below (box_below hg5)); have HO5 := Lib.hid (HO4.out.below (box_below hg5)); have HY5 := Lib.hid hs5; have o2 := HO5.out.c2; have o3 := HO5.out.c3; have o4 := HO5.out.c4; have o5 := HO5.out.c5; have o6 := HO5.out.c6; have o7 := HO5.out.c7; have o8 := HO5.out.c8; clear hs5 hg5 HT4 HO4)
            refine (refsave_any HT5.out.ref (Nat.le_trans HSP.out (by omega)) x.s).mono ?_
            rintro e w6 ⟨rfl, hd6, ht6⟩
            rw [← hy.out, ← her.out]
            have HT6 := Lib.hid (HT5.out.r hd6 ht6)
            have HY6 : Hid (SupAt w6 w4.heap.size 29 y) := Lib.hid ((ht6.block _ (lt_of_block HY5.out) (fun h => HN4.out (.inr h))).trans HY5.out)
            clear hd6 ht6 HT5 HO5 HY5 o2 o3 o4 o5 o6 o7 o8
            go_upto_region 22 with (refine wpList_store_sup tyR (zero_new w6 _) rfl (.tmp 16) (.tmp 93) rfl rfl y rfl ?_; intro w7 hs7 hg7; have HT7 := Lib.hid (HT6.out.below (box_below hg7)); have HY7 := Lib.hid (HY6.out.below (box_below hg7)); have HR7 := Lib.hid hs7; clear hs7 hg7 HT6 HY6)
            clear HN4
            generalize w4.heap.size = gp at *
            generalize w6.heap.size = gr at *
            have s0 : ∀ V, Since w7 V → V.cell? ⟨gp, 0, none⟩ = some (.int .i64 y.V) := fun V hV => (HY7.out.below hV).cell (i := 0) (by omega)
            have s1 : ∀ V, Since w7 V → V.cell? ⟨gp, 1, none⟩ = some (.int .i64 y.E) := fun V hV => (HY7.out.below hV).cell (i := 1) (by omega)
            have s2 : ∀ V, Since w7 V → V.cell? ⟨gp, 2, none⟩ = some (.int .i64 y.B) := fun V hV => (HY7.out.below hV).cell (i := 2) (by omega)
            have s3 : ∀ V, Since w7 V → V.cell? ⟨gp, 3, none⟩ = some (.int .i64 y.C) := fun V hV => (HY7.out.below hV).cell (i := 3) (by omega)
            have s4 : ∀ V, Since w7 V → V.cell? ⟨gp, 4, none⟩ = some (.int .i64 y.L) := fun V hV => (HY7.out.below hV).cell (i := 4) (by omega)
            have s5 : ∀ V, Since w7 V → V.cell? ⟨gp, 5, none⟩ = some (.int .i64 y.H) := fun V hV => (HY7.out.below hV).cell (i := 5) (by omega)
            have s6 : ∀ V, Since w7 V → V.cell? ⟨gp, 6, none⟩ = some (.int .i64 y.A) := fun V hV => (HY7.out.below hV).cell (i := 6) (by omega)
            have r0 : ∀ V, Since w7 V → V.cell? ⟨gr, 0, none⟩ = some (.int .i64 y.V) := fun V hV => (HR7.out.below hV).cell (i := 0) (by omega)
            have r1 : ∀ V, Since w7 V → V.cell? ⟨gr, 1, none⟩ = some (.int .i64 y.E) := fun V hV => (HR7.out.below hV).cell (i := 1) (by omega)
            have r2 : ∀ V, Since w7 V → V.cell? ⟨gr, 2, none⟩ = some (.int .i64 y.B) := fun V hV => (HR7.out.below hV).cell (i := 2) (by omega)
            have r3 : ∀ V, Since w7 V → V.cell? ⟨gr, 3, none⟩ = some (.int .i64 y.C) := fun V hV => (HR7.out.below hV).cell (i := 3) (by omega)
            have r4 : ∀ V, Since w7 V → V.cell? ⟨gr, 4, none⟩ = some (.int .i64 y.L) := fun V hV => (HR7.out.below hV).cell (i := 4) (by omega)
            have r5 : ∀ V, Since w7 V → V.cell? ⟨gr, 5, none⟩ = some (.int .i64 y.H) := fun V hV => (HR7.out.below hV).cell (i := 5) (by omega)
            have r6 : ∀ V, Since w7 V → V.cell? ⟨gr, 6, none⟩ = some (.int .i64 y.A) := fun V hV => (HR7.out.below hV).cell (i := 6) (by omega)
            have nq : ∀ V, Since w7 V → (binOp .neq 23 (supV y) (.agg #[.int .i64 y.V, .int .i64 y.E, .int .i64 y.B, .int .i64 y.C, .int .i64 y.L, .int .i64 y.H, .int .i64 y.A])).run Try.prog V = .ok (.bool false) V := fun V _ => (run_ref_neq y y V).trans (by rw [supEq_self]; rfl)
            have ng : ∀ V, Since w7 V → (eqGuard .neq 23 (.tmp 96) (.tmp 97) (supV y) (.agg #[.int .i64 y.V, .int .i64 y.E, .int .i64 y.B, .int .i64 y.C, .int .i64 y.L, .int .i64 y.H, .int .i64 y.A])).run Try.prog V = .ok () V := fun V _ => run_ref_guard .neq _ _ y y V
            refine wp_region_since (by kernel_rfl) ?_
            have hS : Since w7 (World.drew w7) := (Below.refl _ _).drew
            refine wpAnyH_take (i := 0) (oi := ⟨some 95, _, _, _, _, _⟩) (v := ?_) rfl (by kernel_rfl) (by kernel_rfl) (by kernel_rfl) (fun _ _ _ h => h) (Or.inl ⟨by rfl, ?_⟩) hS ?_
            rotate_left
            · intro W hW; go_simp; with_reducible rfl
            try simp only [Act.put, List.setIfInBounds_toArray, List.set_cons_zero, List.set_cons_succ]
            refine wpAnyH_take (i := 2) (oi := ⟨some 97, _, _, _, _, _⟩) (v := ?_) rfl (by kernel_rfl) (by kernel_rfl) (by kernel_rfl) (fun _ _ _ h => h) (Or.inl ⟨by rfl, ?_⟩) hS ?_
            rotate_left
            · intro W hW; go_simp; with_reducible rfl
            try simp only [Act.put, List.setIfInBounds_toArray, List.set_cons_zero, List.set_cons_succ]
            refine wpAnyH_ready (rs := [1]) (by kernel_rfl) (by simp) ?_
            refine AllReadyH.cons (o := ⟨some 96, _, _, _, _, _⟩) rfl (fun Kr hKr => ?_) AllReadyH.nil
            -- operation 1: a call
            go_simp
            refine (theirs_any _ y).mono ?_
            rintro e V1 ⟨rfl, hx⟩
            show Kr _ _
            refine hKr.out _ _ ?_ (fun _ => ?_)
            · exact since_trans hS hx
            clear hKr Kr
            replace hS : Since w7 V1 := since_trans hS hx
            try simp only [Act.put, List.setIfInBounds_toArray, List.set_cons_zero, List.set_cons_succ]
            refine wpAnyH_take (i := 3) (oi := ⟨some 98, _, _, _, _, _⟩) (v := ?_) rfl (by kernel_rfl) (by kernel_rfl) (by kernel_rfl) (fun _ _ _ h => h) (Or.inl ⟨by rfl, ?_⟩) hS ?_
            rotate_left
            · intro W hW; go_simp; with_reducible rfl
            try simp only [Act.put, List.setIfInBounds_toArray, List.set_cons_zero, List.set_cons_succ]
            refine wpAnyH_take (i := 4) (oi := ⟨some 99, _, _, _, _, _⟩) (v := ?_) rfl (by kernel_rfl) (by kernel_rfl) (by kernel_rfl) (fun _ _ _ h => h) (Or.inl ⟨by rfl, ?_⟩) hS ?_
            rotate_left
            · intro W hW; go_simp; with_reducible rfl
            try simp only [Act.put, List.setIfInBounds_toArray, List.set_cons_zero, List.set_cons_succ]
            refine wpAnyH_take (i := 5) (oi := ⟨some 100, _, _, _, _, _⟩) (v := ?_) rfl (by kernel_rfl) (by kernel_rfl) (by kernel_rfl) (fun _ _ _ h => h) (Or.inl ⟨by rfl, ?_⟩) hS ?_
            rotate_left
            · intro W hW; go_simp; with_reducible rfl
            try simp only [Act.put, List.setIfInBounds_toArray, List.set_cons_zero, List.set_cons_succ]
            refine wpAnyH_take (i := 6) (oi := ⟨some 101, _, _, _, _, _⟩) (v := ?_) rfl (by kernel_rfl) (by kernel_rfl) (by kernel_rfl) (fun _ _ _ h => h) (Or.inl ⟨by rfl, ?_⟩) hS ?_
            rotate_left
            · intro W hW; go_simp; with_reducible rfl
            try simp only [Act.put, List.setIfInBounds_toArray, List.set_cons_zero, List.set_cons_succ]
            refine wpAnyH_take (i := 7) (oi := ⟨some 102, _, _, _, _, _⟩) (v := ?_) rfl (by kernel_rfl) (by kernel_rfl) (by kernel_rfl) (fun _ _ _ h => h) (Or.inl ⟨by rfl, ?_⟩) hS ?_
            rotate_left
            · intro W hW; go_simp; with_reducible rfl
            try simp only [Act.put, List.setIfInBounds_toArray, List.set_cons_zero, List.set_cons_succ]
            refine wpAnyH_take (i := 8) (oi := ⟨some 103, _, _, _, _, _⟩) (v := ?_) rfl (by kernel_rfl) (by kernel_rfl) (by kernel_rfl) (fun _ _ _ h => h) (Or.inl ⟨by rfl, ?_⟩) hS ?_
            rotate_left
            · intro W hW; go_simp; with_reducible rfl
            try simp only [Act.put, List.setIfInBounds_toArray, List.set_cons_zero, List.set_cons_succ]
            refine wpAnyH_done (by kernel_rfl) ?_ _
            have HTZ := Lib.hid (HT7.out.below (show Below _ _ _ from hS))
            clear hS HT7 HY7 HR7 s0 s1 s2 s3 s4 s5 s6 r0 r1 r2 r3 r4 r5 r6 nq ng
            go_wp2_with fail
            go_meet
            case rel => exact ⟨D.svD x.s, Lib.hid (by have h1 := D.svD_spent x.s; have h2 := HI.out; omega), HTZ⟩
      case rest =>
        obtain ⟨E, HE, HT⟩ := hcut
        clear HT0 HO0 HI HSP HB HAB HRB HNG d2 d3
        obtain ⟨y, hy⟩ : ∃ y, Hid (y = E.ldS) := ⟨_, Lib.hid rfl⟩
        obtain ⟨er, her⟩ : ∃ er, Hid (er = E.ldE) := ⟨_, Lib.hid rfl⟩
        go_wp2_with fail
        refine (load_any HT.out.dev).mono ?_
        rintro e w5 ⟨rfl, hb5⟩
        rw [← hy.out, ← her.out]
        have HT5 := Lib.hid (HT.out.below hb5)
        clear hb5 HT
        go_wp2_with (refine wpList_store_sup tyP (zero_new w5 _) rfl (.tmp 18) (.tmp 149) rfl rfl y rfl ?_; intro w6 hs6 hg6; have HT6 := Lib.hid (HT5.out.below (box_below hg6)); have HY6 := Lib.hid hs6; clear hs6 hg6 HT5)
        refine (refload_any HT6.out.ref).mono ?_
        rintro e w7 ⟨rfl, hb7⟩
        rw [← hy.out, ← her.out]
        have HT7 := Lib.hid (HT6.out.below hb7)
        have HY7 := Lib.hid (HY6.out.below hb7)
        clear hb7 HT6 HY6
        go_upto_region 35 with (refine wpList_store_sup tyR (zero_new w7 _) rfl (.tmp 20) (.tmp 154) rfl rfl y rfl ?_; intro w8 hs8 hg8; have HT8 := Lib.hid (HT7.out.below (box_below hg8)); have HY8 := Lib.hid (HY7.out.below (box_below hg8)); have HR8 := Lib.hid hs8; clear hs8 hg8 HT7 HY7)
        generalize w5.heap.size = gp at *
        generalize w7.heap.size = gr at *
        have s0 : ∀ V, Since w8 V → V.cell? ⟨gp, 0, none⟩ = some (.int .i64 y.V) := fun V hV => (HY8.out.below hV).cell (i := 0) (by omega)
        have s1 : ∀ V, Since w8 V → V.cell? ⟨gp, 1, none⟩ = some (.int .i64 y.E) := fun V hV => (HY8.out.below hV).cell (i := 1) (by omega)
        have s2 : ∀ V, Since w8 V → V.cell? ⟨gp, 2, none⟩ = some (.int .i64 y.B) := fun V hV => (HY8.out.below hV).cell (i := 2) (by omega)
        have s3 : ∀ V, Since w8 V → V.cell? ⟨gp, 3, none⟩ = some (.int .i64 y.C) := fun V hV => (HY8.out.below hV).cell (i := 3) (by omega)
        have s4 : ∀ V, Since w8 V → V.cell? ⟨gp, 4, none⟩ = some (.int .i64 y.L) := fun V hV => (HY8.out.below hV).cell (i := 4) (by omega)
        have s5 : ∀ V, Since w8 V → V.cell? ⟨gp, 5, none⟩ = some (.int .i64 y.H) := fun V hV => (HY8.out.below hV).cell (i := 5) (by omega)
        have s6 : ∀ V, Since w8 V → V.cell? ⟨gp, 6, none⟩ = some (.int .i64 y.A) := fun V hV => (HY8.out.below hV).cell (i := 6) (by omega)
        have r0 : ∀ V, Since w8 V → V.cell? ⟨gr, 0, none⟩ = some (.int .i64 y.V) := fun V hV => (HR8.out.below hV).cell (i := 0) (by omega)
        have r1 : ∀ V, Since w8 V → V.cell? ⟨gr, 1, none⟩ = some (.int .i64 y.E) := fun V hV => (HR8.out.below hV).cell (i := 1) (by omega)
        have r2 : ∀ V, Since w8 V → V.cell? ⟨gr, 2, none⟩ = some (.int .i64 y.B) := fun V hV => (HR8.out.below hV).cell (i := 2) (by omega)
        have r3 : ∀ V, Since w8 V → V.cell? ⟨gr, 3, none⟩ = some (.int .i64 y.C) := fun V hV => (HR8.out.below hV).cell (i := 3) (by omega)
        have r4 : ∀ V, Since w8 V → V.cell? ⟨gr, 4, none⟩ = some (.int .i64 y.L) := fun V hV => (HR8.out.below hV).cell (i := 4) (by omega)
        have r5 : ∀ V, Since w8 V → V.cell? ⟨gr, 5, none⟩ = some (.int .i64 y.H) := fun V hV => (HR8.out.below hV).cell (i := 5) (by omega)
        have r6 : ∀ V, Since w8 V → V.cell? ⟨gr, 6, none⟩ = some (.int .i64 y.A) := fun V hV => (HR8.out.below hV).cell (i := 6) (by omega)
        have nq : ∀ V, Since w8 V → (binOp .neq 23 (supV y) (.agg #[.int .i64 y.V, .int .i64 y.E, .int .i64 y.B, .int .i64 y.C, .int .i64 y.L, .int .i64 y.H, .int .i64 y.A])).run Try.prog V = .ok (.bool false) V := fun V _ => (run_ref_neq y y V).trans (by rw [supEq_self]; rfl)
        have ng : ∀ V, Since w8 V → (eqGuard .neq 23 (.tmp 157) (.tmp 158) (supV y) (.agg #[.int .i64 y.V, .int .i64 y.E, .int .i64 y.B, .int .i64 y.C, .int .i64 y.L, .int .i64 y.H, .int .i64 y.A])).run Try.prog V = .ok () V := fun V _ => run_ref_guard .neq _ _ y y V
        refine wp_region_since (by kernel_rfl) ?_
        have hS : Since w8 (World.drew w8) := (Below.refl _ _).drew
        refine wpAnyH_take (i := 0) (oi := ⟨some 156, _, _, _, _, _⟩) (v := ?_) rfl (by kernel_rfl) (by kernel_rfl) (by kernel_rfl) (fun _ _ _ h => h) (Or.inl ⟨by rfl, ?_⟩) hS ?_
        rotate_left
        · intro W hW; go_simp; with_reducible rfl
        try simp only [Act.put, List.setIfInBounds_toArray, List.set_cons_zero, List.set_cons_succ]
        refine wpAnyH_take (i := 2) (oi := ⟨some 158, _, _, _, _, _⟩) (v := ?_) rfl (by kernel_rfl) (by kernel_rfl) (by kernel_rfl) (fun _ _ _ h => h) (Or.inl ⟨by rfl, ?_⟩) hS ?_
        rotate_left
        · intro W hW; go_simp; with_reducible rfl
        try simp only [Act.put, List.setIfInBounds_toArray, List.set_cons_zero, List.set_cons_succ]
        refine wpAnyH_ready (rs := [1]) (by kernel_rfl) (by simp) ?_
        refine AllReadyH.cons (o := ⟨some 157, _, _, _, _, _⟩) rfl (fun Kr hKr => ?_) AllReadyH.nil
        -- operation 1: a call
        go_simp
        refine (theirs_any _ y).mono ?_
        rintro e V1 ⟨rfl, hx⟩
        show Kr _ _
        refine hKr.out _ _ ?_ (fun _ => ?_)
        · exact since_trans hS hx
        clear hKr Kr
        replace hS : Since w8 V1 := since_trans hS hx
        try simp only [Act.put, List.setIfInBounds_toArray, List.set_cons_zero, List.set_cons_succ]
        refine wpAnyH_take (i := 3) (oi := ⟨some 159, _, _, _, _, _⟩) (v := ?_) rfl (by kernel_rfl) (by kernel_rfl) (by kernel_rfl) (fun _ _ _ h => h) (Or.inl ⟨by rfl, ?_⟩) hS ?_
        rotate_left
        · intro W hW; go_simp; with_reducible rfl
        try simp only [Act.put, List.setIfInBounds_toArray, List.set_cons_zero, List.set_cons_succ]
        refine wpAnyH_take (i := 4) (oi := ⟨some 160, _, _, _, _, _⟩) (v := ?_) rfl (by kernel_rfl) (by kernel_rfl) (by kernel_rfl) (fun _ _ _ h => h) (Or.inl ⟨by rfl, ?_⟩) hS ?_
        rotate_left
        · intro W hW; go_simp; with_reducible rfl
        try simp only [Act.put, List.setIfInBounds_toArray, List.set_cons_zero, List.set_cons_succ]
        refine wpAnyH_take (i := 5) (oi := ⟨some 161, _, _, _, _, _⟩) (v := ?_) rfl (by kernel_rfl) (by kernel_rfl) (by kernel_rfl) (fun _ _ _ h => h) (Or.inl ⟨by rfl, ?_⟩) hS ?_
        rotate_left
        · intro W hW; go_simp; with_reducible rfl
        try simp only [Act.put, List.setIfInBounds_toArray, List.set_cons_zero, List.set_cons_succ]
        refine wpAnyH_take (i := 6) (oi := ⟨some 162, _, _, _, _, _⟩) (v := ?_) rfl (by kernel_rfl) (by kernel_rfl) (by kernel_rfl) (fun _ _ _ h => h) (Or.inl ⟨by rfl, ?_⟩) hS ?_
        rotate_left
        · intro W hW; go_simp; with_reducible rfl
        try simp only [Act.put, List.setIfInBounds_toArray, List.set_cons_zero, List.set_cons_succ]
        refine wpAnyH_take (i := 7) (oi := ⟨some 163, _, _, _, _, _⟩) (v := ?_) rfl (by kernel_rfl) (by kernel_rfl) (by kernel_rfl) (fun _ _ _ h => h) (Or.inl ⟨by rfl, ?_⟩) hS ?_
        rotate_left
        · intro W hW; go_simp; with_reducible rfl
        try simp only [Act.put, List.setIfInBounds_toArray, List.set_cons_zero, List.set_cons_succ]
        refine wpAnyH_take (i := 8) (oi := ⟨some 164, _, _, _, _, _⟩) (v := ?_) rfl (by kernel_rfl) (by kernel_rfl) (by kernel_rfl) (fun _ _ _ h => h) (Or.inl ⟨by rfl, ?_⟩) hS ?_
        rotate_left
        · intro W hW; go_simp; with_reducible rfl
        try simp only [Act.put, List.setIfInBounds_toArray, List.set_cons_zero, List.set_cons_succ]
        refine wpAnyH_done (by kernel_rfl) ?_ _
        have HTZ := Lib.hid (HT8.out.below (show Below _ _ _ from hS))
        clear hS HT8 HY8 HR8 s0 s1 s2 s3 s4 s5 s6 r0 r1 r2 r3 r4 r5 r6 nq ng
        go_wp2_with fail
        go_roundg (gk - 1)
        case measure => omega
        case rel => exact ⟨E, j + 1, by go_num, by omega, HE, HTZ⟩
    · obtain rfl : j = len := by omega
      have hdj : decide ((j : Int) < (j : Int)) = false := decide_eq_false (by omega)
      have hdj2 : decide (j < j) = false := decide_eq_false (by omega)
      go_wp2_with fail
      go_ret
      exact ⟨rfl, HD.out.bel⟩

end Go.Proofs.Ytojidejlohpeaaa
