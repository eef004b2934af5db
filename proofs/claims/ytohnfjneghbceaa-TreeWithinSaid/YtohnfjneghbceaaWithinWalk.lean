/-
  TreeWithin's walk.
-/
import Derived.Test.YtohnfjneghbceaaPlain
import Derived.Test.YtohnfjneghbceaaSince
namespace Go.Proofs.Ytohnfjneghbceaa
set_option maxRecDepth 100000
set_option linter.unusedVariables false
open Go.RowKit Go.Shelf

set_option maxHeartbeats 8000000 in
theorem within_walk (a : Option Addr) (len cap : Nat) (F G : Nat → Int) (u : Int) (w : World) (hacts : Acts w a len F G) :
    Calls Try.prog 6 #[.slice a len cap, .int .i64 u] w fun e w' => e = .returned (.bool true) ∧ Below w.heap.size w w' := by
  by_cases hlen : len ≤ 100
  · go_enter Try.func6, Try.ntmps6
    go_wp2_with fail
    refine (awake_any w).mono ?_
    rintro e w0 ⟨rfl, hb0⟩
    have HB0 := Lib.hid hb0
    have HAC := Lib.hid (show Acts w0 a len F G from by
      rcases hacts with h | ⟨b, o, e, hl, hc⟩
      · exact .inl h
      · exact .inr ⟨b, o, e, Nat.lt_of_lt_of_le hl hb0.size, fun i hi => ⟨(hb0.cell (p := ⟨b, o + i * 2, none⟩) hl).trans (hc i hi).1, (hb0.cell (p := ⟨b, o + i * 2 + 1, none⟩) hl).trans (hc i hi).2⟩⟩)
    clear hb0 hacts
    have hl1 : ¬ (100 : Int) < (len : Int) := by omega
    go_wp2_with fail
    refine (grown_any a len cap F G (by omega) w0 HAC.out).mono ?_
    rintro e w1 ⟨A, k, N, c, T, rfl, hN, hc, hcb, hG, hT, hb1⟩
    have HN := Lib.hid hN
    have HG := Lib.hid hG
    have HB1 := Lib.hid (HB0.out.trans (hb1.mono HB0.out.size))
    have HT := Lib.hid hT
    have hn64 : N ≤ 64 := by have := hG.n; omega
    clear hN hc hG hT hb1 HB0 HAC
    obtain ⟨g, hg⟩ : ∃ g, g = w1.heap.size := ⟨_, rfl⟩
    go_upto_region 5 with (first | (refine wpList_store_tree rfl (.tmp 6) (.tmp 19) rfl rfl rfl (TB.new w1 none 0 0 0) ?_; intro w2 hb2 hg2; have HT2 := Lib.hid hb2; have HG2 := Lib.hid hg2; clear hb2 hg2) | fail)
    rw [← hg] at HT2 HG2 ⊢
    have t2 : Below w1.heap.size w1 w2 := (below_new w1 _).grown HG2.out (by simp) (fun k e => by injection e with e; omega)
    have HB2 := Lib.hid (HB1.out.trans (t2.mono HB1.out.size))
    have HX2 := Lib.hid (HT.out.below t2)
    have HWG := Lib.hid (show w.heap.size ≤ g from by rw [hg]; exact HB1.out.size)
    clear t2 HG2 HB1 HT hg
    have c0 := HT2.out.c0
    have c1 := HT2.out.c1
    have hnc : N = 0 ∨ 0 < N := by omega
    rcases hnc with rfl | hpos
    · go_wp2_with fail
      refine (deep_any A T 0 k c u HN.out HG.out w2 HX2.out).mono ?_
      rintro e w3 ⟨rfl, hb3⟩
      rw [way_empty HN.out]
      have HB3 := Lib.hid (HB2.out.trans (hb3.mono HB2.out.size))
      have HX3 := Lib.hid (HX2.out.below hb3)
      have HT3 := Lib.hid (HT2.out.below hb3)
      clear hb3 c0 c1 HB2 HX2 HT2
      have c0 := HT3.out.c0
      have c1 := HT3.out.c1
      go_wp2_with fail
      refine (top_any A T 0 k c u HN.out HG.out w3 HX3.out).mono ?_
      rintro e w4 ⟨rfl, hb4⟩
      rw [top_empty HN.out]
      have HB4 := Lib.hid (HB3.out.trans (hb4.mono HB3.out.size))
      clear hb4 c0 c1 HB3 HX3 HT3
      go_wp2
      go_ret
      exact ⟨rfl, HB4.out⟩
    · obtain ⟨x, hx, hlow⟩ := low u 65535 16 (by decide) (by omega)
      obtain ⟨i, hi⟩ : ∃ i : Nat, i = x % N := ⟨_, rfl⟩
      have hiN : i < N := by rw [hi]; exact Nat.mod_lt _ hpos
      have hmod : (x : Int) % (N : Int) = (i : Int) := by rw [hi]; simp
      have hmod2 : Int.tmod (x : Int) (N : Int) = (i : Int) := by rw [Int.tmod_eq_emod_of_nonneg (by omega)]; exact hmod
      have hw3 : IntKind.i64.wrap (i : Int) = (i : Int) := by simp [IntKind.wrap, IntKind.bits, IntKind.signed]; omega
      have hnz : ((N : Int) == 0) = false := by simp; omega
      have hnz2 : ¬ (N : Int) = 0 := by omega
      clear hi hx
      go_wp2_with fail
      clear hlow hmod hmod2 hw3 hnz hnz2 c0 c1
      have hil : i < T.l.length := by rw [HN.out]; exact hiN
      have HIL := Lib.hid hil
      have HWN := Lib.hid (wayN_nodup T.par i)
      clear hil
      go_loopw [8, 9] (fun nv jv wr => ∃ j : Nat, jv = .int .i64 (j : Int) ∧ nv = .int .i64 ((cnt (wayN T.par i) j : Nat) : Int) ∧ j ≤ N ∧ Hid (TxAt wr A T.l) ∧ Hid (TB wr g A N k c) ∧ Hid (Below w.heap.size w wr)) (fun _ jv _ => N - (intOf jv).toNat)
      case atStart => exact ⟨0, rfl, by rw [cnt_zero]; rfl, Nat.zero_le _, HX2.out, HT2.out, HB2.out⟩
      case round =>
        obtain ⟨j, rfl, rfl, hj, HX, HT, HB⟩ := hrel
        clear HX2 HT2 HB2
        have c0 := HT.out.c0
        have c1 := HT.out.c1
        obtain ⟨cn, hcn⟩ : ∃ cn, cn = cnt (wayN T.par i) j := ⟨_, rfl⟩
        have hcb2 : cn ≤ 64 := by
          rw [hcn]
          have h1 : cnt (wayN T.par i) j ≤ (wayN T.par i).length := List.length_filter_le _ _
          have h2 := HG.out.deep i HIL.out
          omega
        rw [← hcn]
        have HCN := Lib.hid hcn
        clear hcn
        rcases Nat.lt_or_ge j N with hlt | hge
        · have hjl : j < T.l.length := by rw [HN.out]; exact hlt
          have hw := within_any A T N k c i j HN.out HG.out wr HX.out
          rw [stands_nat HIL.out] at hw
          obtain ⟨st, hst⟩ : ∃ st, st = decide (T.inn j i) := ⟨_, rfl⟩
          rw [← hst] at hw
          have HST := Lib.hid hst
          have HSC := Lib.hid (cnt_succ (j := j) HWN.out)
          have HW := Lib.hid hw
          clear hw hst
          go_wp2_with fail
          refine HW.out.mono ?_
          rintro e w3 ⟨rfl, hb3⟩
          have HB3 := Lib.hid (HB.out.trans (hb3.mono HB.out.size))
          have HX3 := Lib.hid (HX.out.below hb3)
          have HT3 := Lib.hid (HT.out.below hb3)
          clear hb3 c0 c1 HB HX HT HW
          obtain ⟨b, hAe, hb, p0, _, _, _⟩ := HX3.out.get HIL.out
          obtain ⟨p, hp⟩ : ∃ p, p = (T.tx i).p := ⟨_, rfl⟩
          rw [← hp] at p0
          subst hAe
          have HP := Lib.hid hp
          have HSS := Lib.hid (stands_step HG.out HIL.out j)
          have c0 := HT3.out.c0
          have c1 := HT3.out.c1
          clear hp hb
          obtain ⟨wz, hwz⟩ : ∃ wz, wz = w3 := ⟨_, rfl⟩
          have way : ∀ w4 : World, (HBW : Hid (Below w.heap.size w w4)) → (HXW : Hid (TxAt w4 (some ⟨b, 0, none⟩) T.l)) → (HTW : Hid (TB w4 g (some ⟨b, 0, none⟩) N k c)) → True := fun _ _ _ _ => trivial
          clear way
          by_cases hji : j = i
          · have hjb : ((j : Int) == (i : Int)) = true := by simp [hji]
            have hjc : (j : Int) = (i : Int) := by omega
            obtain rfl : st = true := by
              have h := HST.out
              rw [h, hji]
              exact decide_eq_true (wayN_self _ _)
            have HJI := Lib.hid hji
            subst hji
            clear hjb hjc
            go_upto_region 18 with fail
            obtain ⟨t, ht⟩ : ∃ t : Int, t = T.top (j : Int) := ⟨_, rfl⟩
            have htj : T.top (j : Int) = t := ht.symm
            have HTOP1 := Lib.hid (fun (V : World) (hV : Since w3 V) => (htj ▸ top_any (some ⟨b, 0, none⟩) T N k c j HN.out HG.out V (HX3.out.below hV) : Calls Try.prog 24 #[.agg #[.slice (some ⟨b, 0, none⟩) N k, .int .i64 c], .int .i64 (j : Int)] V fun e w' => e = .returned (.int .i64 t) ∧ Below V.heap.size V w'))
            have HTOP2 := Lib.hid (fun (V : World) (hV : Since w3 V) => (ht ▸ top_any (some ⟨b, 0, none⟩) T N k c j HN.out HG.out V (HX3.out.below hV) : Calls Try.prog 24 #[.agg #[.slice (some ⟨b, 0, none⟩) N k, .int .i64 c], .int .i64 (j : Int)] V fun e w' => e = .returned (.int .i64 t) ∧ Below V.heap.size V w'))
            clear ht htj c0 c1
            have k0 := fun (V : World) (h : Since w3 V) => (HT3.out.below h).c0
            have k1 := fun (V : World) (h : Since w3 V) => (HT3.out.below h).c1
            refine wp_region_since (by kernel_rfl) ?_
            have hS : Since w3 (World.drew w3) := (Below.refl _ _).drew
            refine wpAnyH_take (i := 0) (oi := ⟨some 78, _, _, _, _, _⟩) (v := ?_) rfl (by kernel_rfl) (by kernel_rfl) (by kernel_rfl) (fun _ _ _ h => h) (Or.inl ⟨by rfl, ?_⟩) hS ?_
            rotate_left
            · intro W hW; go_simp; with_reducible rfl
            try simp only [Act.put, List.setIfInBounds_toArray, List.set_cons_zero, List.set_cons_succ]
            refine wpAnyH_take (i := 1) (oi := ⟨some 79, _, _, _, _, _⟩) (v := ?_) rfl (by kernel_rfl) (by kernel_rfl) (by kernel_rfl) (fun _ _ _ h => h) (Or.inl ⟨by rfl, ?_⟩) hS ?_
            rotate_left
            · intro W hW; go_simp; with_reducible rfl
            try simp only [Act.put, List.setIfInBounds_toArray, List.set_cons_zero, List.set_cons_succ]
            refine wpAnyH_take (i := 3) (oi := ⟨some 81, _, _, _, _, _⟩) (v := ?_) rfl (by kernel_rfl) (by kernel_rfl) (by kernel_rfl) (fun _ _ _ h => h) (Or.inl ⟨by rfl, ?_⟩) hS ?_
            rotate_left
            · intro W hW; go_simp; with_reducible rfl
            try simp only [Act.put, List.setIfInBounds_toArray, List.set_cons_zero, List.set_cons_succ]
            refine wpAnyH_take (i := 4) (oi := ⟨some 82, _, _, _, _, _⟩) (v := ?_) rfl (by kernel_rfl) (by kernel_rfl) (by kernel_rfl) (fun _ _ _ h => h) (Or.inl ⟨by rfl, ?_⟩) hS ?_
            rotate_left
            · intro W hW; go_simp; with_reducible rfl
            try simp only [Act.put, List.setIfInBounds_toArray, List.set_cons_zero, List.set_cons_succ]
            refine wpAnyH_ready (rs := [2]) (by kernel_rfl) (by simp) ?_
            refine AllReadyH.cons (o := ⟨some 80, _, _, _, _, _⟩) rfl (fun Kr hKr => ?_) AllReadyH.nil
            -- operation 2: a call
            go_simp
            refine (HTOP1.out _ hS).mono ?_
            rintro e V0 ⟨rfl, hx⟩
            show Kr _ _
            refine hKr.out _ _ ?_ (fun _ => ?_)
            · exact since_trans hS hx
            clear hKr Kr
            replace hS : Since w3 V0 := since_trans hS hx
            try simp only [Act.put, List.setIfInBounds_toArray, List.set_cons_zero, List.set_cons_succ]
            refine wpAnyH_ready (rs := [5]) (by kernel_rfl) (by simp) ?_
            refine AllReadyH.cons (o := ⟨some 83, _, _, _, _, _⟩) rfl (fun Kr hKr => ?_) AllReadyH.nil
            -- operation 5: a call
            go_simp
            refine (HTOP2.out _ hS).mono ?_
            rintro e V1 ⟨rfl, hx⟩
            show Kr _ _
            refine hKr.out _ _ ?_ (fun _ => ?_)
            · exact since_trans hS hx
            clear hKr Kr
            replace hS : Since w3 V1 := since_trans hS hx
            try simp only [Act.put, List.setIfInBounds_toArray, List.set_cons_zero, List.set_cons_succ]
            refine wpAnyH_take (i := 6) (oi := ⟨some 84, _, _, _, _, _⟩) (v := ?_) rfl (by kernel_rfl) (by kernel_rfl) (by kernel_rfl) (fun _ _ _ h => h) (Or.inl ⟨by rfl, ?_⟩) hS ?_
            rotate_left
            · intro W hW; go_simp; with_reducible rfl
            try simp only [Act.put, List.setIfInBounds_toArray, List.set_cons_zero, List.set_cons_succ]
            refine wpAnyH_done (by kernel_rfl) ?_ _
            have HBV := Lib.hid (HB3.out.trans (hS.mono HB3.out.size))
            have HXV := Lib.hid (HX3.out.below hS)
            have HTV := Lib.hid (HT3.out.below hS)
            clear hS k0 k1
            go_wp2_with fail
            go_roundw
            case rel => exact ⟨j + 1, by simp, by rw [HSC.out, ← HCN.out, if_pos (show j ∈ wayN T.par j from wayN_self _ _)]; simp, by omega, HXV.out, HTV.out, HBV.out⟩
            case measure => simp [intOf]; omega
          · have hjb : ((j : Int) == (i : Int)) = false := by simp; omega
            have hjc : ¬ (j : Int) = (i : Int) := by omega
            have hst2 : st = T.stands p (j : Int) := by
              have h := HSS.out
              rw [stands_nat HIL.out, ← HST.out, decide_eq_false hji, Bool.false_or, ← HP.out] at h
              exact h
            have HST2 := Lib.hid hst2
            clear hst2 hji
            by_cases hp0 : 0 ≤ p
            · have hw := within_any (some ⟨b, 0, none⟩) T N k c p j HN.out HG.out w3 HX3.out
              rw [← HST2.out] at hw
              have HW := Lib.hid hw
              clear hw
              go_wp2_with fail
              refine HW.out.mono ?_
              rintro e w4 ⟨rfl, hb4⟩
              have HB4 := Lib.hid (HB3.out.trans (hb4.mono HB3.out.size))
              have HX4 := Lib.hid (HX3.out.below hb4)
              have HT4 := Lib.hid (HT3.out.below hb4)
              clear hb4 c0 c1 HB3 HX3 HT3 HW p0
              have c0 := HT4.out.c0
              have c1 := HT4.out.c1
              cases st with
              | true =>
                have HIN := Lib.hid (show T.inn j i from of_decide_eq_true HST.out.symm)
                go_upto_region 18 with fail
                obtain ⟨t, ht⟩ : ∃ t : Int, t = T.top (i : Int) := ⟨_, rfl⟩
                have htj : T.top (j : Int) = t := by rw [ht]; exact top_same HG.out i j HIL.out (HIN.out)
                have HTOP1 := Lib.hid (fun (V : World) (hV : Since w4 V) => (htj ▸ top_any (some ⟨b, 0, none⟩) T N k c j HN.out HG.out V (HX4.out.below hV) : Calls Try.prog 24 #[.agg #[.slice (some ⟨b, 0, none⟩) N k, .int .i64 c], .int .i64 (j : Int)] V fun e w' => e = .returned (.int .i64 t) ∧ Below V.heap.size V w'))
                have HTOP2 := Lib.hid (fun (V : World) (hV : Since w4 V) => (ht ▸ top_any (some ⟨b, 0, none⟩) T N k c i HN.out HG.out V (HX4.out.below hV) : Calls Try.prog 24 #[.agg #[.slice (some ⟨b, 0, none⟩) N k, .int .i64 c], .int .i64 (i : Int)] V fun e w' => e = .returned (.int .i64 t) ∧ Below V.heap.size V w'))
                clear ht htj c0 c1
                have k0 := fun (V : World) (h : Since w4 V) => (HT4.out.below h).c0
                have k1 := fun (V : World) (h : Since w4 V) => (HT4.out.below h).c1
                refine wp_region_since (by kernel_rfl) ?_
                have hS : Since w4 (World.drew w4) := (Below.refl _ _).drew
                refine wpAnyH_take (i := 0) (oi := ⟨some 78, _, _, _, _, _⟩) (v := ?_) rfl (by kernel_rfl) (by kernel_rfl) (by kernel_rfl) (fun _ _ _ h => h) (Or.inl ⟨by rfl, ?_⟩) hS ?_
                rotate_left
                · intro W hW; go_simp; with_reducible rfl
                try simp only [Act.put, List.setIfInBounds_toArray, List.set_cons_zero, List.set_cons_succ]
                refine wpAnyH_take (i := 1) (oi := ⟨some 79, _, _, _, _, _⟩) (v := ?_) rfl (by kernel_rfl) (by kernel_rfl) (by kernel_rfl) (fun _ _ _ h => h) (Or.inl ⟨by rfl, ?_⟩) hS ?_
                rotate_left
                · intro W hW; go_simp; with_reducible rfl
                try simp only [Act.put, List.setIfInBounds_toArray, List.set_cons_zero, List.set_cons_succ]
                refine wpAnyH_take (i := 3) (oi := ⟨some 81, _, _, _, _, _⟩) (v := ?_) rfl (by kernel_rfl) (by kernel_rfl) (by kernel_rfl) (fun _ _ _ h => h) (Or.inl ⟨by rfl, ?_⟩) hS ?_
                rotate_left
                · intro W hW; go_simp; with_reducible rfl
                try simp only [Act.put, List.setIfInBounds_toArray, List.set_cons_zero, List.set_cons_succ]
                refine wpAnyH_take (i := 4) (oi := ⟨some 82, _, _, _, _, _⟩) (v := ?_) rfl (by kernel_rfl) (by kernel_rfl) (by kernel_rfl) (fun _ _ _ h => h) (Or.inl ⟨by rfl, ?_⟩) hS ?_
                rotate_left
                · intro W hW; go_simp; with_reducible rfl
                try simp only [Act.put, List.setIfInBounds_toArray, List.set_cons_zero, List.set_cons_succ]
                refine wpAnyH_ready (rs := [2]) (by kernel_rfl) (by simp) ?_
                refine AllReadyH.cons (o := ⟨some 80, _, _, _, _, _⟩) rfl (fun Kr hKr => ?_) AllReadyH.nil
                -- operation 2: a call
                go_simp
                refine (HTOP1.out _ hS).mono ?_
                rintro e V0 ⟨rfl, hx⟩
                show Kr _ _
                refine hKr.out _ _ ?_ (fun _ => ?_)
                · exact since_trans hS hx
                clear hKr Kr
                replace hS : Since w4 V0 := since_trans hS hx
                try simp only [Act.put, List.setIfInBounds_toArray, List.set_cons_zero, List.set_cons_succ]
                refine wpAnyH_ready (rs := [5]) (by kernel_rfl) (by simp) ?_
                refine AllReadyH.cons (o := ⟨some 83, _, _, _, _, _⟩) rfl (fun Kr hKr => ?_) AllReadyH.nil
                -- operation 5: a call
                go_simp
                refine (HTOP2.out _ hS).mono ?_
                rintro e V1 ⟨rfl, hx⟩
                show Kr _ _
                refine hKr.out _ _ ?_ (fun _ => ?_)
                · exact since_trans hS hx
                clear hKr Kr
                replace hS : Since w4 V1 := since_trans hS hx
                try simp only [Act.put, List.setIfInBounds_toArray, List.set_cons_zero, List.set_cons_succ]
                refine wpAnyH_take (i := 6) (oi := ⟨some 84, _, _, _, _, _⟩) (v := ?_) rfl (by kernel_rfl) (by kernel_rfl) (by kernel_rfl) (fun _ _ _ h => h) (Or.inl ⟨by rfl, ?_⟩) hS ?_
                rotate_left
                · intro W hW; go_simp; with_reducible rfl
                try simp only [Act.put, List.setIfInBounds_toArray, List.set_cons_zero, List.set_cons_succ]
                refine wpAnyH_done (by kernel_rfl) ?_ _
                have HBV := Lib.hid (HB4.out.trans (hS.mono HB4.out.size))
                have HXV := Lib.hid (HX4.out.below hS)
                have HTV := Lib.hid (HT4.out.below hS)
                clear hS k0 k1
                go_wp2_with fail
                go_roundw
                case rel => exact ⟨j + 1, by simp, by rw [HSC.out, ← HCN.out, if_pos (show j ∈ wayN T.par i from HIN.out)]; simp, by omega, HXV.out, HTV.out, HBV.out⟩
                case measure => simp [intOf]; omega
              | false =>
                have HIN := Lib.hid (show ¬ T.inn j i from of_decide_eq_false HST.out.symm)
                clear c0 c1
                go_wp2_with fail
                go_roundw
                case rel => exact ⟨j + 1, by simp, by rw [HSC.out, ← HCN.out, if_neg (show ¬ j ∈ wayN T.par i from HIN.out)]; simp, by omega, HX4.out, HT4.out, HB4.out⟩
                case measure => simp [intOf]; omega
            · have hp0' : p < 0 := by omega
              obtain rfl : st = false := by rw [HST2.out]; exact stands_none' hp0' _
              have HIN := Lib.hid (show ¬ T.inn j i from of_decide_eq_false HST.out.symm)
              clear hp0'
              go_wp2_with fail
              go_roundw
              case rel => exact ⟨j + 1, by simp, by rw [HSC.out, ← HCN.out, if_neg (show ¬ j ∈ wayN T.par i from HIN.out)]; simp, by omega, HX3.out, HT3.out, HB3.out⟩
              case measure => simp [intOf]; omega
        · obtain rfl : j = N := by omega
          obtain ⟨t, ht1, ht2, ht3, ht4⟩ := top_in HG.out i HIL.out
          have htop := top_any A T j k c i HN.out HG.out wr HX.out
          rw [ht1] at htop
          have htN : t < j := by rw [← HN.out]; exact ht2
          have HTL := Lib.hid ht2
          have HTP := Lib.hid ht3
          have HTI := Lib.hid ht4
          have HTOP := Lib.hid htop
          have HCW := Lib.hid (show cn = (T.way (i : Int)).length from by rw [HCN.out, Tr.way_nat HIL.out]; exact cnt_all (fun x hx => by have := way_lt HIL.out hx; rw [HN.out] at this; exact this))
          clear htop ht1 ht2 ht3 ht4
          go_wp2_with fail
          refine HTOP.out.mono ?_
          rintro e w3 ⟨rfl, hb3⟩
          have HB3 := Lib.hid (HB.out.trans (hb3.mono HB.out.size))
          have HX3 := Lib.hid (HX.out.below hb3)
          have HT3 := Lib.hid (HT.out.below hb3)
          clear hb3 c0 c1 HB HX HT HTOP
          have c0 := HT3.out.c0
          have c1 := HT3.out.c1
          have hd := deep_any A T j k c i HN.out HG.out w3 HX3.out
          rw [← HCW.out] at hd
          have HD := Lib.hid hd
          clear hd
          go_wp2_with fail
          refine HD.out.mono ?_
          rintro e w4 ⟨rfl, hb4⟩
          have HB4 := Lib.hid (HB3.out.trans (hb4.mono HB3.out.size))
          have HX4 := Lib.hid (HX3.out.below hb4)
          have HT4 := Lib.hid (HT3.out.below hb4)
          clear hb4 c0 c1 HB3 HX3 HT3 HD
          obtain ⟨b, hAe, hb, p0, _, _, _⟩ := HX4.out.get HTL.out
          rw [HTP.out] at p0
          subst hAe
          have c0 := HT4.out.c0
          have c1 := HT4.out.c1
          have hw := within_any (some ⟨b, 0, none⟩) T j k c i t HN.out HG.out w4 HX4.out
          rw [stands_nat HIL.out, decide_eq_true HTI.out] at hw
          have HW := Lib.hid hw
          clear hw hb
          go_wp2_with fail
          refine HW.out.mono ?_
          rintro e w5 ⟨rfl, hb5⟩
          have HB5 := Lib.hid (HB4.out.trans (hb5.mono HB4.out.size))
          clear hb5 c0 c1 HB4 HX4 HT4 HW p0
          go_wp2
          go_ret
          exact ⟨rfl, HB5.out⟩
  · have hl1 : (100 : Int) < (len : Int) := by omega
    go_enter Try.func6, Try.ntmps6
    go_wp2_with fail
    refine (awake_any w).mono ?_
    rintro e w0 ⟨rfl, hb0⟩
    have HB0 := Lib.hid hb0
    clear hb0 hacts
    go_wp2
    go_ret
    exact ⟨rfl, HB0.out⟩

end Go.Proofs.Ytohnfjneghbceaa
