/-
  RingGoes: the walk: places that are taken, and dropped from the front, go on for ever.
-/
import Derived.Test.YtkdppepeenokbaaBoxes
import Derived.Test.YtkdppepeenokbaaBackWalk
import Derived.Test.YtkdppepeenokbaaRow5
import Derived.Lib.MinMax
import Derived.Deep.CutRange
namespace Go.Proofs.Ytkdppepeenokbaa
open Go.RowKit

set_option maxHeartbeats 16000000 in
set_option maxRecDepth 100000 in
theorem goes_walk (s0 : Int) (a : Option Addr) (len cap : Nat) (f : Nat → Int) (w : World) (hl : Is w a len f) : Calls Try.prog 7 #[.int .i64 s0, .slice a len cap] w fun e w' => e = .returned (.bool true) ∧ Below w.heap.size w w' := by
  obtain ⟨s, hs, eS⟩ := low s0 15 4 (by decide) (by omega)
  simp only [Nat.reducePow] at hs
  have HI := Lib.hid hl
  clear hl
  obtain ⟨S, HSS⟩ : ∃ S : Int, Hid (S = 1 + (s : Int)) := ⟨_, Lib.hid rfl⟩
  have hS0 : 1 ≤ S := by rw [HSS.out]; omega
  have hS1 : S ≤ 16 := by rw [HSS.out]; omega
  have hSw : IntKind.i64.wrap (1 + (s : Int)) = S := by rw [IntKind.wrap_i64, HSS.out]; omega
  by_cases hlen : len ≤ 100
  · have hd : decide ((len : Int) > 100) = false := decide_eq_false (by omega)
    have hd2 : decide (len > 100) = false := decide_eq_false (by omega)
    go_enter Try.func7, Try.ntmps7
    go_wp2_with fail
    refine (awake_any w).mono ?_
    rintro e w0 ⟨rfl, hb0⟩
    have HG : Hid (w.heap.size ≤ w0.heap.size) := Lib.hid hb0.size
    have HB := Lib.hid (below_two hb0 (below_new w0 (.cells (rgC ⟨5, S, 0, 0⟩) 25)))
    have Ho_ := Lib.hid (Bx.new w0 ⟨5, S, 0, 0⟩ 25)
    clear hb0
    go_wp2_with fail
    generalize w0.alloc (.cells (rgC ⟨5, S, 0, 0⟩) 25) = wk at *
    generalize w0.heap.size = g at *
    clear hd hd2 hSw eS HSS
    go_loopw [7] (fun u wr => ∃ (j : Nat) (H T : Int), u = .int .i64 (j : Int) ∧ j ≤ len ∧ Hid (T ≤ 7 * j) ∧ Hid (Rg.mk 5 S H T).Ok ∧ Hid (Below w.heap.size w wr) ∧ Hid (Bx wr g ⟨5, S, H, T⟩ 25)) (fun u _ => len - (intOf u).toNat)
    case atStart => exact ⟨0, 0, 0, rfl, Nat.zero_le _, by show (0 : Int) ≤ 7 * ((0 : Nat) : Int); omega, ok_new (by decide) (by decide) hS0 (by omega), HB.out, Ho_.out⟩
    case round =>
      obtain ⟨j, H, T, rfl, hj, HT, HOK, HB, Ho_⟩ := hrel
      obtain ⟨wa, rfl⟩ : ∃ wa, wa = wr := ⟨_, rfl⟩
      rcases Nat.lt_or_ge j len with hlt | hge
      · rcases HI.out.rd with h0 | ⟨b, o, rfl, hb, hc⟩
        · omega
        have HK0 := Lib.hid (hc j hlt)
        have HBL := Lib.hid hb
        obtain ⟨n, hn, eN⟩ := low (f j) 7 3 (by decide) (by omega)
        obtain ⟨x, hx, eX⟩ := low (f j / 8) 3 2 (by decide) (by omega)
        simp only [Nat.reducePow] at hn hx
        generalize f j = v at HK0 eN eX
        have k0 := (HB.out.cell (p := ⟨b, o + j, none⟩) hb).trans HK0.out
        clear hc hb
        obtain ⟨_, _, _, _, q5, q6, q7, q8⟩ := HOK.out
        simp only at q5 q6 q7 q8
        have hT : T ≤ 700 := by have := HT.out; omega
        have ht := take_any ⟨5, S, H, T⟩ (n : Int) (by omega)
        have HQ : Hid (((Rg.mk 5 S H T).takeE n = 5 ∧ S - (T - H) < n) ∨ ((Rg.mk 5 S H T).takeE n = 0 ∧ n ≤ S - (T - H) ∧ (Rg.mk 5 S H T).take n = ⟨5, S, H, T + n⟩)) := by
          have hE : (Rg.mk 5 S H T).takeE n = if ((Rg.mk 5 S H T).sane && decide (0 ≤ (n : Int))) = true then (if S - (T - H) < n ∨ 1099511627776 < T + n then 5 else 0) else 1 := rfl
          rw [Rg.sane_iff.2 HOK.out, decide_eq_true (p := 0 ≤ (n : Int)) (by omega), Bool.true_and, if_pos rfl] at hE
          by_cases h : S - (T - H) < n
          · exact .inl ⟨by rw [hE, if_pos (.inl h)], h⟩
          · have h0 : (Rg.mk 5 S H T).takeE n = 0 := by rw [hE, if_neg (by omega)]
            refine .inr ⟨h0, by omega, ?_⟩
            unfold Rg.take
            rw [if_pos h0]
        have hf := free_any ⟨5, S, H, T⟩
        rw [free_ok HOK.out] at hf
        simp only at hf
        generalize (Rg.mk 5 S H T).takeE n = e at ht HQ
        generalize (Rg.mk 5 S H T).take n = q at ht HQ
        have hne : (!(e == 0) == decide ((n : Int) ≤ S - (T - H))) = false := by
          rcases HQ.out with ⟨h, h2⟩ | ⟨h, h2, _⟩
          · rw [h, decide_eq_false (by omega)]; rfl
          · rw [h, decide_eq_true h2]; rfl
        have hdj : decide ((j : Int) < (len : Int)) = true := decide_eq_true (by omega)
        have hdj2 : decide (j < len) = true := decide_eq_true (by omega)
        have hji : (j : Int) < (len : Int) := by omega
        have x0 := Ho_.out.c0
        have x1 := Ho_.out.c1
        have x2 := Ho_.out.c2
        have x3 := Ho_.out.c3
        go_wp2_with fail
        refine (ht _).mono ?_
        rintro e w1 ⟨rfl, hb⟩
        replace HB := Lib.hid (below_two HB.out hb)
        replace Ho_ := Lib.hid (Ho_.out.below hb)
        have Ha_ := Lib.hid (Bx.new w1 q 25)
        replace HB := Lib.hid (below_two HB.out (below_new w1 (.cells (rgC q) 25)))
        replace Ho_ := Lib.hid (Ho_.out.below (below_new w1 (.cells (rgC q) 25)))
        clear hb x0 x1 x2 x3 ht
        have x0 := Ho_.out.c0
        have x1 := Ho_.out.c1
        have x2 := Ho_.out.c2
        have x3 := Ho_.out.c3
        go_wp2_with fail
        refine (hf _).mono ?_
        rintro e w2 ⟨rfl, hb⟩
        replace HB := Lib.hid (below_two HB.out hb)
        replace Ho_ := Lib.hid (Ho_.out.below hb)
        replace Ha_ := Lib.hid (Ha_.out.below hb)
        clear hb x0 x1 x2 x3 hf k0
        go_upto_if 49 with fail
        go_cut [] from 24 to 97 (fun wc => ∃ T2 : Int, Hid (H ≤ T2 ∧ T2 ≤ 7 * ((j + 1 : Nat) : Int)) ∧ Hid (Rg.mk 5 S H T2).Ok ∧ Hid (Below w.heap.size w wc) ∧ Hid (Bx wc g ⟨5, S, H, T2⟩ 25))
        case first =>
          have x0 := Ho_.out.c0
          have x1 := Ho_.out.c1
          have x2 := Ho_.out.c2
          have x3 := Ho_.out.c3
          have y0 := Ha_.out.c0
          have y1 := Ha_.out.c1
          have y2 := Ha_.out.c2
          have y3 := Ha_.out.c3
          have f0 := Ho_.out.fr 0
          have f1 := Ho_.out.fr 1
          have f2 := Ho_.out.fr 2
          have f3 := Ho_.out.fr 3
          rcases HQ.out with ⟨he, h2⟩ | ⟨he, h2, hq⟩
          · have hd : (e == 0) = false := by rw [he]; rfl
            clear he h2 HQ
            go_wp2_with fail
            go_meet
            case rel => exact ⟨T, by show H ≤ T ∧ T ≤ 7 * ((j + 1 : Nat) : Int); have := HT.out; omega, HOK.out, HB.out, Ho_.out⟩
          · have hd : (e == 0) = true := by rw [he]; rfl
            have HH := Lib.hid h2
            have HQ2 := Lib.hid hq
            clear he h2 hq HQ
            go_wp2_with fail
            go_meet
            case rel =>
              obtain ⟨b1, b2⟩ := bx_four Ho_.out q
              have h2 := HH.out
              have hq := HQ2.out
              refine ⟨T + n, by show H ≤ T + n ∧ T + n ≤ 7 * ((j + 1 : Nat) : Int); have := HT.out; omega, ?_, b2.below HB.out HB.out.size HG.out, ?_⟩
              · exact ⟨HOK.out.f0, HOK.out.f1, HOK.out.s0, HOK.out.s1, q5, by show H ≤ T + n; omega, by show T + n ≤ 1099511627776; omega, by show T + n - H ≤ S; omega⟩
              · subst hq
                exact b1
        case rest =>
          obtain ⟨T2, HT2, HOK2, HB2, Ho2⟩ := hcut
          obtain ⟨wb, rfl⟩ : ∃ wb, wb = wc := ⟨_, rfl⟩
          clear HB Ho_ Ha_ HQ hne hdj hdj2 HT HOK q6 q7 q8 hT
          have Ho_ := Ho2
          clear Ho2
          obtain ⟨h1, h2⟩ := HT2.out
          obtain ⟨_, _, _, _, _, q6, q7, q8⟩ := HOK2.out
          simp only at q6 q7 q8
          obtain ⟨m, hm⟩ : ∃ m, min (T2 - H) (x : Int) = m := ⟨_, rfl⟩
          have hm0 : 0 ≤ m := by omega
          have hm1 : m ≤ T2 - H := by omega
          have HOK3 : Hid (Rg.mk 5 S (H + m) T2).Ok := Lib.hid ⟨HOK2.out.f0, HOK2.out.f1, HOK2.out.s0, HOK2.out.s1, by show 0 ≤ H + m; omega, by show H + m ≤ T2; omega, q7, by show T2 - (H + m) ≤ S; omega⟩
          have du := used_any ⟨5, S, H, T2⟩
          rw [used_ok HOK2.out] at du
          have dd := drop_any ⟨5, S, H, T2⟩ (H + m)
          rw [drop_ok HOK2.out (by show H ≤ H + m; omega) (by show H + m ≤ T2; omega)] at dd
          simp only at du dd
          have hwm : IntKind.i64.wrap (H + m) = H + m := by rw [IntKind.wrap_i64]; omega
          have k0 : ∀ V, Since wb V → V.cell? ⟨b, o + j, none⟩ = some (.int .i64 v) := fun V hV => ((HB2.out.trans (hV.mono HB2.out.size)).cell (p := ⟨b, o + j, none⟩) HBL.out).trans HK0.out
          have c_o0 : ∀ V, Since wb V → V.cell? ⟨g, 0, none⟩ = some (.int .i64 (5)) := fun V hV => (Ho_.out.from V hV).c0
          have c_o1 : ∀ V, Since wb V → V.cell? ⟨g, 1, none⟩ = some (.int .i64 (S)) := fun V hV => (Ho_.out.from V hV).c1
          have c_o2 : ∀ V, Since wb V → V.cell? ⟨g, 2, none⟩ = some (.int .i64 (H)) := fun V hV => (Ho_.out.from V hV).c2
          have c_o3 : ∀ V, Since wb V → V.cell? ⟨g, 3, none⟩ = some (.int .i64 (T2)) := fun V hV => (Ho_.out.from V hV).c3
          go_upto_region 14 with fail
          go_cut [11, 12] from 24 to 97 (fun u v wc => ∃ gb : Nat, u = .pointer (some ⟨gb, 0, none⟩) ∧ v = .int .i64 0 ∧ Hid (Below wb.heap.size wb wc) ∧ Hid (Bx wc gb ⟨5, S, H + m, T2⟩ 25))
          case first =>
            refine wp_region_since (by kernel_rfl) ?_
            have hS : Since wb (World.drew wb) := (Below.refl _ _).drew
            refine wpAnyH_take (i := 0) (oi := ⟨some 52, _, _, _, _, _⟩) (v := ?_) rfl (by kernel_rfl) (by kernel_rfl) (by kernel_rfl) (fun _ _ _ h => h) (Or.inl ⟨by rfl, ?_⟩) hS ?_
            rotate_left
            · intro W hW; go_simp; with_reducible rfl
            try simp only [Act.put, List.setIfInBounds_toArray, List.set_cons_zero, List.set_cons_succ]
            refine wpAnyH_take (i := 1) (oi := ⟨some 53, _, _, _, _, _⟩) (v := ?_) rfl (by kernel_rfl) (by kernel_rfl) (by kernel_rfl) (fun _ _ _ h => h) (Or.inl ⟨by rfl, ?_⟩) hS ?_
            rotate_left
            · intro W hW; go_simp; with_reducible rfl
            try simp only [Act.put, List.setIfInBounds_toArray, List.set_cons_zero, List.set_cons_succ]
            refine wpAnyH_take (i := 2) (oi := ⟨some 54, _, _, _, _, _⟩) (v := ?_) rfl (by kernel_rfl) (by kernel_rfl) (by kernel_rfl) (fun _ _ _ h => h) (Or.inl ⟨by rfl, ?_⟩) hS ?_
            rotate_left
            · intro W hW; go_simp; with_reducible rfl
            try simp only [Act.put, List.setIfInBounds_toArray, List.set_cons_zero, List.set_cons_succ]
            refine wpAnyH_take (i := 3) (oi := ⟨some 55, _, _, _, _, _⟩) (v := ?_) rfl (by kernel_rfl) (by kernel_rfl) (by kernel_rfl) (fun _ _ _ h => h) (Or.inl ⟨by rfl, ?_⟩) hS ?_
            rotate_left
            · intro W hW; go_simp; with_reducible rfl
            try simp only [Act.put, List.setIfInBounds_toArray, List.set_cons_zero, List.set_cons_succ]
            refine wpAnyH_take (i := 5) (oi := ⟨some 57, _, _, _, _, _⟩) (v := ?_) rfl (by kernel_rfl) (by kernel_rfl) (by kernel_rfl) (fun _ _ _ h => h) (Or.inl ⟨by rfl, ?_⟩) hS ?_
            rotate_left
            · intro W hW; go_simp; with_reducible rfl
            try simp only [Act.put, List.setIfInBounds_toArray, List.set_cons_zero, List.set_cons_succ]
            refine wpAnyH_take (i := 6) (oi := ⟨some 58, _, _, _, _, _⟩) (v := ?_) rfl (by kernel_rfl) (by kernel_rfl) (by kernel_rfl) (fun _ _ _ h => h) (Or.inl ⟨by rfl, ?_⟩) hS ?_
            rotate_left
            · intro W hW; go_simp; with_reducible rfl
            try simp only [Act.put, List.setIfInBounds_toArray, List.set_cons_zero, List.set_cons_succ]
            refine wpAnyH_take (i := 7) (oi := ⟨some 59, _, _, _, _, _⟩) (v := ?_) rfl (by kernel_rfl) (by kernel_rfl) (by kernel_rfl) (fun _ _ _ h => h) (Or.inl ⟨by rfl, ?_⟩) hS ?_
            rotate_left
            · intro W hW; go_simp; with_reducible rfl
            try simp only [Act.put, List.setIfInBounds_toArray, List.set_cons_zero, List.set_cons_succ]
            refine wpAnyH_take (i := 8) (oi := ⟨some 60, _, _, _, _, _⟩) (v := ?_) rfl (by kernel_rfl) (by kernel_rfl) (by kernel_rfl) (fun _ _ _ h => h) (Or.inl ⟨by rfl, ?_⟩) hS ?_
            rotate_left
            · intro W hW; go_simp; with_reducible rfl
            try simp only [Act.put, List.setIfInBounds_toArray, List.set_cons_zero, List.set_cons_succ]
            refine wpAnyH_take (i := 9) (oi := ⟨some 61, _, _, _, _, _⟩) (v := ?_) rfl (by kernel_rfl) (by kernel_rfl) (by kernel_rfl) (fun _ _ _ h => h) (Or.inl ⟨by rfl, ?_⟩) hS ?_
            rotate_left
            · intro W hW; go_simp; with_reducible rfl
            try simp only [Act.put, List.setIfInBounds_toArray, List.set_cons_zero, List.set_cons_succ]
            refine wpAnyH_take (i := 10) (oi := ⟨some 62, _, _, _, _, _⟩) (v := ?_) rfl (by kernel_rfl) (by kernel_rfl) (by kernel_rfl) (fun _ _ _ h => h) (Or.inl ⟨by rfl, ?_⟩) hS ?_
            rotate_left
            · intro W hW; go_simp; with_reducible rfl
            try simp only [Act.put, List.setIfInBounds_toArray, List.set_cons_zero, List.set_cons_succ]
            refine wpAnyH_ready (rs := [4, 17]) (by kernel_rfl) (by simp) ?_
            refine AllReadyH.cons (o := ⟨some 56, _, _, _, _, _⟩) rfl (fun Kr hKr => ?_) (AllReadyH.cons (o := ⟨some 11, _, _, _, _, _⟩) rfl (fun Kr hKr => ?_) AllReadyH.nil)
            · skip
              -- operation 4: a call
              go_simp
              refine (du _).mono ?_
              rintro e VU ⟨rfl, hx⟩
              try replace HAL := Lib.hid (HAL.out.below hx)
              show Kr _ _
              refine hKr.out _ _ ?_ (fun _ => ?_)
              · exact since_trans hS hx
              clear hKr Kr
              replace hS : Since wb VU := since_trans hS hx
              try simp only [Act.put, List.setIfInBounds_toArray, List.set_cons_zero, List.set_cons_succ]
              refine wpAnyH_take (i := 11) (oi := ⟨some 63, _, _, _, _, _⟩) (v := ?_) rfl (by kernel_rfl) (by kernel_rfl) (by kernel_rfl) (fun _ _ _ h => h) (Or.inl ⟨by rfl, ?_⟩) hS ?_
              rotate_left
              · intro W hW; go_simp; with_reducible rfl
              try simp only [Act.put, List.setIfInBounds_toArray, List.set_cons_zero, List.set_cons_succ]
              refine wpAnyH_take (i := 12) (oi := ⟨some 64, _, _, _, _, _⟩) (v := ?_) rfl (by kernel_rfl) (by kernel_rfl) (by kernel_rfl) (fun _ _ _ h => h) (Or.inl ⟨by rfl, ?_⟩) hS ?_
              rotate_left
              · intro W hW; go_simp; with_reducible rfl
              try simp only [Act.put, List.setIfInBounds_toArray, List.set_cons_zero, List.set_cons_succ]
              refine wpAnyH_ready (rs := [13, 17]) (by kernel_rfl) (by simp) ?_
              refine AllReadyH.cons (o := ⟨some 65, _, _, _, _, _⟩) rfl (fun Kr hKr => ?_) (AllReadyH.cons (o := ⟨some 11, _, _, _, _, _⟩) rfl (fun Kr hKr => ?_) AllReadyH.nil)
              · skip
                -- operation 13: a call
                go_simp
                refine (dd _).mono ?_
                rintro e VD ⟨rfl, hx⟩
                try replace HAL := Lib.hid (HAL.out.below hx)
                show Kr _ _
                refine hKr.out _ _ ?_ (fun _ => ?_)
                · exact since_trans hS hx
                clear hKr Kr
                replace hS : Since wb VD := since_trans hS hx
                try simp only [Act.put, List.setIfInBounds_toArray, List.set_cons_zero, List.set_cons_succ]
                refine wpAnyH_take (i := 14) (oi := ⟨some 51, _, _, _, _, _⟩) (v := ?_) rfl (by kernel_rfl) (by kernel_rfl) (by kernel_rfl) (fun _ _ _ h => h) (Or.inl ⟨by rfl, ?_⟩) hS ?_
                rotate_left
                · intro W hW; go_simp; with_reducible rfl
                try simp only [Act.put, List.setIfInBounds_toArray, List.set_cons_zero, List.set_cons_succ]
                refine wpAnyH_take (i := 15) (oi := ⟨some 66, _, _, _, _, _⟩) (v := ?_) rfl (by kernel_rfl) (by kernel_rfl) (by kernel_rfl) (fun _ _ _ h => h) (Or.inl ⟨by rfl, ?_⟩) hS ?_
                rotate_left
                · intro W hW; go_simp; with_reducible rfl
                try simp only [Act.put, List.setIfInBounds_toArray, List.set_cons_zero, List.set_cons_succ]
                refine wpAnyH_take (i := 16) (oi := ⟨some 67, _, _, _, _, _⟩) (v := ?_) rfl (by kernel_rfl) (by kernel_rfl) (by kernel_rfl) (fun _ _ _ h => h) (Or.inl ⟨by rfl, ?_⟩) hS ?_
                rotate_left
                · intro W hW; go_simp; with_reducible rfl
                try simp only [Act.put, List.setIfInBounds_toArray, List.set_cons_zero, List.set_cons_succ]
                refine wpAnyH_ready (rs := [17]) (by kernel_rfl) (by simp) ?_
                refine AllReadyH.cons (o := ⟨some 11, _, _, _, _, _⟩) rfl (fun Kr hKr => ?_) AllReadyH.nil
                -- operation 17: a step
                rw [if_pos (by kernel_rfl)]
                refine wp_alloc_ring rfl ?_
                intro VA gb hbx hx hle
                have HAL := Lib.hid hbx
                have HLE := Lib.hid (Nat.le_trans hS.size hle)
                show Kr _ _
                refine hKr.out _ _ ?_ (fun _ => ?_)
                · exact since_trans hS hx
                clear hKr Kr
                replace hS : Since wb VA := since_trans hS hx
                try simp only [Act.put, List.setIfInBounds_toArray, List.set_cons_zero, List.set_cons_succ]
                refine wpAnyH_ready (rs := [18]) (by kernel_rfl) (by simp) ?_
                refine AllReadyH.cons (o := ⟨none, _, _, _, _, _⟩) rfl (fun Kr hKr => ?_) AllReadyH.nil
                -- operation 18: a step
                rw [if_pos (by kernel_rfl)]
                refine wp_store_ring (q := ⟨5, S, H + m, T2⟩) (.tmp 11) (.tmp 66) rfl rfl rfl HAL.out ?_
                intro VS hbx hbut
                have HBX := Lib.hid hbx
                show Kr _ _
                refine hKr.out _ _ ?_ (fun _ => ?_)
                · exact hbut.below hS hS.size HLE.out
                clear hKr Kr
                replace hS : Since wb VS := hbut.below hS hS.size HLE.out
                try simp only [Act.put]
                refine wpAnyH_take (i := 19) (oi := ⟨some 12, _, _, _, _, _⟩) (v := ?_) rfl (by kernel_rfl) (by kernel_rfl) (by kernel_rfl) (fun _ _ _ h => h) (Or.inl ⟨by rfl, ?_⟩) hS ?_
                rotate_left
                · intro W hW; go_simp; with_reducible rfl
                try simp only [Act.put, List.setIfInBounds_toArray, List.set_cons_zero, List.set_cons_succ]
                refine wpAnyH_done (by kernel_rfl) ?_ _
                go_wp2_with fail
                go_meet
                case rel => exact ⟨gb, rfl, rfl, hS, HBX.out⟩
              · skip
                -- operation 17: a step
                rw [if_pos (by kernel_rfl)]
                refine wp_alloc_ring rfl ?_
                intro VA gb hbx hx hle
                have HAL := Lib.hid hbx
                have HLE := Lib.hid (Nat.le_trans hS.size hle)
                show Kr _ _
                refine hKr.out _ _ ?_ (fun _ => ?_)
                · exact since_trans hS hx
                clear hKr Kr
                replace hS : Since wb VA := since_trans hS hx
                try simp only [Act.put, List.setIfInBounds_toArray, List.set_cons_zero, List.set_cons_succ]
                refine wpAnyH_ready (rs := [13]) (by kernel_rfl) (by simp) ?_
                refine AllReadyH.cons (o := ⟨some 65, _, _, _, _, _⟩) rfl (fun Kr hKr => ?_) AllReadyH.nil
                -- operation 13: a call
                go_simp
                refine (dd _).mono ?_
                rintro e VD ⟨rfl, hx⟩
                try replace HAL := Lib.hid (HAL.out.below hx)
                show Kr _ _
                refine hKr.out _ _ ?_ (fun _ => ?_)
                · exact since_trans hS hx
                clear hKr Kr
                replace hS : Since wb VD := since_trans hS hx
                try simp only [Act.put, List.setIfInBounds_toArray, List.set_cons_zero, List.set_cons_succ]
                refine wpAnyH_take (i := 14) (oi := ⟨some 51, _, _, _, _, _⟩) (v := ?_) rfl (by kernel_rfl) (by kernel_rfl) (by kernel_rfl) (fun _ _ _ h => h) (Or.inl ⟨by rfl, ?_⟩) hS ?_
                rotate_left
                · intro W hW; go_simp; with_reducible rfl
                try simp only [Act.put, List.setIfInBounds_toArray, List.set_cons_zero, List.set_cons_succ]
                refine wpAnyH_take (i := 15) (oi := ⟨some 66, _, _, _, _, _⟩) (v := ?_) rfl (by kernel_rfl) (by kernel_rfl) (by kernel_rfl) (fun _ _ _ h => h) (Or.inl ⟨by rfl, ?_⟩) hS ?_
                rotate_left
                · intro W hW; go_simp; with_reducible rfl
                try simp only [Act.put, List.setIfInBounds_toArray, List.set_cons_zero, List.set_cons_succ]
                refine wpAnyH_take (i := 16) (oi := ⟨some 67, _, _, _, _, _⟩) (v := ?_) rfl (by kernel_rfl) (by kernel_rfl) (by kernel_rfl) (fun _ _ _ h => h) (Or.inl ⟨by rfl, ?_⟩) hS ?_
                rotate_left
                · intro W hW; go_simp; with_reducible rfl
                try simp only [Act.put, List.setIfInBounds_toArray, List.set_cons_zero, List.set_cons_succ]
                refine wpAnyH_ready (rs := [18]) (by kernel_rfl) (by simp) ?_
                refine AllReadyH.cons (o := ⟨none, _, _, _, _, _⟩) rfl (fun Kr hKr => ?_) AllReadyH.nil
                -- operation 18: a step
                rw [if_pos (by kernel_rfl)]
                refine wp_store_ring (q := ⟨5, S, H + m, T2⟩) (.tmp 11) (.tmp 66) rfl rfl rfl HAL.out ?_
                intro VS hbx hbut
                have HBX := Lib.hid hbx
                show Kr _ _
                refine hKr.out _ _ ?_ (fun _ => ?_)
                · exact hbut.below hS hS.size HLE.out
                clear hKr Kr
                replace hS : Since wb VS := hbut.below hS hS.size HLE.out
                try simp only [Act.put]
                refine wpAnyH_take (i := 19) (oi := ⟨some 12, _, _, _, _, _⟩) (v := ?_) rfl (by kernel_rfl) (by kernel_rfl) (by kernel_rfl) (fun _ _ _ h => h) (Or.inl ⟨by rfl, ?_⟩) hS ?_
                rotate_left
                · intro W hW; go_simp; with_reducible rfl
                try simp only [Act.put, List.setIfInBounds_toArray, List.set_cons_zero, List.set_cons_succ]
                refine wpAnyH_done (by kernel_rfl) ?_ _
                go_wp2_with fail
                go_meet
                case rel => exact ⟨gb, rfl, rfl, hS, HBX.out⟩
            · skip
              -- operation 17: a step
              rw [if_pos (by kernel_rfl)]
              refine wp_alloc_ring rfl ?_
              intro VA gb hbx hx hle
              have HAL := Lib.hid hbx
              have HLE := Lib.hid (Nat.le_trans hS.size hle)
              show Kr _ _
              refine hKr.out _ _ ?_ (fun _ => ?_)
              · exact since_trans hS hx
              clear hKr Kr
              replace hS : Since wb VA := since_trans hS hx
              try simp only [Act.put, List.setIfInBounds_toArray, List.set_cons_zero, List.set_cons_succ]
              refine wpAnyH_ready (rs := [4]) (by kernel_rfl) (by simp) ?_
              refine AllReadyH.cons (o := ⟨some 56, _, _, _, _, _⟩) rfl (fun Kr hKr => ?_) AllReadyH.nil
              -- operation 4: a call
              go_simp
              refine (du _).mono ?_
              rintro e VU ⟨rfl, hx⟩
              try replace HAL := Lib.hid (HAL.out.below hx)
              show Kr _ _
              refine hKr.out _ _ ?_ (fun _ => ?_)
              · exact since_trans hS hx
              clear hKr Kr
              replace hS : Since wb VU := since_trans hS hx
              try simp only [Act.put, List.setIfInBounds_toArray, List.set_cons_zero, List.set_cons_succ]
              refine wpAnyH_take (i := 11) (oi := ⟨some 63, _, _, _, _, _⟩) (v := ?_) rfl (by kernel_rfl) (by kernel_rfl) (by kernel_rfl) (fun _ _ _ h => h) (Or.inl ⟨by rfl, ?_⟩) hS ?_
              rotate_left
              · intro W hW; go_simp; with_reducible rfl
              try simp only [Act.put, List.setIfInBounds_toArray, List.set_cons_zero, List.set_cons_succ]
              refine wpAnyH_take (i := 12) (oi := ⟨some 64, _, _, _, _, _⟩) (v := ?_) rfl (by kernel_rfl) (by kernel_rfl) (by kernel_rfl) (fun _ _ _ h => h) (Or.inl ⟨by rfl, ?_⟩) hS ?_
              rotate_left
              · intro W hW; go_simp; with_reducible rfl
              try simp only [Act.put, List.setIfInBounds_toArray, List.set_cons_zero, List.set_cons_succ]
              refine wpAnyH_ready (rs := [13]) (by kernel_rfl) (by simp) ?_
              refine AllReadyH.cons (o := ⟨some 65, _, _, _, _, _⟩) rfl (fun Kr hKr => ?_) AllReadyH.nil
              -- operation 13: a call
              go_simp
              refine (dd _).mono ?_
              rintro e VD ⟨rfl, hx⟩
              try replace HAL := Lib.hid (HAL.out.below hx)
              show Kr _ _
              refine hKr.out _ _ ?_ (fun _ => ?_)
              · exact since_trans hS hx
              clear hKr Kr
              replace hS : Since wb VD := since_trans hS hx
              try simp only [Act.put, List.setIfInBounds_toArray, List.set_cons_zero, List.set_cons_succ]
              refine wpAnyH_take (i := 14) (oi := ⟨some 51, _, _, _, _, _⟩) (v := ?_) rfl (by kernel_rfl) (by kernel_rfl) (by kernel_rfl) (fun _ _ _ h => h) (Or.inl ⟨by rfl, ?_⟩) hS ?_
              rotate_left
              · intro W hW; go_simp; with_reducible rfl
              try simp only [Act.put, List.setIfInBounds_toArray, List.set_cons_zero, List.set_cons_succ]
              refine wpAnyH_take (i := 15) (oi := ⟨some 66, _, _, _, _, _⟩) (v := ?_) rfl (by kernel_rfl) (by kernel_rfl) (by kernel_rfl) (fun _ _ _ h => h) (Or.inl ⟨by rfl, ?_⟩) hS ?_
              rotate_left
              · intro W hW; go_simp; with_reducible rfl
              try simp only [Act.put, List.setIfInBounds_toArray, List.set_cons_zero, List.set_cons_succ]
              refine wpAnyH_take (i := 16) (oi := ⟨some 67, _, _, _, _, _⟩) (v := ?_) rfl (by kernel_rfl) (by kernel_rfl) (by kernel_rfl) (fun _ _ _ h => h) (Or.inl ⟨by rfl, ?_⟩) hS ?_
              rotate_left
              · intro W hW; go_simp; with_reducible rfl
              try simp only [Act.put, List.setIfInBounds_toArray, List.set_cons_zero, List.set_cons_succ]
              refine wpAnyH_ready (rs := [18]) (by kernel_rfl) (by simp) ?_
              refine AllReadyH.cons (o := ⟨none, _, _, _, _, _⟩) rfl (fun Kr hKr => ?_) AllReadyH.nil
              -- operation 18: a step
              rw [if_pos (by kernel_rfl)]
              refine wp_store_ring (q := ⟨5, S, H + m, T2⟩) (.tmp 11) (.tmp 66) rfl rfl rfl HAL.out ?_
              intro VS hbx hbut
              have HBX := Lib.hid hbx
              show Kr _ _
              refine hKr.out _ _ ?_ (fun _ => ?_)
              · exact hbut.below hS hS.size HLE.out
              clear hKr Kr
              replace hS : Since wb VS := hbut.below hS hS.size HLE.out
              try simp only [Act.put]
              refine wpAnyH_take (i := 19) (oi := ⟨some 12, _, _, _, _, _⟩) (v := ?_) rfl (by kernel_rfl) (by kernel_rfl) (by kernel_rfl) (fun _ _ _ h => h) (Or.inl ⟨by rfl, ?_⟩) hS ?_
              rotate_left
              · intro W hW; go_simp; with_reducible rfl
              try simp only [Act.put, List.setIfInBounds_toArray, List.set_cons_zero, List.set_cons_succ]
              refine wpAnyH_done (by kernel_rfl) ?_ _
              go_wp2_with fail
              go_meet
              case rel => exact ⟨gb, rfl, rfl, hS, HBX.out⟩
          case rest =>
            obtain ⟨gb, rfl, rfl, HW, Hb_⟩ := hcut
            have HB := Lib.hid (below_two HB2.out HW.out)
            replace Ho_ := Lib.hid (Ho_.out.below HW.out)
            clear c_o0 c_o1 c_o2 c_o3 k0 HB2 HW du dd hwm eN eX hm
            have hs := sane_any ⟨5, S, H + m, T2⟩
            rw [Rg.sane_iff.2 HOK3.out] at hs
            have x0 := Ho_.out.c0
            have x1 := Ho_.out.c1
            have x2 := Ho_.out.c2
            have x3 := Ho_.out.c3
            have y0 := Hb_.out.c0
            have y1 := Hb_.out.c1
            have y2 := Hb_.out.c2
            have y3 := Hb_.out.c3
            go_wp2_with fail
            refine (hs _).mono ?_
            rintro e w3 ⟨rfl, hb⟩
            replace HB := Lib.hid (below_two HB.out hb)
            replace Ho_ := Lib.hid (Ho_.out.below hb)
            replace Hb_ := Lib.hid (Hb_.out.below hb)
            clear hb x0 x1 x2 x3 y0 y1 y2 y3 hs
            have x0 := Ho_.out.c0
            have x1 := Ho_.out.c1
            have x2 := Ho_.out.c2
            have x3 := Ho_.out.c3
            have y0 := Hb_.out.c0
            have y1 := Hb_.out.c1
            have y2 := Hb_.out.c2
            have y3 := Hb_.out.c3
            have f0 := Ho_.out.fr 0
            have f1 := Ho_.out.fr 1
            have f2 := Ho_.out.fr 2
            have f3 := Ho_.out.fr 3
            obtain ⟨b1, b2⟩ := bx_four Ho_.out ⟨5, S, H + m, T2⟩
            replace HB := Lib.hid (b2.below HB.out HB.out.size HG.out)
            replace Ho_ := Lib.hid b1
            clear b1 b2
            go_wp2_with fail
            clear x0 x1 x2 x3 y0 y1 y2 y3 f0 f1 f2 f3 Hb_
            replace HB : Hid (Below w.heap.size w ((((w3.setCell ⟨g, 0, none⟩ (.int .i64 5)).setCell ⟨g, 1, none⟩ (.int .i64 S)).setCell ⟨g, 2, none⟩ (.int .i64 (H + m))).setCell ⟨g, 3, none⟩ (.int .i64 T2))) := HB
            replace Ho_ : Hid (Bx ((((w3.setCell ⟨g, 0, none⟩ (.int .i64 5)).setCell ⟨g, 1, none⟩ (.int .i64 S)).setCell ⟨g, 2, none⟩ (.int .i64 (H + m))).setCell ⟨g, 3, none⟩ (.int .i64 T2)) g ⟨5, S, H + m, T2⟩ 25) := Ho_
            generalize (((w3.setCell ⟨g, 0, none⟩ (.int .i64 5)).setCell ⟨g, 1, none⟩ (.int .i64 S)).setCell ⟨g, 2, none⟩ (.int .i64 (H + m))).setCell ⟨g, 3, none⟩ (.int .i64 T2) = wk at *
            have x2 := Ho_.out.c2
            have x3 := Ho_.out.c3
            go_loopw [13] (fun u wr => ∃ p : Int, u = .int .i64 p ∧ H + m ≤ p ∧ p ≤ T2 ∧ Hid (Below wk.heap.size wk wr)) (fun u _ => (T2 - intOf u).toNat)
            case atStart => exact ⟨H + m, rfl, Int.le_refl _, by omega, Below.refl _ _⟩
            case round =>
              clear x2 x3
              obtain ⟨p, rfl, hp1, hp2, HP⟩ := hrel
              obtain ⟨wp_, rfl⟩ : ∃ wp_, wp_ = wr := ⟨_, rfl⟩
              have x2 := (Ho_.out.below HP.out).c2
              have x3 := (Ho_.out.below HP.out).c3
              rcases Int.lt_or_le p T2 with hlt2 | hge2
              · have hdp : decide (p < T2) = true := decide_eq_true hlt2
                go_wp2_with fail
                clear x2 x3
                go_loopw [14] (fun u wr => ∃ q : Int, u = .int .i64 q ∧ H + m ≤ q ∧ q ≤ p ∧ Hid (Below wk.heap.size wk wr)) (fun u _ => (p - intOf u).toNat)
                case atStart => exact ⟨H + m, rfl, Int.le_refl _, hp1, HP.out⟩
                case round =>
                  obtain ⟨y, rfl, hy1, hy2, HY⟩ := hrel
                  obtain ⟨wy, rfl⟩ : ∃ wy, wy = wr := ⟨_, rfl⟩
                  rcases Int.lt_or_le y p with hlt3 | hge3
                  · have hdy : decide (y < p) = true := decide_eq_true hlt3
                    have e1 := sector_any ⟨5, S, H + m, T2⟩ p
                    have e2 := sector_any ⟨5, S, H + m, T2⟩ y
                    rw [sector_ok HOK3.out (by omega) (by omega)] at e1 e2
                    simp only at e1 e2
                    have hxy : (5 + p % S == 5 + y % S) = false := by
                      rw [beq_eq_false_iff_ne]
                      intro h
                      have h3 := (near (p := y) (d := p - y) (S := S) (by omega) (by omega)).1 (by rw [show y + (p - y) = p from by omega]; omega)
                      omega
                    have c_o0 : ∀ V, Since wy V → V.cell? ⟨g, 0, none⟩ = some (.int .i64 (5)) := fun V hV => (Ho_.out.below (below_two HY.out hV)).c0
                    have c_o1 : ∀ V, Since wy V → V.cell? ⟨g, 1, none⟩ = some (.int .i64 (S)) := fun V hV => (Ho_.out.below (below_two HY.out hV)).c1
                    have c_o2 : ∀ V, Since wy V → V.cell? ⟨g, 2, none⟩ = some (.int .i64 (H + m)) := fun V hV => (Ho_.out.below (below_two HY.out hV)).c2
                    have c_o3 : ∀ V, Since wy V → V.cell? ⟨g, 3, none⟩ = some (.int .i64 (T2)) := fun V hV => (Ho_.out.below (below_two HY.out hV)).c3
                    go_wp2_with fail
                    refine wp_region_since (by kernel_rfl) ?_
                    have hS : Since wy (World.drew wy) := (Below.refl _ _).drew
                    refine wpAnyH_take (i := 0) (oi := ⟨some 91, _, _, _, _, _⟩) (v := ?_) rfl (by kernel_rfl) (by kernel_rfl) (by kernel_rfl) (fun _ _ _ h => h) (Or.inl ⟨by rfl, ?_⟩) hS ?_
                    rotate_left
                    · intro W hW; go_simp; with_reducible rfl
                    try simp only [Act.put, List.setIfInBounds_toArray, List.set_cons_zero, List.set_cons_succ]
                    refine wpAnyH_take (i := 1) (oi := ⟨some 92, _, _, _, _, _⟩) (v := ?_) rfl (by kernel_rfl) (by kernel_rfl) (by kernel_rfl) (fun _ _ _ h => h) (Or.inl ⟨by rfl, ?_⟩) hS ?_
                    rotate_left
                    · intro W hW; go_simp; with_reducible rfl
                    try simp only [Act.put, List.setIfInBounds_toArray, List.set_cons_zero, List.set_cons_succ]
                    refine wpAnyH_take (i := 3) (oi := ⟨some 94, _, _, _, _, _⟩) (v := ?_) rfl (by kernel_rfl) (by kernel_rfl) (by kernel_rfl) (fun _ _ _ h => h) (Or.inl ⟨by rfl, ?_⟩) hS ?_
                    rotate_left
                    · intro W hW; go_simp; with_reducible rfl
                    try simp only [Act.put, List.setIfInBounds_toArray, List.set_cons_zero, List.set_cons_succ]
                    refine wpAnyH_take (i := 4) (oi := ⟨some 95, _, _, _, _, _⟩) (v := ?_) rfl (by kernel_rfl) (by kernel_rfl) (by kernel_rfl) (fun _ _ _ h => h) (Or.inl ⟨by rfl, ?_⟩) hS ?_
                    rotate_left
                    · intro W hW; go_simp; with_reducible rfl
                    try simp only [Act.put, List.setIfInBounds_toArray, List.set_cons_zero, List.set_cons_succ]
                    refine wpAnyH_ready (rs := [2]) (by kernel_rfl) (by simp) ?_
                    refine AllReadyH.cons (o := ⟨some 93, _, _, _, _, _⟩) rfl (fun Kr hKr => ?_) AllReadyH.nil
                    -- operation 2: a call
                    go_simp
                    refine (e1 _).mono ?_
                    rintro e V0 ⟨rfl, hx⟩
                    show Kr _ _
                    refine hKr.out _ _ ?_ (fun _ => ?_)
                    · exact since_trans hS hx
                    clear hKr Kr
                    replace hS : Since wy V0 := since_trans hS hx
                    try simp only [Act.put, List.setIfInBounds_toArray, List.set_cons_zero, List.set_cons_succ]
                    refine wpAnyH_ready (rs := [5]) (by kernel_rfl) (by simp) ?_
                    refine AllReadyH.cons (o := ⟨some 96, _, _, _, _, _⟩) rfl (fun Kr hKr => ?_) AllReadyH.nil
                    -- operation 5: a call
                    go_simp
                    refine (e2 _).mono ?_
                    rintro e V1 ⟨rfl, hx⟩
                    show Kr _ _
                    refine hKr.out _ _ ?_ (fun _ => ?_)
                    · exact since_trans hS hx
                    clear hKr Kr
                    replace hS : Since wy V1 := since_trans hS hx
                    try simp only [Act.put, List.setIfInBounds_toArray, List.set_cons_zero, List.set_cons_succ]
                    refine wpAnyH_take (i := 6) (oi := ⟨some 97, _, _, _, _, _⟩) (v := ?_) rfl (by kernel_rfl) (by kernel_rfl) (by kernel_rfl) (fun _ _ _ h => h) (Or.inl ⟨by rfl, ?_⟩) hS ?_
                    rotate_left
                    · intro W hW; go_simp; with_reducible rfl
                    try simp only [Act.put, List.setIfInBounds_toArray, List.set_cons_zero, List.set_cons_succ]
                    refine wpAnyH_done (by kernel_rfl) ?_ _
                    go_wp2_with fail
                    refine ⟨⟨y + 1, by go_num, by omega, by omega, below_two HY.out hS⟩, by simp [intOf]; omega⟩
                  · obtain rfl : y = p := by omega
                    have hdy : decide (y < y) = false := decide_eq_false (by omega)
                    go_wp2_with fail
                    refine ⟨⟨y + 1, by go_num, by omega, by omega, HY.out⟩, by simp [intOf]; omega⟩
              · obtain rfl : p = T2 := by omega
                have hdp : decide (p < p) = false := decide_eq_false (by omega)
                go_wp2_with fail
                refine ⟨⟨j + 1, H + m, p, by go_num, by omega, h2, HOK3.out, below_two HB.out HP.out, Ho_.out.below HP.out⟩, by simp [intOf]; omega⟩
      · obtain rfl : j = len := by omega
        have hdj : decide ((j : Int) < (j : Int)) = false := decide_eq_false (by omega)
        have hdj2 : decide (j < j) = false := decide_eq_false (by omega)
        obtain ⟨_, _, _, _, q5, q6, q7, q8⟩ := HOK.out
        simp only at q5 q6 q7 q8
        have du := used_any ⟨5, S, H, T⟩
        rw [used_ok HOK.out] at du
        have hf := free_any ⟨5, S, H, T⟩
        rw [free_ok HOK.out] at hf
        simp only at du hf
        have hw : IntKind.i64.wrap (T - H + (S - (T - H))) = S := by rw [IntKind.wrap_i64]; omega
        have c_o0 : ∀ V, Since wa V → V.cell? ⟨g, 0, none⟩ = some (.int .i64 (5)) := fun V hV => (Ho_.out.from V hV).c0
        have c_o1 : ∀ V, Since wa V → V.cell? ⟨g, 1, none⟩ = some (.int .i64 (S)) := fun V hV => (Ho_.out.from V hV).c1
        have c_o2 : ∀ V, Since wa V → V.cell? ⟨g, 2, none⟩ = some (.int .i64 (H)) := fun V hV => (Ho_.out.from V hV).c2
        have c_o3 : ∀ V, Since wa V → V.cell? ⟨g, 3, none⟩ = some (.int .i64 (T)) := fun V hV => (Ho_.out.from V hV).c3
        go_wp2_with fail
        refine wp_region_since (by kernel_rfl) ?_
        have hS : Since wa (World.drew wa) := (Below.refl _ _).drew
        refine wpAnyH_take (i := 0) (oi := ⟨some 98, _, _, _, _, _⟩) (v := ?_) rfl (by kernel_rfl) (by kernel_rfl) (by kernel_rfl) (fun _ _ _ h => h) (Or.inl ⟨by rfl, ?_⟩) hS ?_
        rotate_left
        · intro W hW; go_simp; with_reducible rfl
        try simp only [Act.put, List.setIfInBounds_toArray, List.set_cons_zero, List.set_cons_succ]
        refine wpAnyH_take (i := 1) (oi := ⟨some 99, _, _, _, _, _⟩) (v := ?_) rfl (by kernel_rfl) (by kernel_rfl) (by kernel_rfl) (fun _ _ _ h => h) (Or.inl ⟨by rfl, ?_⟩) hS ?_
        rotate_left
        · intro W hW; go_simp; with_reducible rfl
        try simp only [Act.put, List.setIfInBounds_toArray, List.set_cons_zero, List.set_cons_succ]
        refine wpAnyH_take (i := 2) (oi := ⟨some 100, _, _, _, _, _⟩) (v := ?_) rfl (by kernel_rfl) (by kernel_rfl) (by kernel_rfl) (fun _ _ _ h => h) (Or.inl ⟨by rfl, ?_⟩) hS ?_
        rotate_left
        · intro W hW; go_simp; with_reducible rfl
        try simp only [Act.put, List.setIfInBounds_toArray, List.set_cons_zero, List.set_cons_succ]
        refine wpAnyH_take (i := 4) (oi := ⟨some 102, _, _, _, _, _⟩) (v := ?_) rfl (by kernel_rfl) (by kernel_rfl) (by kernel_rfl) (fun _ _ _ h => h) (Or.inl ⟨by rfl, ?_⟩) hS ?_
        rotate_left
        · intro W hW; go_simp; with_reducible rfl
        try simp only [Act.put, List.setIfInBounds_toArray, List.set_cons_zero, List.set_cons_succ]
        refine wpAnyH_take (i := 7) (oi := ⟨some 105, _, _, _, _, _⟩) (v := ?_) rfl (by kernel_rfl) (by kernel_rfl) (by kernel_rfl) (fun _ _ _ h => h) (Or.inl ⟨by rfl, ?_⟩) hS ?_
        rotate_left
        · intro W hW; go_simp; with_reducible rfl
        try simp only [Act.put, List.setIfInBounds_toArray, List.set_cons_zero, List.set_cons_succ]
        refine wpAnyH_take (i := 8) (oi := ⟨some 106, _, _, _, _, _⟩) (v := ?_) rfl (by kernel_rfl) (by kernel_rfl) (by kernel_rfl) (fun _ _ _ h => h) (Or.inl ⟨by rfl, ?_⟩) hS ?_
        rotate_left
        · intro W hW; go_simp; with_reducible rfl
        try simp only [Act.put, List.setIfInBounds_toArray, List.set_cons_zero, List.set_cons_succ]
        refine wpAnyH_ready (rs := [3]) (by kernel_rfl) (by simp) ?_
        refine AllReadyH.cons (o := ⟨some 101, _, _, _, _, _⟩) rfl (fun Kr hKr => ?_) AllReadyH.nil
        -- operation 3: a call
        go_simp
        refine (du _).mono ?_
        rintro e V0 ⟨rfl, hx⟩
        show Kr _ _
        refine hKr.out _ _ ?_ (fun _ => ?_)
        · exact since_trans hS hx
        clear hKr Kr
        replace hS : Since wa V0 := since_trans hS hx
        try simp only [Act.put, List.setIfInBounds_toArray, List.set_cons_zero, List.set_cons_succ]
        refine wpAnyH_ready (rs := [5]) (by kernel_rfl) (by simp) ?_
        refine AllReadyH.cons (o := ⟨some 103, _, _, _, _, _⟩) rfl (fun Kr hKr => ?_) AllReadyH.nil
        -- operation 5: a call
        go_simp
        refine (hf _).mono ?_
        rintro e V1 ⟨rfl, hx⟩
        show Kr _ _
        refine hKr.out _ _ ?_ (fun _ => ?_)
        · exact since_trans hS hx
        clear hKr Kr
        replace hS : Since wa V1 := since_trans hS hx
        try simp only [Act.put, List.setIfInBounds_toArray, List.set_cons_zero, List.set_cons_succ]
        refine wpAnyH_take (i := 6) (oi := ⟨some 104, _, _, _, _, _⟩) (v := ?_) rfl (by kernel_rfl) (by kernel_rfl) (by kernel_rfl) (fun _ _ _ h => h) (Or.inl ⟨by rfl, ?_⟩) hS ?_
        rotate_left
        · intro W hW; go_simp; with_reducible rfl
        try simp only [Act.put, List.setIfInBounds_toArray, List.set_cons_zero, List.set_cons_succ]
        refine wpAnyH_take (i := 9) (oi := ⟨some 107, _, _, _, _, _⟩) (v := ?_) rfl (by kernel_rfl) (by kernel_rfl) (by kernel_rfl) (fun _ _ _ h => h) (Or.inl ⟨by rfl, ?_⟩) hS ?_
        rotate_left
        · intro W hW; go_simp; with_reducible rfl
        try simp only [Act.put, List.setIfInBounds_toArray, List.set_cons_zero, List.set_cons_succ]
        refine wpAnyH_take (i := 10) (oi := ⟨some 108, _, _, _, _, _⟩) (v := ?_) rfl (by kernel_rfl) (by kernel_rfl) (by kernel_rfl) (fun _ _ _ h => h) (Or.inl ⟨by rfl, ?_⟩) hS ?_
        rotate_left
        · intro W hW; go_simp; with_reducible rfl
        try simp only [Act.put, List.setIfInBounds_toArray, List.set_cons_zero, List.set_cons_succ]
        refine wpAnyH_take (i := 11) (oi := ⟨some 4, _, _, _, _, _⟩) (v := ?_) rfl (by kernel_rfl) (by kernel_rfl) (by kernel_rfl) (fun _ _ _ h => h) (Or.inl ⟨by rfl, ?_⟩) hS ?_
        rotate_left
        · intro W hW; go_simp; with_reducible rfl
        try simp only [Act.put, List.setIfInBounds_toArray, List.set_cons_zero, List.set_cons_succ]
        refine wpAnyH_done (by kernel_rfl) ?_ _
        go_wp2_with fail
        go_ret
        exact ⟨rfl, below_two HB.out hS⟩
  · have hd : decide ((len : Int) > 100) = true := decide_eq_true (by omega)
    have hd2 : decide (len > 100) = true := decide_eq_true (by omega)
    go_enter Try.func7, Try.ntmps7
    go_wp2_with fail
    refine (awake_any w).mono ?_
    rintro e w0 ⟨rfl, hb0⟩
    go_wp2_with fail
    go_ret
    exact ⟨rfl, hb0⟩

end Go.Proofs.Ytkdppepeenokbaa
