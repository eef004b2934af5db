/-
  The document's Sum and Reach.
-/
import Derived.Test.YtogngghfdcpeaaaRw
import Derived.Test.YtogngghfdcpeaaaSr
namespace Go.Proofs.Ytogngghfdcpeaaa
set_option maxRecDepth 100000
set_option linter.unusedVariables false
set_option linter.unusedSimpArgs false
open Go.RowKit

set_option maxHeartbeats 1000000 in
theorem refreach_any (v : Int) (hv : okI v) (A : Option Addr) (n c : Nat) (l : List Int) (w : World) (hl : Ls w A n l) :
    Calls Try.prog 51 #[.int .i64 v, .slice A n c] w fun e w' => e = .returned (reV v l) ∧ Below w.heap.size w w' := by
  have HN := Lib.hid hl.len
  have HZ := Lib.hid (Bk.new w (spC 0 0) 63)
  have HB := Lib.hid (below_new w (.cells (spC 0 0) 63))
  have z0 := HZ.out.s0
  have z1 := HZ.out.s1
  have f0 := HZ.out.fr 0
  have f1 := HZ.out.fr 1
  rcases Nat.lt_or_ge 4096 n with hbig | hfew
  · have hd : decide ((4096 : Int) < (n : Int)) = true := decide_eq_true (by omega)
    have hd2 : decide (4096 < n) = true := decide_eq_true hbig
    have HE := Lib.hid (reachE_many (v := v) (l := l) (by rw [hl.len]; exact hbig))
    obtain ⟨hL, hH⟩ := reachLH_no (v := v) (l := l) (by rw [HE.out]; decide)
    have HL := Lib.hid hL
    have HH := Lib.hid hH
    clear hl hL hH
    unfold reV
    rw [HL.out, HH.out, HE.out]
    go_enter Try.func51, Try.ntmps51
    go_wp2_with fail
    exact bodyPost_ret (v := .tuple #[spV 0 0, .int .i64 13]) (by rw [results_cell_tmp rfl]; go_simp; first | done | exact ⟨rfl, rfl⟩) rfl ⟨rfl, HB.out⟩
  · have hd : decide ((4096 : Int) < (n : Int)) = false := decide_eq_false (by omega)
    have hd2 : decide (4096 < n) = false := decide_eq_false (by omega)
    have HE := Lib.hid (reachE_few (v := v) (l := l) (by rw [hl.len]; exact hfew))
    have HYE := Lib.hid (fun h => (reachLH_yes (v := v) (l := l) h))
    have HNO := Lib.hid (fun h => (reachLH_no (v := v) (l := l) h))
    have HL := Lib.hid hl
    have HF := Lib.hid (ends_ok hv hl.ok hl.len hfew)
    have hw := refof_any v
    have hn1 := reftold_any (loI v l)
    have hn2 := reftold_any (hiI v l)
    have HT := Lib.hid (tlE_bd (loI v l))
    have HU := Lib.hid (tlE_bd (hiI v l))
    have HT1 : Hid (tlE (loI v l) = 0 → tlV (loI v l) = loI v l) := fun h => by unfold tlE at h; unfold tlV; split at h <;> simp_all
    have HT2 : Hid (tlE (hiI v l) = 0 → tlV (hiI v l) = hiI v l) := fun h => by unfold tlE at h; unfold tlV; split at h <;> simp_all
    clear hl hv
    unfold reV
    generalize reachE v l = re at *
    generalize reachL v l = rl at *
    generalize reachH v l = rh at *
    go_enter Try.func51, Try.ntmps51
    go_wp2_with fail
    refine (hw _).mono ?_
    rintro e w1 ⟨rfl, hb1⟩
    have HZ1 := Lib.hid (HZ.out.below hb1)
    have HB1 := Lib.hid (below_two HB.out hb1)
    have HG1 := Lib.hid (show w.heap.size < w1.heap.size from HZ1.out.lt)
    have HL1 := Lib.hid (Bk.new w1 (rwC v) 136)
    have HZ1' := Lib.hid (HZ1.out.al (.cells (rwC v) 136))
    have HB1' := Lib.hid (below_two HB1.out (below_new w1 (.cells (rwC v) 136)))
    clear hb1 HZ HB z0 z1 f0 f1 HZ1 HB1
    go_wp2_with fail
    refine (hw _).mono ?_
    rintro e w2 ⟨rfl, hb2⟩
    have HZ2 := Lib.hid ((HZ1'.out.below hb2).al (.cells #[.int .i64 (rhi v), .int .i64 (rlo v)] 136))
    have HL2 := Lib.hid ((HL1.out.below hb2).al (.cells #[.int .i64 (rhi v), .int .i64 (rlo v)] 136))
    have HH2 := Lib.hid (show Bk (w2.alloc (.cells #[.int .i64 (rhi v), .int .i64 (rlo v)] 136)) w2.heap.size (rwC v) 136 from Bk.new w2 (rwC v) 136)
    have HG2 := Lib.hid (show w1.heap.size < w2.heap.size from (HL1.out.below hb2).lt)
    have HB2 := Lib.hid (below_two (below_two HB1'.out hb2) (below_new w2 (.cells #[.int .i64 (rhi v), .int .i64 (rlo v)] 136)))
    clear hb2 HZ1' HL1 HB1' hw
    go_wp2_with fail
    generalize w1.heap.size = gl at *
    generalize w2.heap.size = gh at *
    generalize w2.alloc (.cells #[.int .i64 (rhi v), .int .i64 (rlo v)] 136) = w3 at *
    go_loopw [8] (fun u wr => ∃ j : Nat, u = .int .i64 (j : Int) ∧ j ≤ n ∧ Hid (Bk wr w.heap.size (spC 0 0) 63) ∧ Hid (Bk wr gl (rwC (loI v (l.take j))) 136) ∧ Hid (Bk wr gh (rwC (hiI v (l.take j))) 136) ∧ Hid (Below w.heap.size w wr)) (fun u _ => n - (intOf u).toNat)
    case atStart => exact ⟨0, rfl, Nat.zero_le _, HZ2, by rw [show loI v (l.take 0) = v from by simp [loI, lows, sumI_nil]]; exact HL2, by rw [show hiI v (l.take 0) = v from by simp [hiI, highs, sumI_nil]]; exact HH2, HB2⟩
    case round =>
      obtain ⟨j, rfl, hj, HZj, HLj, HHj, HBj⟩ := hrel
      rcases Nat.lt_or_ge j n with hlt | hge
      · obtain ⟨b, o, rfl, hb, hz, hget, hc⟩ := HL.out.get hlt
        have HSL := Lib.hid (loI_take_succ (v := v) hget)
        have HSH := Lib.hid (hiI_take_succ (v := v) hget)
        have HCZ := Lib.hid ((HBj.out.cell (p := ⟨b, o + j, none⟩) hb).trans hc)
        have HBL := Lib.hid hb
        generalize l.getD j 0 = z at *
        have hp1 := refof_any z
        have hpl := refplus_any (loI v (l.take j)) z (HF.out j).1 (okI.far hz)
        have hph := refplus_any (hiI v (l.take j)) z (HF.out j).2 (okI.far hz)
        have hd3 : decide ((j : Int) < (n : Int)) = true := decide_eq_true (by omega)
        have hd4 : decide (j < n) = true := decide_eq_true hlt
        have hi1 : (j : Int) < (n : Int) := by omega
        have HBd := Lib.hid (HBj.out.drew)
        have c0 := HCZ.out
        generalize loI v (l.take j) = l0 at *
        generalize hiI v (l.take j) = h0 at *
        generalize hl1 : loI v (l.take (j + 1)) = l1 at *
        generalize hh1 : hiI v (l.take (j + 1)) = h1 at *
        have HL1 := Lib.hid hl1
        have HH1 := Lib.hid hh1
        clear hl1 hh1 hc hget hb hz
        rcases Int.lt_or_le z 0 with hz | hz
        · have hd5 : decide (z < 0) = true := decide_eq_true hz
          replace HSL : Hid (l1 = l0 + z) := by show _ = _; rw [HSL.out, if_pos hz]
          replace HSH : Hid (h1 = h0) := by show _ = _; rw [HSH.out, if_pos hz, Int.add_zero]
          rw [← HSL.out] at hpl
          have HXd := Lib.hid (HLj.out.below (V := World.drew wr) ((Below.refl _ _).drew))
          have cz : ∀ V, Turn (fun q => q = gl) wr V → V.cell? ⟨b, o + j, none⟩ = some (.int .i64 z) := fun V hV => hV.cell HCZ.out (by show ¬ b = gl; have := HBL.out; have := HG1.out; omega)
          have x0 := HXd.out.r0
          have x1 := HXd.out.r1
          clear hz
          go_upto_region 9 with fail
          refine wp_region_turn (X := (fun q => q = gl)) (by kernel_rfl) ?_
          have hS : Turn (fun q => q = gl) wr (World.drew wr) := (Turn.refl _ _).drew
          refine wpAnyH_take (i := 1) (oi := ⟨some 33, _, _, _, _, _⟩) (v := ?_) rfl (by kernel_rfl) (by kernel_rfl) (by kernel_rfl) (fun _ _ _ h => h) (Or.inl ⟨by rfl, ?_⟩) hS ?_
          rotate_left
          · intro W hW; go_simp; with_reducible rfl
          try simp only [Act.put, List.setIfInBounds_toArray, List.set_cons_zero, List.set_cons_succ]
          refine wpAnyH_take (i := 2) (oi := ⟨some 34, _, _, _, _, _⟩) (v := ?_) rfl (by kernel_rfl) (by kernel_rfl) (by kernel_rfl) (fun _ _ _ h => h) (Or.inl ⟨by rfl, ?_⟩) hS ?_
          rotate_left
          · intro W hW; go_simp; with_reducible rfl
          try simp only [Act.put, List.setIfInBounds_toArray, List.set_cons_zero, List.set_cons_succ]
          refine wpAnyH_take (i := 3) (oi := ⟨some 35, _, _, _, _, _⟩) (v := ?_) rfl (by kernel_rfl) (by kernel_rfl) (by kernel_rfl) (fun _ _ _ h => h) (Or.inl ⟨by rfl, ?_⟩) hS ?_
          rotate_left
          · intro W hW; go_simp; with_reducible rfl
          try simp only [Act.put, List.setIfInBounds_toArray, List.set_cons_zero, List.set_cons_succ]
          refine wpAnyH_take (i := 4) (oi := ⟨some 36, _, _, _, _, _⟩) (v := ?_) rfl (by kernel_rfl) (by kernel_rfl) (by kernel_rfl) (fun _ _ _ h => h) (Or.inl ⟨by rfl, ?_⟩) hS ?_
          rotate_left
          · intro W hW; go_simp; with_reducible rfl
          try simp only [Act.put, List.setIfInBounds_toArray, List.set_cons_zero, List.set_cons_succ]
          refine wpAnyH_ready (rs := [0, 5]) (by kernel_rfl) (by simp) ?_
          refine AllReadyH.cons (o := ⟨some 32, _, _, _, _, _⟩) rfl (fun Kr hKr => ?_) (AllReadyH.cons (o := ⟨some 37, _, _, _, _, _⟩) rfl (fun Kr hKr => ?_) AllReadyH.nil)
          · skip
            -- operation 0: a step
            go_simp
            show Kr _ _
            refine hKr.out _ _ ?_ (fun _ => ?_)
            · exact hS
            clear hKr Kr
            try simp only [Act.put, List.setIfInBounds_toArray, List.set_cons_zero, List.set_cons_succ]
            refine wpAnyH_ready (rs := [5]) (by kernel_rfl) (by simp) ?_
            refine AllReadyH.cons (o := ⟨some 37, _, _, _, _, _⟩) rfl (fun Kr hKr => ?_) AllReadyH.nil
            -- operation 5: a call
            go_simp
            refine (hp1 _).mono ?_
            rintro e w2 ⟨rfl, hb2⟩
            show Kr _ _
            refine hKr.out _ _ ?_ (fun _ => ?_)
            · exact Turn.trans hS (Turn.ofBelow hb2)
            clear hKr Kr
            replace hS : Turn (fun q => q = gl) wr w2 := Turn.trans hS (Turn.ofBelow hb2)
            have HX2 := Lib.hid (HXd.out.below hb2)
            have x2 := HX2.out.r0
            have x3 := HX2.out.r1
            try simp only [Act.put, List.setIfInBounds_toArray, List.set_cons_zero, List.set_cons_succ]
            refine wpAnyH_ready (rs := [6]) (by kernel_rfl) (by simp) ?_
            refine AllReadyH.cons (o := ⟨some 38, _, _, _, _, _⟩) rfl (fun Kr hKr => ?_) AllReadyH.nil
            -- operation 6: a call
            go_simp
            refine (hpl _).mono ?_
            rintro e w3 ⟨rfl, hb3⟩
            show Kr _ _
            refine hKr.out _ _ ?_ (fun _ => ?_)
            · exact Turn.trans hS (Turn.ofBelow hb3)
            clear hKr Kr
            replace hS : Turn (fun q => q = gl) wr w3 := Turn.trans hS (Turn.ofBelow hb3)
            try simp only [Act.put, List.setIfInBounds_toArray, List.set_cons_zero, List.set_cons_succ]
            refine wpAnyH_ready (rs := [7]) (by kernel_rfl) (by simp) ?_
            refine AllReadyH.cons (o := ⟨none, _, _, _, _, _⟩) rfl (fun Kr hKr => ?_) AllReadyH.nil
            -- operation 7: a step
            refine wp_store_bk 136 _ _ rfl gl (rwC l1) rfl rfl 136 (rwC l0) (HX2.out.below hb3) (by kernel_rfl) rfl (by simp [Value.oneCell']) ?_
            intro w9 hk9 hg9
            show Kr _ _
            refine hKr.out _ _ ?_ (fun _ => ?_)
            · exact Turn.trans hS (Turn.grown (Turn.refl _ _) hg9 (fun j e => by injection e with e; exact .inl e.symm))
            clear hKr Kr
            replace hS : Turn (fun q => q = gl) wr w9 := Turn.trans hS (Turn.grown (Turn.refl _ _) hg9 (fun j e => by injection e with e; exact .inl e.symm))
            try simp only [Act.put, List.setIfInBounds_toArray, List.set_cons_zero, List.set_cons_succ]
            refine wpAnyH_done (by kernel_rfl) ?_ _
            go_wp2_with fail
            have HBr := Lib.hid (Below.grown ((HBd.out.trans (hb2.mono HBd.out.size)).trans (hb3.mono (HBd.out.trans (hb2.mono HBd.out.size)).size)) hg9 ((HBd.out.trans (hb2.mono HBd.out.size)).trans (hb3.mono (HBd.out.trans (hb2.mono HBd.out.size)).size)).size (fun q e => by injection e with e; have := HG1.out; have := HG2.out; omega))
            have hT : Turn (fun q => q = gl) wr w9 := hS
            exact ⟨⟨j + 1, rfl, hlt, Lib.hid (HZj.out.turn hT (by have := HG1.out; omega)), by rw [HL1.out]; exact Lib.hid hk9, by rw [HH1.out, HSH.out]; exact Lib.hid (HHj.out.turn hT (by have := HG2.out; omega)), HBr⟩, by simp [intOf]; omega⟩
          · skip
            -- operation 5: a call
            go_simp
            refine (hp1 _).mono ?_
            rintro e w2 ⟨rfl, hb2⟩
            show Kr _ _
            refine hKr.out _ _ ?_ (fun _ => ?_)
            · exact Turn.trans hS (Turn.ofBelow hb2)
            clear hKr Kr
            replace hS : Turn (fun q => q = gl) wr w2 := Turn.trans hS (Turn.ofBelow hb2)
            have HX2 := Lib.hid (HXd.out.below hb2)
            have x2 := HX2.out.r0
            have x3 := HX2.out.r1
            try simp only [Act.put, List.setIfInBounds_toArray, List.set_cons_zero, List.set_cons_succ]
            refine wpAnyH_ready (rs := [0]) (by kernel_rfl) (by simp) ?_
            refine AllReadyH.cons (o := ⟨some 32, _, _, _, _, _⟩) rfl (fun Kr hKr => ?_) AllReadyH.nil
            -- operation 0: a step
            go_simp
            show Kr _ _
            refine hKr.out _ _ ?_ (fun _ => ?_)
            · exact hS
            clear hKr Kr
            try simp only [Act.put, List.setIfInBounds_toArray, List.set_cons_zero, List.set_cons_succ]
            refine wpAnyH_ready (rs := [6]) (by kernel_rfl) (by simp) ?_
            refine AllReadyH.cons (o := ⟨some 38, _, _, _, _, _⟩) rfl (fun Kr hKr => ?_) AllReadyH.nil
            -- operation 6: a call
            go_simp
            refine (hpl _).mono ?_
            rintro e w3 ⟨rfl, hb3⟩
            show Kr _ _
            refine hKr.out _ _ ?_ (fun _ => ?_)
            · exact Turn.trans hS (Turn.ofBelow hb3)
            clear hKr Kr
            replace hS : Turn (fun q => q = gl) wr w3 := Turn.trans hS (Turn.ofBelow hb3)
            try simp only [Act.put, List.setIfInBounds_toArray, List.set_cons_zero, List.set_cons_succ]
            refine wpAnyH_ready (rs := [7]) (by kernel_rfl) (by simp) ?_
            refine AllReadyH.cons (o := ⟨none, _, _, _, _, _⟩) rfl (fun Kr hKr => ?_) AllReadyH.nil
            -- operation 7: a step
            refine wp_store_bk 136 _ _ rfl gl (rwC l1) rfl rfl 136 (rwC l0) (HX2.out.below hb3) (by kernel_rfl) rfl (by simp [Value.oneCell']) ?_
            intro w9 hk9 hg9
            show Kr _ _
            refine hKr.out _ _ ?_ (fun _ => ?_)
            · exact Turn.trans hS (Turn.grown (Turn.refl _ _) hg9 (fun j e => by injection e with e; exact .inl e.symm))
            clear hKr Kr
            replace hS : Turn (fun q => q = gl) wr w9 := Turn.trans hS (Turn.grown (Turn.refl _ _) hg9 (fun j e => by injection e with e; exact .inl e.symm))
            try simp only [Act.put, List.setIfInBounds_toArray, List.set_cons_zero, List.set_cons_succ]
            refine wpAnyH_done (by kernel_rfl) ?_ _
            go_wp2_with fail
            have HBr := Lib.hid (Below.grown ((HBd.out.trans (hb2.mono HBd.out.size)).trans (hb3.mono (HBd.out.trans (hb2.mono HBd.out.size)).size)) hg9 ((HBd.out.trans (hb2.mono HBd.out.size)).trans (hb3.mono (HBd.out.trans (hb2.mono HBd.out.size)).size)).size (fun q e => by injection e with e; have := HG1.out; have := HG2.out; omega))
            have hT : Turn (fun q => q = gl) wr w9 := hS
            exact ⟨⟨j + 1, rfl, hlt, Lib.hid (HZj.out.turn hT (by have := HG1.out; omega)), by rw [HL1.out]; exact Lib.hid hk9, by rw [HH1.out, HSH.out]; exact Lib.hid (HHj.out.turn hT (by have := HG2.out; omega)), HBr⟩, by simp [intOf]; omega⟩
        · have hd5 : decide (z < 0) = false := decide_eq_false (by omega)
          replace HSL : Hid (l1 = l0) := by show _ = _; rw [HSL.out, if_neg (by omega), Int.add_zero]
          replace HSH : Hid (h1 = h0 + z) := by show _ = _; rw [HSH.out, if_neg (by omega)]
          rw [← HSH.out] at hph
          have HXd := Lib.hid (HHj.out.below (V := World.drew wr) ((Below.refl _ _).drew))
          have cz : ∀ V, Turn (fun q => q = gh) wr V → V.cell? ⟨b, o + j, none⟩ = some (.int .i64 z) := fun V hV => hV.cell HCZ.out (by show ¬ b = gh; have := HBL.out; have := HG1.out; have := HG2.out; omega)
          have x0 := HXd.out.r0
          have x1 := HXd.out.r1
          clear hz
          go_upto_region 10 with fail
          refine wp_region_turn (X := (fun q => q = gh)) (by kernel_rfl) ?_
          have hS : Turn (fun q => q = gh) wr (World.drew wr) := (Turn.refl _ _).drew
          refine wpAnyH_take (i := 1) (oi := ⟨some 40, _, _, _, _, _⟩) (v := ?_) rfl (by kernel_rfl) (by kernel_rfl) (by kernel_rfl) (fun _ _ _ h => h) (Or.inl ⟨by rfl, ?_⟩) hS ?_
          rotate_left
          · intro W hW; go_simp; with_reducible rfl
          try simp only [Act.put, List.setIfInBounds_toArray, List.set_cons_zero, List.set_cons_succ]
          refine wpAnyH_take (i := 2) (oi := ⟨some 41, _, _, _, _, _⟩) (v := ?_) rfl (by kernel_rfl) (by kernel_rfl) (by kernel_rfl) (fun _ _ _ h => h) (Or.inl ⟨by rfl, ?_⟩) hS ?_
          rotate_left
          · intro W hW; go_simp; with_reducible rfl
          try simp only [Act.put, List.setIfInBounds_toArray, List.set_cons_zero, List.set_cons_succ]
          refine wpAnyH_take (i := 3) (oi := ⟨some 42, _, _, _, _, _⟩) (v := ?_) rfl (by kernel_rfl) (by kernel_rfl) (by kernel_rfl) (fun _ _ _ h => h) (Or.inl ⟨by rfl, ?_⟩) hS ?_
          rotate_left
          · intro W hW; go_simp; with_reducible rfl
          try simp only [Act.put, List.setIfInBounds_toArray, List.set_cons_zero, List.set_cons_succ]
          refine wpAnyH_take (i := 4) (oi := ⟨some 43, _, _, _, _, _⟩) (v := ?_) rfl (by kernel_rfl) (by kernel_rfl) (by kernel_rfl) (fun _ _ _ h => h) (Or.inl ⟨by rfl, ?_⟩) hS ?_
          rotate_left
          · intro W hW; go_simp; with_reducible rfl
          try simp only [Act.put, List.setIfInBounds_toArray, List.set_cons_zero, List.set_cons_succ]
          refine wpAnyH_ready (rs := [0, 5]) (by kernel_rfl) (by simp) ?_
          refine AllReadyH.cons (o := ⟨some 39, _, _, _, _, _⟩) rfl (fun Kr hKr => ?_) (AllReadyH.cons (o := ⟨some 44, _, _, _, _, _⟩) rfl (fun Kr hKr => ?_) AllReadyH.nil)
          · skip
            -- operation 0: a step
            go_simp
            show Kr _ _
            refine hKr.out _ _ ?_ (fun _ => ?_)
            · exact hS
            clear hKr Kr
            try simp only [Act.put, List.setIfInBounds_toArray, List.set_cons_zero, List.set_cons_succ]
            refine wpAnyH_ready (rs := [5]) (by kernel_rfl) (by simp) ?_
            refine AllReadyH.cons (o := ⟨some 44, _, _, _, _, _⟩) rfl (fun Kr hKr => ?_) AllReadyH.nil
            -- operation 5: a call
            go_simp
            refine (hp1 _).mono ?_
            rintro e w2 ⟨rfl, hb2⟩
            show Kr _ _
            refine hKr.out _ _ ?_ (fun _ => ?_)
            · exact Turn.trans hS (Turn.ofBelow hb2)
            clear hKr Kr
            replace hS : Turn (fun q => q = gh) wr w2 := Turn.trans hS (Turn.ofBelow hb2)
            have HX2 := Lib.hid (HXd.out.below hb2)
            have x2 := HX2.out.r0
            have x3 := HX2.out.r1
            try simp only [Act.put, List.setIfInBounds_toArray, List.set_cons_zero, List.set_cons_succ]
            refine wpAnyH_ready (rs := [6]) (by kernel_rfl) (by simp) ?_
            refine AllReadyH.cons (o := ⟨some 45, _, _, _, _, _⟩) rfl (fun Kr hKr => ?_) AllReadyH.nil
            -- operation 6: a call
            go_simp
            refine (hph _).mono ?_
            rintro e w3 ⟨rfl, hb3⟩
            show Kr _ _
            refine hKr.out _ _ ?_ (fun _ => ?_)
            · exact Turn.trans hS (Turn.ofBelow hb3)
            clear hKr Kr
            replace hS : Turn (fun q => q = gh) wr w3 := Turn.trans hS (Turn.ofBelow hb3)
            try simp only [Act.put, List.setIfInBounds_toArray, List.set_cons_zero, List.set_cons_succ]
            refine wpAnyH_ready (rs := [7]) (by kernel_rfl) (by simp) ?_
            refine AllReadyH.cons (o := ⟨none, _, _, _, _, _⟩) rfl (fun Kr hKr => ?_) AllReadyH.nil
            -- operation 7: a step
            refine wp_store_bk 136 _ _ rfl gh (rwC h1) rfl rfl 136 (rwC h0) (HX2.out.below hb3) (by kernel_rfl) rfl (by simp [Value.oneCell']) ?_
            intro w9 hk9 hg9
            show Kr _ _
            refine hKr.out _ _ ?_ (fun _ => ?_)
            · exact Turn.trans hS (Turn.grown (Turn.refl _ _) hg9 (fun j e => by injection e with e; exact .inl e.symm))
            clear hKr Kr
            replace hS : Turn (fun q => q = gh) wr w9 := Turn.trans hS (Turn.grown (Turn.refl _ _) hg9 (fun j e => by injection e with e; exact .inl e.symm))
            try simp only [Act.put, List.setIfInBounds_toArray, List.set_cons_zero, List.set_cons_succ]
            refine wpAnyH_done (by kernel_rfl) ?_ _
            go_wp2_with fail
            have HBr := Lib.hid (Below.grown ((HBd.out.trans (hb2.mono HBd.out.size)).trans (hb3.mono (HBd.out.trans (hb2.mono HBd.out.size)).size)) hg9 ((HBd.out.trans (hb2.mono HBd.out.size)).trans (hb3.mono (HBd.out.trans (hb2.mono HBd.out.size)).size)).size (fun q e => by injection e with e; have := HG1.out; have := HG2.out; omega))
            have hT : Turn (fun q => q = gh) wr w9 := hS
            exact ⟨⟨j + 1, rfl, hlt, Lib.hid (HZj.out.turn hT (by have := HG1.out; have := HG2.out; omega)), by rw [HL1.out, HSL.out]; exact Lib.hid (HLj.out.turn hT (by have := HG2.out; omega)), by rw [HH1.out]; exact Lib.hid hk9, HBr⟩, by simp [intOf]; omega⟩
          · skip
            -- operation 5: a call
            go_simp
            refine (hp1 _).mono ?_
            rintro e w2 ⟨rfl, hb2⟩
            show Kr _ _
            refine hKr.out _ _ ?_ (fun _ => ?_)
            · exact Turn.trans hS (Turn.ofBelow hb2)
            clear hKr Kr
            replace hS : Turn (fun q => q = gh) wr w2 := Turn.trans hS (Turn.ofBelow hb2)
            have HX2 := Lib.hid (HXd.out.below hb2)
            have x2 := HX2.out.r0
            have x3 := HX2.out.r1
            try simp only [Act.put, List.setIfInBounds_toArray, List.set_cons_zero, List.set_cons_succ]
            refine wpAnyH_ready (rs := [0]) (by kernel_rfl) (by simp) ?_
            refine AllReadyH.cons (o := ⟨some 39, _, _, _, _, _⟩) rfl (fun Kr hKr => ?_) AllReadyH.nil
            -- operation 0: a step
            go_simp
            show Kr _ _
            refine hKr.out _ _ ?_ (fun _ => ?_)
            · exact hS
            clear hKr Kr
            try simp only [Act.put, List.setIfInBounds_toArray, List.set_cons_zero, List.set_cons_succ]
            refine wpAnyH_ready (rs := [6]) (by kernel_rfl) (by simp) ?_
            refine AllReadyH.cons (o := ⟨some 45, _, _, _, _, _⟩) rfl (fun Kr hKr => ?_) AllReadyH.nil
            -- operation 6: a call
            go_simp
            refine (hph _).mono ?_
            rintro e w3 ⟨rfl, hb3⟩
            show Kr _ _
            refine hKr.out _ _ ?_ (fun _ => ?_)
            · exact Turn.trans hS (Turn.ofBelow hb3)
            clear hKr Kr
            replace hS : Turn (fun q => q = gh) wr w3 := Turn.trans hS (Turn.ofBelow hb3)
            try simp only [Act.put, List.setIfInBounds_toArray, List.set_cons_zero, List.set_cons_succ]
            refine wpAnyH_ready (rs := [7]) (by kernel_rfl) (by simp) ?_
            refine AllReadyH.cons (o := ⟨none, _, _, _, _, _⟩) rfl (fun Kr hKr => ?_) AllReadyH.nil
            -- operation 7: a step
            refine wp_store_bk 136 _ _ rfl gh (rwC h1) rfl rfl 136 (rwC h0) (HX2.out.below hb3) (by kernel_rfl) rfl (by simp [Value.oneCell']) ?_
            intro w9 hk9 hg9
            show Kr _ _
            refine hKr.out _ _ ?_ (fun _ => ?_)
            · exact Turn.trans hS (Turn.grown (Turn.refl _ _) hg9 (fun j e => by injection e with e; exact .inl e.symm))
            clear hKr Kr
            replace hS : Turn (fun q => q = gh) wr w9 := Turn.trans hS (Turn.grown (Turn.refl _ _) hg9 (fun j e => by injection e with e; exact .inl e.symm))
            try simp only [Act.put, List.setIfInBounds_toArray, List.set_cons_zero, List.set_cons_succ]
            refine wpAnyH_done (by kernel_rfl) ?_ _
            go_wp2_with fail
            have HBr := Lib.hid (Below.grown ((HBd.out.trans (hb2.mono HBd.out.size)).trans (hb3.mono (HBd.out.trans (hb2.mono HBd.out.size)).size)) hg9 ((HBd.out.trans (hb2.mono HBd.out.size)).trans (hb3.mono (HBd.out.trans (hb2.mono HBd.out.size)).size)).size (fun q e => by injection e with e; have := HG1.out; have := HG2.out; omega))
            have hT : Turn (fun q => q = gh) wr w9 := hS
            exact ⟨⟨j + 1, rfl, hlt, Lib.hid (HZj.out.turn hT (by have := HG1.out; have := HG2.out; omega)), by rw [HL1.out, HSL.out]; exact Lib.hid (HLj.out.turn hT (by have := HG2.out; omega)), by rw [HH1.out]; exact Lib.hid hk9, HBr⟩, by simp [intOf]; omega⟩
      · obtain rfl : j = n := by omega
        have hd3 : decide ((j : Int) < (j : Int)) = false := decide_eq_false (by omega)
        have hd4 : decide (j < j) = false := decide_eq_false (by omega)
        have hlj : l.take j = l := List.take_of_length_le (by rw [HL.out.len]; exact Nat.le_refl _)
        rw [hlj] at HLj HHj
        clear hlj
        have ht1 := HT.out
        have ht2 := HU.out
        generalize loI v l = lo at *
        generalize hiI v l = hi at *
        have x0 := HLj.out.r0
        have x1 := HLj.out.r1
        go_wp2_with fail
        refine (hn1 _).mono ?_
        rintro e w5 ⟨rfl, hb5⟩
        have HH5 := Lib.hid (HHj.out.below hb5)
        have HZ5 := Lib.hid (HZj.out.below hb5)
        have HB5 := Lib.hid (HBj.out.trans (hb5.mono HBj.out.size))
        clear hb5 HHj HZj HBj hn1 x0 x1
        have x2 := HH5.out.r0
        have x3 := HH5.out.r1
        go_wp2_with fail
        refine (hn2 _).mono ?_
        rintro e w6 ⟨rfl, hb6⟩
        have HZ6 := Lib.hid (HZ5.out.below hb6)
        have HD := Lib.hid (HB5.out.trans (hb6.mono HB5.out.size))
        clear hb6 HH5 HZ5 HB5 hn2 x2 x3
        have z0 := HZ6.out.s0
        have z1 := HZ6.out.s1
        have f0 := HZ6.out.fr 0
        have f1 := HZ6.out.fr 1
        generalize tlE lo = el at *
        generalize tlE hi = eh at *
        rcases ht1 with rfl | rfl
        · rcases ht2 with rfl | rfl
          · obtain rfl : re = 0 := by rw [HE.out]; rfl
            obtain ⟨h1, h2⟩ := HYE.out rfl
            have h3 := HT1.out rfl
            have h4 := HT2.out rfl
            rw [h3, h4]
            have HR1 := Lib.hid h1
            have HR2 := Lib.hid h2
            clear h1 h2 h3 h4 HYE HNO HT1 HT2 HE
            go_wp2_with fail
            exact bodyPost_ret (v := .tuple #[spV lo hi, .int .i64 0]) (by rw [results_cell_tmp rfl]; go_simp; first | done | exact ⟨rfl, rfl⟩) rfl ⟨by rw [HR1.out, HR2.out], (HD.out.setCell (Nat.le_refl _) _).setCell (Nat.le_refl _) _⟩
          · obtain rfl : re = 12 := by rw [HE.out]; rfl
            obtain ⟨h1, h2⟩ := HNO.out (by decide)
            have HR1 := Lib.hid h1
            have HR2 := Lib.hid h2
            clear h1 h2 HYE HNO HT1 HT2 HE
            go_wp2_with fail
            exact bodyPost_ret (v := .tuple #[spV 0 0, .int .i64 12]) (by rw [results_cell_tmp rfl]; go_simp; first | done | exact ⟨rfl, rfl⟩) rfl ⟨by rw [HR1.out, HR2.out], (HD.out.setCell (Nat.le_refl _) _).setCell (Nat.le_refl _) _⟩
        · obtain rfl : re = 12 := by rw [HE.out]; rfl
          obtain ⟨h1, h2⟩ := HNO.out (by decide)
          have HR1 := Lib.hid h1
          have HR2 := Lib.hid h2
          clear h1 h2 HYE HNO HT1 HT2 HE ht2
          go_wp2_with fail
          exact bodyPost_ret (v := .tuple #[spV 0 0, .int .i64 12]) (by rw [results_cell_tmp rfl]; go_simp; first | done | exact ⟨rfl, rfl⟩) rfl ⟨by rw [HR1.out, HR2.out], (HD.out.setCell (Nat.le_refl _) _).setCell (Nat.le_refl _) _⟩
end Go.Proofs.Ytogngghfdcpeaaa
