/-
  NoteSizes over the words: a note has as many bytes as its parts; two as one have no more than both.
-/
import Derived.Test.YtjpnihmijnpjcaaNy
import Derived.Lib.MinMax
import Derived.Deep.CutRange
namespace Go.Proofs.Ytjpnihmijnpjcaa
set_option maxRecDepth 100000
set_option linter.unusedVariables false
set_option linter.unusedSimpArgs false
open Go.RowKit Wm Nn

set_option maxHeartbeats 4000000 in
theorem sizes_walk (hw : NoteOk) (x y : Nt) (r q : Nr) (w : World) (hx : NtAt w x r) (hy : NtAt w y q) :
    Calls Try.prog 8 #[ntV x r, ntV y q] w fun e w' => e = .returned (.bool true) ∧ Below w.heap.size w w' := by
  have HW := Lib.hid hw
  clear hw
  obtain ⟨A1, k1, c1, B1, l1, d1, e1⟩ := r
  obtain ⟨A2, k2, c2, B2, l2, d2, e2⟩ := q
  obtain ⟨HX, HY, HB, HN, HM⟩ := two_boxed w x y _ _ hx hy 25
  clear hx hy
  unfold ntV
  obtain ⟨C, hC⟩ : ∃ C, C = ntC x ⟨A1, k1, c1, B1, l1, d1, e1⟩ := ⟨_, rfl⟩
  obtain ⟨C2, hC2⟩ : ∃ C2, C2 = ntC y ⟨A2, k2, c2, B2, l2, d2, e2⟩ := ⟨_, rfl⟩
  rw [← hC, ← hC2] at HX HY HB HN HM ⊢
  clear hC hC2
  go_enter Try.func8, Try.ntmps8
  go_upto_region 1 with fail
  generalize w.heap.size + 1 = g2 at *
  generalize (w.alloc (.cells C 25)).alloc (.cells C2 25) = w0 at *
  go_wp2_with fail
  refine (awake_any HW.out w0).mono ?_
  rintro e w1 ⟨rfl, hb1⟩
  have HB1 := Lib.hid hb1
  clear hb1
  have HX1 := Lib.hid (HX.out.below HB1.out)
  have a0 := HX1.out.c0
  have a1 := HX1.out.c1
  have a2 := HX1.out.c2
  have a3 := HX1.out.c3
  simp only at a2 a3
  go_wp2_with fail
  refine (few_any x ⟨A1, k1, c1, B1, l1, d1, e1⟩ 100 w1 (HN.out.below HB1.out) (by omega)).mono ?_
  rintro e w2 ⟨hb2, ⟨rfl, hf⟩ | rfl⟩
  rotate_left
  · have HB2 := Lib.hid (HB.out.trans ((HB1.out.trans (hb2.mono HB1.out.size)).mono HB.out.size))
    clear hb2 a0 a1 a2 a3
    go_wp2_with fail
    go_ret
    exact ⟨rfl, HB2.out⟩
  have HB2 := Lib.hid (HB1.out.trans (hb2.mono HB1.out.size))
  have HFX := Lib.hid hf
  clear hb2 hf a0 a1 a2 a3 HB1 HX1
  have HY2 := Lib.hid (HY.out.below HB2.out)
  have a0 := HY2.out.c0
  have a1 := HY2.out.c1
  have a2 := HY2.out.c2
  have a3 := HY2.out.c3
  simp only at a2 a3
  go_wp2_with fail
  refine (few_any y ⟨A2, k2, c2, B2, l2, d2, e2⟩ 100 w2 (HM.out.below HB2.out) (by omega)).mono ?_
  rintro e w3 ⟨hb3, ⟨rfl, hf⟩ | rfl⟩
  rotate_left
  · have HB3 := Lib.hid (HB.out.trans ((HB2.out.trans (hb3.mono HB2.out.size)).mono HB.out.size))
    clear hb3 a0 a1 a2 a3
    go_wp2_with fail
    go_ret
    exact ⟨rfl, HB3.out⟩
  have HB3 := Lib.hid (HB2.out.trans (hb3.mono HB2.out.size))
  have HFY := Lib.hid hf
  clear hb3 hf a0 a1 a2 a3 HB2 HY2
  have HSX := Lib.hid (few_small HFX.out (by omega))
  have HSY := Lib.hid (few_small HFY.out (by omega))
  have HX3 := Lib.hid (HX.out.below HB3.out)
  have HY3 := Lib.hid (HY.out.below HB3.out)
  have HN3 := Lib.hid (HN.out.below HB3.out)
  have HM3 := Lib.hid (HM.out.below HB3.out)
  have HWB := Lib.hid (HB.out.trans (HB3.out.mono HB.out.size))
  clear HX HY HN HM HB HB3
  obtain ⟨m, hm⟩ : ∃ m, m = merN x y := ⟨_, rfl⟩
  obtain ⟨E, hE⟩ : ∃ E, E = merE x y := ⟨_, rfl⟩
  have HMG : Hid (∀ V, Since w3 V → Calls Try.prog 16 #[ntV x ⟨A1, k1, c1, B1, l1, d1, e1⟩, ntV y ⟨A2, k2, c2, B2, l2, d2, e2⟩] V (MergeOut V m E ⟨A1, k1, c1, B1, l1, d1, e1⟩ ⟨A2, k2, c2, B2, l2, d2, e2⟩)) := Lib.hid (fun V hV => by
    rw [hm, hE]
    exact HW.out.merge x y _ _ V (HN3.out.below hV) (HM3.out.below hV) HSX.out HSY.out)
  have HME := Lib.hid hm
  have HEE := Lib.hid hE
  clear hm hE
  have x0 : ∀ V, Since w3 V → V.cell? ⟨w.heap.size, 0, none⟩ = some (.int .i64 x.kind) := fun V hV => (HX3.out.below hV).c0
  have x1 : ∀ V, Since w3 V → V.cell? ⟨w.heap.size, 1, none⟩ = some (.int .i64 x.seq) := fun V hV => (HX3.out.below hV).c1
  have x2 : ∀ V, Since w3 V → V.cell? ⟨w.heap.size, 2, none⟩ = some (.slice A1 k1 c1) := fun V hV => (HX3.out.below hV).c2
  have x3 : ∀ V, Since w3 V → V.cell? ⟨w.heap.size, 3, none⟩ = some (.slice B1 l1 d1) := fun V hV => (HX3.out.below hV).c3
  have y0 : ∀ V, Since w3 V → V.cell? ⟨g2, 0, none⟩ = some (.int .i64 y.kind) := fun V hV => (HY3.out.below hV).c0
  have y1 : ∀ V, Since w3 V → V.cell? ⟨g2, 1, none⟩ = some (.int .i64 y.seq) := fun V hV => (HY3.out.below hV).c1
  have y2 : ∀ V, Since w3 V → V.cell? ⟨g2, 2, none⟩ = some (.slice A2 k2 c2) := fun V hV => (HY3.out.below hV).c2
  have y3 : ∀ V, Since w3 V → V.cell? ⟨g2, 3, none⟩ = some (.slice B2 l2 d2) := fun V hV => (HY3.out.below hV).c3
  go_upto_region 4 with fail
  go_cut [6, 7] from 20 to 27 (fun u v wc => ∃ (z : Nat) (p : Nr), u = .pointer (some ⟨z, 0, none⟩) ∧ v = .int .i64 E ∧ Hid (Since w3 wc) ∧ Hid (NtB wc z 32 m p) ∧ Hid (NtAt wc m p))
  case first =>
    refine wp_region_since (by kernel_rfl) ?_
    have hS : Since w3 (World.drew w3) := (Below.refl _ _).drew
    refine wpAnyH_take (i := 0) (oi := ⟨some 21, _, _, _, _, _⟩) (v := ?_) rfl (by kernel_rfl) (by kernel_rfl) (by kernel_rfl) (fun _ _ _ h => h) (Or.inl ⟨by rfl, ?_⟩) hS ?_
    rotate_left
    · intro W hW; go_simp; with_reducible rfl
    try simp only [Act.put, List.setIfInBounds_toArray, List.set_cons_zero, List.set_cons_succ]
    refine wpAnyH_take (i := 2) (oi := ⟨some 23, _, _, _, _, _⟩) (v := ?_) rfl (by kernel_rfl) (by kernel_rfl) (by kernel_rfl) (fun _ _ _ h => h) (Or.inl ⟨by rfl, ?_⟩) hS ?_
    rotate_left
    · intro W hW; go_simp; with_reducible rfl
    try simp only [Act.put, List.setIfInBounds_toArray, List.set_cons_zero, List.set_cons_succ]
    refine wpAnyH_ready (rs := [1, 8]) (by kernel_rfl) (by simp) ?_
    refine AllReadyH.cons (o := ⟨some 22, _, _, _, _, _⟩) rfl (fun Kr hKr => ?_) (AllReadyH.cons (o := ⟨some 6, _, _, _, _, _⟩) rfl (fun Kr hKr => ?_) AllReadyH.nil)
    · skip
      -- operation 1: a call
      go_simp
      refine (ours_any x ⟨A1, k1, c1, B1, l1, d1, e1⟩ _).mono ?_
      rintro e V1 ⟨rfl, hx⟩
      try replace HAL := Lib.hid (HAL.out.below hx)
      show Kr _ _
      refine hKr.out _ _ ?_ (fun _ => ?_)
      · exact since_trans hS hx
      clear hKr Kr
      replace hS : Since w3 V1 := since_trans hS hx
      try simp only [Act.put, List.setIfInBounds_toArray, List.set_cons_zero, List.set_cons_succ]
      refine wpAnyH_ready (rs := [3, 8]) (by kernel_rfl) (by simp) ?_
      refine AllReadyH.cons (o := ⟨some 24, _, _, _, _, _⟩) rfl (fun Kr hKr => ?_) (AllReadyH.cons (o := ⟨some 6, _, _, _, _, _⟩) rfl (fun Kr hKr => ?_) AllReadyH.nil)
      · skip
        -- operation 3: a call
        go_simp
        refine (ours_any y ⟨A2, k2, c2, B2, l2, d2, e2⟩ _).mono ?_
        rintro e V3 ⟨rfl, hx⟩
        try replace HAL := Lib.hid (HAL.out.below hx)
        show Kr _ _
        refine hKr.out _ _ ?_ (fun _ => ?_)
        · exact since_trans hS hx
        clear hKr Kr
        replace hS : Since w3 V3 := since_trans hS hx
        try simp only [Act.put, List.setIfInBounds_toArray, List.set_cons_zero, List.set_cons_succ]
        refine wpAnyH_ready (rs := [4, 8]) (by kernel_rfl) (by simp) ?_
        refine AllReadyH.cons (o := ⟨some 25, _, _, _, _, _⟩) rfl (fun Kr hKr => ?_) (AllReadyH.cons (o := ⟨some 6, _, _, _, _, _⟩) rfl (fun Kr hKr => ?_) AllReadyH.nil)
        · skip
          -- operation 4: a call
          go_simp
          refine (HMG.out _ hS).mono ?_
          rintro e V4 ho
          obtain ⟨p, rfl, hgt, hx⟩ := merged hS HN3.out HM3.out ho
          have HGT := Lib.hid hgt
          try have HOF := Lib.hid (HGT.out.off z HLE.out (.inl (Bk.lt HAL.out)))
          try replace HAL := Lib.hid (HAL.out.below hx)
          show Kr _ _
          refine hKr.out _ _ ?_ (fun _ => ?_)
          · exact since_trans hS hx
          clear hKr Kr
          replace hS : Since w3 V4 := since_trans hS hx
          try simp only [Act.put, List.setIfInBounds_toArray, List.set_cons_zero, List.set_cons_succ]
          refine wpAnyH_take (i := 5) (oi := ⟨some 20, _, _, _, _, _⟩) (v := ?_) rfl (by kernel_rfl) (by kernel_rfl) (by kernel_rfl) (fun _ _ _ h => h) (Or.inl ⟨by rfl, ?_⟩) hS ?_
          rotate_left
          · intro W hW; go_simp; with_reducible rfl
          try simp only [Act.put, List.setIfInBounds_toArray, List.set_cons_zero, List.set_cons_succ]
          refine wpAnyH_take (i := 6) (oi := ⟨some 26, _, _, _, _, _⟩) (v := ?_) rfl (by kernel_rfl) (by kernel_rfl) (by kernel_rfl) (fun _ _ _ h => h) (Or.inl ⟨by rfl, ?_⟩) hS ?_
          rotate_left
          · intro W hW; go_simp; with_reducible rfl
          try simp only [Act.put, List.setIfInBounds_toArray, List.set_cons_zero, List.set_cons_succ]
          refine wpAnyH_take (i := 7) (oi := ⟨some 27, _, _, _, _, _⟩) (v := ?_) rfl (by kernel_rfl) (by kernel_rfl) (by kernel_rfl) (fun _ _ _ h => h) (Or.inl ⟨by rfl, ?_⟩) hS ?_
          rotate_left
          · intro W hW; go_simp; with_reducible rfl
          try simp only [Act.put, List.setIfInBounds_toArray, List.set_cons_zero, List.set_cons_succ]
          refine wpAnyH_ready (rs := [8]) (by kernel_rfl) (by simp) ?_
          refine AllReadyH.cons (o := ⟨some 6, _, _, _, _, _⟩) rfl (fun Kr hKr => ?_) AllReadyH.nil
          -- operation 8: a step
          try rw [if_pos (by kernel_rfl)]
          refine wp_alloc_bk 32 rfl ntZ (by kernel_rfl) ?_
          intro VA z hbx hx hle
          have HAL : Hid (Bk VA z ntZ 32) := Lib.hid hbx
          have HLE := Lib.hid (Nat.le_trans hS.size hle)
          try have HOF := Lib.hid (HGT.out.off z HLE.out (.inr (Nat.le_trans HGT.out.top hle)))
          try replace HGT := Lib.hid (HGT.out.below hx)
          show Kr _ _
          refine hKr.out _ _ ?_ (fun _ => ?_)
          · exact since_trans hS hx
          clear hKr Kr
          replace hS : Since w3 VA := since_trans hS hx
          try simp only [Act.put, List.setIfInBounds_toArray, List.set_cons_zero, List.set_cons_succ]
          refine wpAnyH_ready (rs := [9]) (by kernel_rfl) (by simp) ?_
          refine AllReadyH.cons (o := ⟨none, _, _, _, _, _⟩) rfl (fun Kr hKr => ?_) AllReadyH.nil
          -- operation 9: a step
          try rw [if_pos (by kernel_rfl)]
          refine wp_store_bk 32 _ _ rfl z (ntC m p) rfl rfl 32 ntZ HAL.out (by kernel_rfl) rfl (ntC_one _ _) ?_
          intro VS hbx hg9
          have HBX : Hid (NtB VS z 32 m p) := Lib.hid ⟨hbx⟩
          have HNP := Lib.hid (HGT.out.at_.off HOF.out hg9)
          show Kr _ _
          refine hKr.out _ _ ?_ (fun _ => ?_)
          · exact Below.grown hS hg9 hS.size (fun q e => by have := HLE.out; have e := Option.some.inj e; omega)
          clear hKr Kr
          replace hS : Since w3 VS := Below.grown hS hg9 hS.size (fun q e => by have := HLE.out; have e := Option.some.inj e; omega)
          try simp only [Act.put]
          refine wpAnyH_take (i := 10) (oi := ⟨some 7, _, _, _, _, _⟩) (v := ?_) rfl (by kernel_rfl) (by kernel_rfl) (by kernel_rfl) (fun _ _ _ h => h) (Or.inl ⟨by rfl, ?_⟩) hS ?_
          rotate_left
          · intro W hW; go_simp; with_reducible rfl
          try simp only [Act.put, List.setIfInBounds_toArray, List.set_cons_zero, List.set_cons_succ]
          refine wpAnyH_done (by kernel_rfl) ?_ _
          go_wp2_with fail
          go_meet
          case rel => exact ⟨z, p, rfl, rfl, Lib.hid hS, HBX, HNP⟩
        · skip
          -- operation 8: a step
          try rw [if_pos (by kernel_rfl)]
          refine wp_alloc_bk 32 rfl ntZ (by kernel_rfl) ?_
          intro VA z hbx hx hle
          have HAL : Hid (Bk VA z ntZ 32) := Lib.hid hbx
          have HLE := Lib.hid (Nat.le_trans hS.size hle)
          try have HOF := Lib.hid (HGT.out.off z HLE.out (.inr (Nat.le_trans HGT.out.top hle)))
          try replace HGT := Lib.hid (HGT.out.below hx)
          show Kr _ _
          refine hKr.out _ _ ?_ (fun _ => ?_)
          · exact since_trans hS hx
          clear hKr Kr
          replace hS : Since w3 VA := since_trans hS hx
          try simp only [Act.put, List.setIfInBounds_toArray, List.set_cons_zero, List.set_cons_succ]
          refine wpAnyH_ready (rs := [4]) (by kernel_rfl) (by simp) ?_
          refine AllReadyH.cons (o := ⟨some 25, _, _, _, _, _⟩) rfl (fun Kr hKr => ?_) AllReadyH.nil
          -- operation 4: a call
          go_simp
          refine (HMG.out _ hS).mono ?_
          rintro e V4 ho
          obtain ⟨p, rfl, hgt, hx⟩ := merged hS HN3.out HM3.out ho
          have HGT := Lib.hid hgt
          try have HOF := Lib.hid (HGT.out.off z HLE.out (.inl (Bk.lt HAL.out)))
          try replace HAL := Lib.hid (HAL.out.below hx)
          show Kr _ _
          refine hKr.out _ _ ?_ (fun _ => ?_)
          · exact since_trans hS hx
          clear hKr Kr
          replace hS : Since w3 V4 := since_trans hS hx
          try simp only [Act.put, List.setIfInBounds_toArray, List.set_cons_zero, List.set_cons_succ]
          refine wpAnyH_take (i := 5) (oi := ⟨some 20, _, _, _, _, _⟩) (v := ?_) rfl (by kernel_rfl) (by kernel_rfl) (by kernel_rfl) (fun _ _ _ h => h) (Or.inl ⟨by rfl, ?_⟩) hS ?_
          rotate_left
          · intro W hW; go_simp; with_reducible rfl
          try simp only [Act.put, List.setIfInBounds_toArray, List.set_cons_zero, List.set_cons_succ]
          refine wpAnyH_take (i := 6) (oi := ⟨some 26, _, _, _, _, _⟩) (v := ?_) rfl (by kernel_rfl) (by kernel_rfl) (by kernel_rfl) (fun _ _ _ h => h) (Or.inl ⟨by rfl, ?_⟩) hS ?_
          rotate_left
          · intro W hW; go_simp; with_reducible rfl
          try simp only [Act.put, List.setIfInBounds_toArray, List.set_cons_zero, List.set_cons_succ]
          refine wpAnyH_take (i := 7) (oi := ⟨some 27, _, _, _, _, _⟩) (v := ?_) rfl (by kernel_rfl) (by kernel_rfl) (by kernel_rfl) (fun _ _ _ h => h) (Or.inl ⟨by rfl, ?_⟩) hS ?_
          rotate_left
          · intro W hW; go_simp; with_reducible rfl
          try simp only [Act.put, List.setIfInBounds_toArray, List.set_cons_zero, List.set_cons_succ]
          refine wpAnyH_ready (rs := [9]) (by kernel_rfl) (by simp) ?_
          refine AllReadyH.cons (o := ⟨none, _, _, _, _, _⟩) rfl (fun Kr hKr => ?_) AllReadyH.nil
          -- operation 9: a step
          try rw [if_pos (by kernel_rfl)]
          refine wp_store_bk 32 _ _ rfl z (ntC m p) rfl rfl 32 ntZ HAL.out (by kernel_rfl) rfl (ntC_one _ _) ?_
          intro VS hbx hg9
          have HBX : Hid (NtB VS z 32 m p) := Lib.hid ⟨hbx⟩
          have HNP := Lib.hid (HGT.out.at_.off HOF.out hg9)
          show Kr _ _
          refine hKr.out _ _ ?_ (fun _ => ?_)
          · exact Below.grown hS hg9 hS.size (fun q e => by have := HLE.out; have e := Option.some.inj e; omega)
          clear hKr Kr
          replace hS : Since w3 VS := Below.grown hS hg9 hS.size (fun q e => by have := HLE.out; have e := Option.some.inj e; omega)
          try simp only [Act.put]
          refine wpAnyH_take (i := 10) (oi := ⟨some 7, _, _, _, _, _⟩) (v := ?_) rfl (by kernel_rfl) (by kernel_rfl) (by kernel_rfl) (fun _ _ _ h => h) (Or.inl ⟨by rfl, ?_⟩) hS ?_
          rotate_left
          · intro W hW; go_simp; with_reducible rfl
          try simp only [Act.put, List.setIfInBounds_toArray, List.set_cons_zero, List.set_cons_succ]
          refine wpAnyH_done (by kernel_rfl) ?_ _
          go_wp2_with fail
          go_meet
          case rel => exact ⟨z, p, rfl, rfl, Lib.hid hS, HBX, HNP⟩
      · skip
        -- operation 8: a step
        try rw [if_pos (by kernel_rfl)]
        refine wp_alloc_bk 32 rfl ntZ (by kernel_rfl) ?_
        intro VA z hbx hx hle
        have HAL : Hid (Bk VA z ntZ 32) := Lib.hid hbx
        have HLE := Lib.hid (Nat.le_trans hS.size hle)
        try have HOF := Lib.hid (HGT.out.off z HLE.out (.inr (Nat.le_trans HGT.out.top hle)))
        try replace HGT := Lib.hid (HGT.out.below hx)
        show Kr _ _
        refine hKr.out _ _ ?_ (fun _ => ?_)
        · exact since_trans hS hx
        clear hKr Kr
        replace hS : Since w3 VA := since_trans hS hx
        try simp only [Act.put, List.setIfInBounds_toArray, List.set_cons_zero, List.set_cons_succ]
        refine wpAnyH_ready (rs := [3]) (by kernel_rfl) (by simp) ?_
        refine AllReadyH.cons (o := ⟨some 24, _, _, _, _, _⟩) rfl (fun Kr hKr => ?_) AllReadyH.nil
        -- operation 3: a call
        go_simp
        refine (ours_any y ⟨A2, k2, c2, B2, l2, d2, e2⟩ _).mono ?_
        rintro e V3 ⟨rfl, hx⟩
        try replace HAL := Lib.hid (HAL.out.below hx)
        show Kr _ _
        refine hKr.out _ _ ?_ (fun _ => ?_)
        · exact since_trans hS hx
        clear hKr Kr
        replace hS : Since w3 V3 := since_trans hS hx
        try simp only [Act.put, List.setIfInBounds_toArray, List.set_cons_zero, List.set_cons_succ]
        refine wpAnyH_ready (rs := [4]) (by kernel_rfl) (by simp) ?_
        refine AllReadyH.cons (o := ⟨some 25, _, _, _, _, _⟩) rfl (fun Kr hKr => ?_) AllReadyH.nil
        -- operation 4: a call
        go_simp
        refine (HMG.out _ hS).mono ?_
        rintro e V4 ho
        obtain ⟨p, rfl, hgt, hx⟩ := merged hS HN3.out HM3.out ho
        have HGT := Lib.hid hgt
        try have HOF := Lib.hid (HGT.out.off z HLE.out (.inl (Bk.lt HAL.out)))
        try replace HAL := Lib.hid (HAL.out.below hx)
        show Kr _ _
        refine hKr.out _ _ ?_ (fun _ => ?_)
        · exact since_trans hS hx
        clear hKr Kr
        replace hS : Since w3 V4 := since_trans hS hx
        try simp only [Act.put, List.setIfInBounds_toArray, List.set_cons_zero, List.set_cons_succ]
        refine wpAnyH_take (i := 5) (oi := ⟨some 20, _, _, _, _, _⟩) (v := ?_) rfl (by kernel_rfl) (by kernel_rfl) (by kernel_rfl) (fun _ _ _ h => h) (Or.inl ⟨by rfl, ?_⟩) hS ?_
        rotate_left
        · intro W hW; go_simp; with_reducible rfl
        try simp only [Act.put, List.setIfInBounds_toArray, List.set_cons_zero, List.set_cons_succ]
        refine wpAnyH_take (i := 6) (oi := ⟨some 26, _, _, _, _, _⟩) (v := ?_) rfl (by kernel_rfl) (by kernel_rfl) (by kernel_rfl) (fun _ _ _ h => h) (Or.inl ⟨by rfl, ?_⟩) hS ?_
        rotate_left
        · intro W hW; go_simp; with_reducible rfl
        try simp only [Act.put, List.setIfInBounds_toArray, List.set_cons_zero, List.set_cons_succ]
        refine wpAnyH_take (i := 7) (oi := ⟨some 27, _, _, _, _, _⟩) (v := ?_) rfl (by kernel_rfl) (by kernel_rfl) (by kernel_rfl) (fun _ _ _ h => h) (Or.inl ⟨by rfl, ?_⟩) hS ?_
        rotate_left
        · intro W hW; go_simp; with_reducible rfl
        try simp only [Act.put, List.setIfInBounds_toArray, List.set_cons_zero, List.set_cons_succ]
        refine wpAnyH_ready (rs := [9]) (by kernel_rfl) (by simp) ?_
        refine AllReadyH.cons (o := ⟨none, _, _, _, _, _⟩) rfl (fun Kr hKr => ?_) AllReadyH.nil
        -- operation 9: a step
        try rw [if_pos (by kernel_rfl)]
        refine wp_store_bk 32 _ _ rfl z (ntC m p) rfl rfl 32 ntZ HAL.out (by kernel_rfl) rfl (ntC_one _ _) ?_
        intro VS hbx hg9
        have HBX : Hid (NtB VS z 32 m p) := Lib.hid ⟨hbx⟩
        have HNP := Lib.hid (HGT.out.at_.off HOF.out hg9)
        show Kr _ _
        refine hKr.out _ _ ?_ (fun _ => ?_)
        · exact Below.grown hS hg9 hS.size (fun q e => by have := HLE.out; have e := Option.some.inj e; omega)
        clear hKr Kr
        replace hS : Since w3 VS := Below.grown hS hg9 hS.size (fun q e => by have := HLE.out; have e := Option.some.inj e; omega)
        try simp only [Act.put]
        refine wpAnyH_take (i := 10) (oi := ⟨some 7, _, _, _, _, _⟩) (v := ?_) rfl (by kernel_rfl) (by kernel_rfl) (by kernel_rfl) (fun _ _ _ h => h) (Or.inl ⟨by rfl, ?_⟩) hS ?_
        rotate_left
        · intro W hW; go_simp; with_reducible rfl
        try simp only [Act.put, List.setIfInBounds_toArray, List.set_cons_zero, List.set_cons_succ]
        refine wpAnyH_done (by kernel_rfl) ?_ _
        go_wp2_with fail
        go_meet
        case rel => exact ⟨z, p, rfl, rfl, Lib.hid hS, HBX, HNP⟩
    · skip
      -- operation 8: a step
      try rw [if_pos (by kernel_rfl)]
      refine wp_alloc_bk 32 rfl ntZ (by kernel_rfl) ?_
      intro VA z hbx hx hle
      have HAL : Hid (Bk VA z ntZ 32) := Lib.hid hbx
      have HLE := Lib.hid (Nat.le_trans hS.size hle)
      try have HOF := Lib.hid (HGT.out.off z HLE.out (.inr (Nat.le_trans HGT.out.top hle)))
      try replace HGT := Lib.hid (HGT.out.below hx)
      show Kr _ _
      refine hKr.out _ _ ?_ (fun _ => ?_)
      · exact since_trans hS hx
      clear hKr Kr
      replace hS : Since w3 VA := since_trans hS hx
      try simp only [Act.put, List.setIfInBounds_toArray, List.set_cons_zero, List.set_cons_succ]
      refine wpAnyH_ready (rs := [1]) (by kernel_rfl) (by simp) ?_
      refine AllReadyH.cons (o := ⟨some 22, _, _, _, _, _⟩) rfl (fun Kr hKr => ?_) AllReadyH.nil
      -- operation 1: a call
      go_simp
      refine (ours_any x ⟨A1, k1, c1, B1, l1, d1, e1⟩ _).mono ?_
      rintro e V1 ⟨rfl, hx⟩
      try replace HAL := Lib.hid (HAL.out.below hx)
      show Kr _ _
      refine hKr.out _ _ ?_ (fun _ => ?_)
      · exact since_trans hS hx
      clear hKr Kr
      replace hS : Since w3 V1 := since_trans hS hx
      try simp only [Act.put, List.setIfInBounds_toArray, List.set_cons_zero, List.set_cons_succ]
      refine wpAnyH_ready (rs := [3]) (by kernel_rfl) (by simp) ?_
      refine AllReadyH.cons (o := ⟨some 24, _, _, _, _, _⟩) rfl (fun Kr hKr => ?_) AllReadyH.nil
      -- operation 3: a call
      go_simp
      refine (ours_any y ⟨A2, k2, c2, B2, l2, d2, e2⟩ _).mono ?_
      rintro e V3 ⟨rfl, hx⟩
      try replace HAL := Lib.hid (HAL.out.below hx)
      show Kr _ _
      refine hKr.out _ _ ?_ (fun _ => ?_)
      · exact since_trans hS hx
      clear hKr Kr
      replace hS : Since w3 V3 := since_trans hS hx
      try simp only [Act.put, List.setIfInBounds_toArray, List.set_cons_zero, List.set_cons_succ]
      refine wpAnyH_ready (rs := [4]) (by kernel_rfl) (by simp) ?_
      refine AllReadyH.cons (o := ⟨some 25, _, _, _, _, _⟩) rfl (fun Kr hKr => ?_) AllReadyH.nil
      -- operation 4: a call
      go_simp
      refine (HMG.out _ hS).mono ?_
      rintro e V4 ho
      obtain ⟨p, rfl, hgt, hx⟩ := merged hS HN3.out HM3.out ho
      have HGT := Lib.hid hgt
      try have HOF := Lib.hid (HGT.out.off z HLE.out (.inl (Bk.lt HAL.out)))
      try replace HAL := Lib.hid (HAL.out.below hx)
      show Kr _ _
      refine hKr.out _ _ ?_ (fun _ => ?_)
      · exact since_trans hS hx
      clear hKr Kr
      replace hS : Since w3 V4 := since_trans hS hx
      try simp only [Act.put, List.setIfInBounds_toArray, List.set_cons_zero, List.set_cons_succ]
      refine wpAnyH_take (i := 5) (oi := ⟨some 20, _, _, _, _, _⟩) (v := ?_) rfl (by kernel_rfl) (by kernel_rfl) (by kernel_rfl) (fun _ _ _ h => h) (Or.inl ⟨by rfl, ?_⟩) hS ?_
      rotate_left
      · intro W hW; go_simp; with_reducible rfl
      try simp only [Act.put, List.setIfInBounds_toArray, List.set_cons_zero, List.set_cons_succ]
      refine wpAnyH_take (i := 6) (oi := ⟨some 26, _, _, _, _, _⟩) (v := ?_) rfl (by kernel_rfl) (by kernel_rfl) (by kernel_rfl) (fun _ _ _ h => h) (Or.inl ⟨by rfl, ?_⟩) hS ?_
      rotate_left
      · intro W hW; go_simp; with_reducible rfl
      try simp only [Act.put, List.setIfInBounds_toArray, List.set_cons_zero, List.set_cons_succ]
      refine wpAnyH_take (i := 7) (oi := ⟨some 27, _, _, _, _, _⟩) (v := ?_) rfl (by kernel_rfl) (by kernel_rfl) (by kernel_rfl) (fun _ _ _ h => h) (Or.inl ⟨by rfl, ?_⟩) hS ?_
      rotate_left
      · intro W hW; go_simp; with_reducible rfl
      try simp only [Act.put, List.setIfInBounds_toArray, List.set_cons_zero, List.set_cons_succ]
      refine wpAnyH_ready (rs := [9]) (by kernel_rfl) (by simp) ?_
      refine AllReadyH.cons (o := ⟨none, _, _, _, _, _⟩) rfl (fun Kr hKr => ?_) AllReadyH.nil
      -- operation 9: a step
      try rw [if_pos (by kernel_rfl)]
      refine wp_store_bk 32 _ _ rfl z (ntC m p) rfl rfl 32 ntZ HAL.out (by kernel_rfl) rfl (ntC_one _ _) ?_
      intro VS hbx hg9
      have HBX : Hid (NtB VS z 32 m p) := Lib.hid ⟨hbx⟩
      have HNP := Lib.hid (HGT.out.at_.off HOF.out hg9)
      show Kr _ _
      refine hKr.out _ _ ?_ (fun _ => ?_)
      · exact Below.grown hS hg9 hS.size (fun q e => by have := HLE.out; have e := Option.some.inj e; omega)
      clear hKr Kr
      replace hS : Since w3 VS := Below.grown hS hg9 hS.size (fun q e => by have := HLE.out; have e := Option.some.inj e; omega)
      try simp only [Act.put]
      refine wpAnyH_take (i := 10) (oi := ⟨some 7, _, _, _, _, _⟩) (v := ?_) rfl (by kernel_rfl) (by kernel_rfl) (by kernel_rfl) (fun _ _ _ h => h) (Or.inl ⟨by rfl, ?_⟩) hS ?_
      rotate_left
      · intro W hW; go_simp; with_reducible rfl
      try simp only [Act.put, List.setIfInBounds_toArray, List.set_cons_zero, List.set_cons_succ]
      refine wpAnyH_done (by kernel_rfl) ?_ _
      go_wp2_with fail
      go_meet
      case rel => exact ⟨z, p, rfl, rfl, Lib.hid hS, HBX, HNP⟩
  case rest =>
    obtain ⟨z, p, rfl, rfl, HW4, HZ, HP⟩ := hcut
    clear x0 x1 x2 x3 y0 y1 y2 y3 HMG
    have HX4 := Lib.hid (HX3.out.below HW4.out)
    have HN4 := Lib.hid (HN3.out.below HW4.out)
    have HY4 := Lib.hid (HY3.out.below HW4.out)
    have HM4 := Lib.hid (HM3.out.below HW4.out)
    have HWC := Lib.hid (HWB.out.trans (HW4.out.mono HWB.out.size))
    clear HX3 HN3 HY3 HM3 HWB HW4
    obtain ⟨n1, n2, n3, n4⟩ := HN4.out.n_
    obtain ⟨n5, n6, n7, n8⟩ := HM4.out.n_
    simp only at n1 n2 n3 n4 n5 n6 n7 n8
    have hk1 : k1 ≤ 100 := by have := HFX.out.1; omega
    have hl1 : l1 ≤ 100 := by have := HFX.out.2.1; omega
    have hk2 : k2 ≤ 100 := by have := HFY.out.1; omega
    have hl2 : l2 ≤ 100 := by have := HFY.out.2.1; omega
    have HLN := Lib.hid (And.intro (And.intro n1 n3) (And.intro n5 n7))
    clear n1 n2 n3 n4 n5 n6 n7 n8
    have a0 := HX4.out.c0
    have a1 := HX4.out.c1
    have a2 := HX4.out.c2
    have a3 := HX4.out.c3
    simp only at a2 a3
    go_wp2_with fail
    refine (ours_any x ⟨A1, k1, c1, B1, l1, d1, e1⟩ wc).mono ?_
    rintro e w5 ⟨rfl, hb5⟩
    have HB5 := Lib.hid hb5
    clear hb5 a0 a1 a2 a3
    go_wp2_with fail
    refine (HW.out.size x ⟨A1, k1, c1, B1, l1, d1, e1⟩ w5 (HN4.out.below HB5.out) HSX.out).mono ?_
    rintro e w6 ⟨rfl, hb6⟩
    have HB6 := Lib.hid (HB5.out.trans (hb6.mono HB5.out.size))
    clear hb6 HB5
    have HY6 := Lib.hid (HY4.out.below HB6.out)
    have a0 := HY6.out.c0
    have a1 := HY6.out.c1
    have a2 := HY6.out.c2
    have a3 := HY6.out.c3
    simp only at a2 a3
    obtain ⟨sx, hsx⟩ : ∃ sx : Int, sx = ((encB x).length : Int) := ⟨_, rfl⟩
    rw [← hsx]
    have HSXE := Lib.hid hsx
    clear hsx
    go_wp2_with fail
    refine (ours_any y ⟨A2, k2, c2, B2, l2, d2, e2⟩ w6).mono ?_
    rintro e w7 ⟨rfl, hb7⟩
    have HB7 := Lib.hid (HB6.out.trans (hb7.mono HB6.out.size))
    clear hb7 a0 a1 a2 a3 HY6 HB6
    go_wp2_with fail
    refine (HW.out.size y ⟨A2, k2, c2, B2, l2, d2, e2⟩ w7 (HM4.out.below HB7.out) HSY.out).mono ?_
    rintro e w8 ⟨rfl, hb8⟩
    have HB8 := Lib.hid (HB7.out.trans (hb8.mono HB7.out.size))
    clear hb8 HB7
    obtain ⟨sy, hsy⟩ : ∃ sy : Int, sy = ((encB y).length : Int) := ⟨_, rfl⟩
    rw [← hsy]
    have HSYE := Lib.hid hsy
    clear hsy
    have HZ8 := Lib.hid (HZ.out.below HB8.out)
    have HP8 := Lib.hid (HP.out.below HB8.out)
    clear HZ HP
    obtain ⟨pA, pn, pc, pB, pm, pd, pr⟩ := p
    by_cases he : E = 0
    · have HXA := Lib.hid (HX4.out.below HB8.out)
      have b2 := HXA.out.c2
      have b3 := HXA.out.c3
      simp only at b2 b3
      have z0 := HZ8.out.c0
      have z1 := HZ8.out.c1
      have z2 := HZ8.out.c2
      have z3 := HZ8.out.c3
      simp only at z2 z3
      obtain ⟨f1, f2⟩ := ne_yes he
      have hm0 : merE x y = 0 := by rw [← HEE.out]; exact he
      obtain ⟨⟨s1, s2, s3, s4⟩, s5, s6⟩ := merE_san hm0
      have hmm : m = mer x y := HME.out.trans s6
      obtain ⟨m1, m2, m3⟩ := upTo_count s1.2.1 s2.2.1
      have hx9 : sx = 11 + 33 * (k1 : Int) + 9 * (l1 : Int) := by
        have e0 := HSXE.out
        have e1 := HLN.out.1.1
        have e2 := HLN.out.1.2
        rw [encB_yes s1, enc_len s1] at e0; omega
      have hy9 : sy = 11 + 33 * (k2 : Int) + 9 * (l2 : Int) := by
        have e0 := HSYE.out
        have e1 := HLN.out.2.1
        have e2 := HLN.out.2.2
        rw [encB_yes s2, enc_len s2] at e0; omega
      obtain ⟨sm, hsm⟩ : ∃ sm : Int, sm = ((encB m).length : Int) := ⟨_, rfl⟩
      have hm9 : sm = 11 + 33 * ((upTo x.im y.im 256).length : Int) + 9 * ((l1 : Int) + (l2 : Int)) := by
        rw [hsm, hmm, encB_yes s5, enc_len s5]
        show ((11 + 33 * (upTo x.im y.im 256).length + 9 * (x.op ++ y.op).length : Nat) : Int) = _
        have e1 := HLN.out.1.2
        have e2 := HLN.out.2.2
        rw [List.length_append]; omega
      have e11 := HLN.out.1.1
      have e12 := HLN.out.2.1
      have hS9 := HSXE.out
      have HSM : Hid (SmallN m) := Lib.hid (by rw [hmm]; exact ⟨by have := s5.1.2.2.1; omega, by have := s5.1.2.2.2.1; omega, fun i z hz => by have := (s5.2.1 i z hz).2.1; omega⟩)
      have t1 : (sx == 11 + 33 * (k1 : Int) + 9 * (l1 : Int)) = true := by rw [hx9]; simp
      have t2 : decide (sm ≤ sx + sy - 11) = true := decide_eq_true (by omega)
      have t3 : decide (sm ≥ max sx sy) = true := decide_eq_true (by omega)
      have t4 : decide (max sx sy ≤ sm) = true := decide_eq_true (by omega)
      have hb1 : 0 ≤ sx ∧ sx ≤ 100000 := by omega
      have hb2 : 0 ≤ sy ∧ sy ≤ 100000 := by omega
      have HSME := Lib.hid hsm
      clear e11 e12 hm0 s1 s2 s3 s4 s5 s6 hmm m1 m2 m3 hx9 hy9 hm9 hS9 hsm he
      go_wp2_with fail
      refine (HW.out.size m ⟨pA, pn, pc, pB, pm, pd, pr⟩ w8 HP8.out HSM.out).mono ?_
      rintro e w9 ⟨rfl, hb9⟩
      rw [← HSME.out]
      have HB9 := Lib.hid hb9
      clear hb9 z0 z1 z2 z3 b2 b3
      have HZ9 := Lib.hid (HZ8.out.below HB9.out)
      have z0 := HZ9.out.c0
      have z1 := HZ9.out.c1
      have z2 := HZ9.out.c2
      have z3 := HZ9.out.c3
      simp only at z2 z3
      go_wp2_with fail
      refine (HW.out.size m ⟨pA, pn, pc, pB, pm, pd, pr⟩ w9 (HP8.out.below HB9.out) HSM.out).mono ?_
      rintro e w10 ⟨rfl, hb10⟩
      rw [← HSME.out]
      have HB10 := Lib.hid (HB9.out.trans (hb10.mono HB9.out.size))
      clear hb10
      go_wp2_with fail
      go_ret
      exact ⟨rfl, HWC.out.trans ((HB8.out.trans (HB10.out.mono HB8.out.size)).mono HWC.out.size)⟩
    · obtain ⟨f1, f2⟩ := ne_no he
      have hm0 : m = Nt.zero := by rw [HME.out]; exact merE_zeroN (fun h => he (by rw [HEE.out]; exact h))
      obtain ⟨n1, _, n3, _⟩ := HP8.out.n_
      rw [hm0] at n1 n3
      replace n1 : 0 = pn := n1
      replace n3 : 0 = pm := n3
      subst n1 n3
      have z2 := HZ8.out.c2
      have z3 := HZ8.out.c3
      simp only at z2 z3
      clear hm0 he
      go_wp2_with fail
      go_ret
      exact ⟨rfl, HWC.out.trans (HB8.out.mono HWC.out.size)⟩
end Go.Proofs.Ytjpnihmijnpjcaa
