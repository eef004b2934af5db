/-
  NoteMerges over the words: two as one have of each block what the later one says, or else the former; all ops, in order; one with nothing says nothing more.
-/
import Derived.Test.YtjpnihmijnpjcaaNv
import Derived.Deep.CutRange
namespace Go.Proofs.Ytjpnihmijnpjcaa
set_option maxRecDepth 100000
set_option linter.unusedVariables false
set_option linter.unusedSimpArgs false
open Go.RowKit Wm Nn

theorem nt_bare (w : World) (s : Int) (h : okI s) : NtAt w ⟨1, s, [], []⟩ nr0 := by
  obtain ⟨h1, h2, h3, h4⟩ := nt_zero w
  exact ⟨h1, h2, ⟨by show (-9223372036854775808 : Int) ≤ 1; decide, by show (1 : Int) ≤ _; decide⟩, h⟩
theorem small_merN (x y : Nt) : SmallN (merN x y) := by
  by_cases h : merE x y = 0
  · obtain ⟨_, s5, s6⟩ := merE_san h
    rw [s6]
    exact ⟨by have := s5.1.2.2.1; omega, by have := s5.1.2.2.2.1; omega, fun i z hz => by have := (s5.2.1 i z hz).2.1; omega⟩
  · rw [merE_zeroN h]
    exact ⟨by show (0 : Nat) ≤ _; omega, by show (0 : Nat) ≤ _; omega, fun i y hy => by have h : ([] : List Im)[i]? = some y := hy; simp at h⟩
theorem small_bare (s : Int) : SmallN ⟨1, s, [], []⟩ := ⟨Nat.zero_le _, Nat.zero_le _, fun i y hy => by simp at hy⟩

set_option maxHeartbeats 16000000 in
theorem merges_walk (hw : NoteOk) (a b : Nt) (ra rb : Nr) (blk : Int) (w : World) (ha : NtAt w a ra) (hb : NtAt w b rb) :
    Calls Try.prog 6 #[ntV a ra, ntV b rb, .int .i64 blk] w fun e w' => e = .returned (.bool true) ∧ Below w.heap.size w w' := by
  have HW := Lib.hid hw
  clear hw
  obtain ⟨Aa, ka, ca, Ba, la, da, ea⟩ := ra
  obtain ⟨Ab, kb, cb, Bb, lb, db, eb⟩ := rb
  obtain ⟨HBa, HBb, HB, HNa, HNb⟩ := two_boxed w a b _ _ ha hb 25
  clear ha hb
  unfold ntV
  obtain ⟨C1, hC1⟩ : ∃ C, C = ntC a ⟨Aa, ka, ca, Ba, la, da, ea⟩ := ⟨_, rfl⟩
  obtain ⟨C2, hC2⟩ : ∃ C, C = ntC b ⟨Ab, kb, cb, Bb, lb, db, eb⟩ := ⟨_, rfl⟩
  rw [← hC1, ← hC2] at HBa HBb HB HNa HNb ⊢
  clear hC1 hC2
  go_enter Try.func6, Try.ntmps6
  go_upto_region 1 with fail
  generalize w.heap.size + 1 = gb at *
  generalize (w.alloc (.cells C1 25)).alloc (.cells C2 25) = w0 at *
  go_wp2_with fail
  refine (awake_any HW.out w0).mono ?_
  rintro e w1 ⟨rfl, hb1⟩
  have HS := Lib.hid hb1
  clear hb1
  have HX := Lib.hid (HBa.out.below HS.out)
  have a0 := HX.out.c0
  have a1 := HX.out.c1
  have a2 := HX.out.c2
  have a3 := HX.out.c3
  simp only at a2 a3
  go_wp2_with fail
  refine (few_any a ⟨Aa, ka, ca, Ba, la, da, ea⟩ 100 w1 (HNa.out.below HS.out) (by omega)).mono ?_
  rintro e w2 ⟨hb2, ⟨rfl, hf⟩ | rfl⟩
  rotate_left
  · have HB2 := Lib.hid (HB.out.trans ((HS.out.trans (hb2.mono HS.out.size)).mono HB.out.size))
    clear hb2 a0 a1 a2 a3
    go_wp2_with fail
    go_ret
    exact ⟨rfl, HB2.out⟩
  replace HS := Lib.hid (HS.out.trans (hb2.mono HS.out.size))
  have HEa := Lib.hid hf
  have HFa := Lib.hid (few_small hf (by omega))
  clear hb2 hf a0 a1 a2 a3 HX
  have HX := Lib.hid (HBb.out.below HS.out)
  have a0 := HX.out.c0
  have a1 := HX.out.c1
  have a2 := HX.out.c2
  have a3 := HX.out.c3
  simp only at a2 a3
  go_wp2_with fail
  refine (few_any b ⟨Ab, kb, cb, Bb, lb, db, eb⟩ 100 w2 (HNb.out.below HS.out) (by omega)).mono ?_
  rintro e w3 ⟨hb2, ⟨rfl, hf⟩ | rfl⟩
  rotate_left
  · have HB2 := Lib.hid (HB.out.trans ((HS.out.trans (hb2.mono HS.out.size)).mono HB.out.size))
    clear hb2 a0 a1 a2 a3
    go_wp2_with fail
    go_ret
    exact ⟨rfl, HB2.out⟩
  replace HS := Lib.hid (HS.out.trans (hb2.mono HS.out.size))
  have HEb := Lib.hid hf
  have HFb := Lib.hid (few_small hf (by omega))
  clear hb2 hf a0 a1 a2 a3 HX
  replace HB := Lib.hid (HB.out.trans (HS.out.mono HB.out.size))
  replace HBa := Lib.hid (HBa.out.below HS.out)
  replace HNa := Lib.hid (HNa.out.below HS.out)
  replace HBb := Lib.hid (HBb.out.below HS.out)
  replace HNb := Lib.hid (HNb.out.below HS.out)
  clear HS
  obtain ⟨m1, hm⟩ : ∃ m, m = merN a b := ⟨_, rfl⟩
  obtain ⟨E1, hE⟩ : ∃ E, E = merE a b := ⟨_, rfl⟩
  have HMG : Hid (∀ V, Since w3 V → Calls Try.prog 16 #[ntV a ⟨Aa, ka, ca, Ba, la, da, ea⟩, ntV b ⟨Ab, kb, cb, Bb, lb, db, eb⟩] V (MergeOut V m1 E1 ⟨Aa, ka, ca, Ba, la, da, ea⟩ ⟨Ab, kb, cb, Bb, lb, db, eb⟩)) := Lib.hid (fun V hV => by
    rw [hm, hE]
    exact HW.out.merge a b _ _ V (HNa.out.below hV) (HNb.out.below hV) HFa.out HFb.out)
  have HM1 := Lib.hid hm
  have HG1 := Lib.hid hE
  clear hm hE
  have x0 : ∀ V, Since w3 V → V.cell? ⟨w.heap.size, 0, none⟩ = some (.int .i64 a.kind) := fun V hV => (HBa.out.below hV).c0
  have x1 : ∀ V, Since w3 V → V.cell? ⟨w.heap.size, 1, none⟩ = some (.int .i64 a.seq) := fun V hV => (HBa.out.below hV).c1
  have x2 : ∀ V, Since w3 V → V.cell? ⟨w.heap.size, 2, none⟩ = some (.slice Aa ka ca) := fun V hV => (HBa.out.below hV).c2
  have x3 : ∀ V, Since w3 V → V.cell? ⟨w.heap.size, 3, none⟩ = some (.slice Ba la da) := fun V hV => (HBa.out.below hV).c3
  have y0 : ∀ V, Since w3 V → V.cell? ⟨gb, 0, none⟩ = some (.int .i64 b.kind) := fun V hV => (HBb.out.below hV).c0
  have y1 : ∀ V, Since w3 V → V.cell? ⟨gb, 1, none⟩ = some (.int .i64 b.seq) := fun V hV => (HBb.out.below hV).c1
  have y2 : ∀ V, Since w3 V → V.cell? ⟨gb, 2, none⟩ = some (.slice Ab kb cb) := fun V hV => (HBb.out.below hV).c2
  have y3 : ∀ V, Since w3 V → V.cell? ⟨gb, 3, none⟩ = some (.slice Bb lb db) := fun V hV => (HBb.out.below hV).c3
  go_upto_region 4 with fail
  go_cut [8, 9] from 28 to 35 (fun u v wc => ∃ (z : Nat) (p : Nr), u = .pointer (some ⟨z, 0, none⟩) ∧ v = .int .i64 E1 ∧ Hid (Since w3 wc) ∧ Hid (NtB wc z 32 m1 p) ∧ Hid (NtAt wc m1 p))
  case first =>
    refine wp_region_since (by kernel_rfl) ?_
    have hS : Since w3 (World.drew w3) := (Below.refl _ _).drew
    refine wpAnyH_take (i := 0) (oi := ⟨some 29, _, _, _, _, _⟩) (v := ?_) rfl (by kernel_rfl) (by kernel_rfl) (by kernel_rfl) (fun _ _ _ h => h) (Or.inl ⟨by rfl, ?_⟩) hS ?_
    rotate_left
    · intro W hW; go_simp; with_reducible rfl
    try simp only [Act.put, List.setIfInBounds_toArray, List.set_cons_zero, List.set_cons_succ]
    refine wpAnyH_take (i := 2) (oi := ⟨some 31, _, _, _, _, _⟩) (v := ?_) rfl (by kernel_rfl) (by kernel_rfl) (by kernel_rfl) (fun _ _ _ h => h) (Or.inl ⟨by rfl, ?_⟩) hS ?_
    rotate_left
    · intro W hW; go_simp; with_reducible rfl
    try simp only [Act.put, List.setIfInBounds_toArray, List.set_cons_zero, List.set_cons_succ]
    refine wpAnyH_ready (rs := [1, 8]) (by kernel_rfl) (by simp) ?_
    refine AllReadyH.cons (o := ⟨some 30, _, _, _, _, _⟩) rfl (fun Kr hKr => ?_) (AllReadyH.cons (o := ⟨some 8, _, _, _, _, _⟩) rfl (fun Kr hKr => ?_) AllReadyH.nil)
    · skip
      -- operation 1: a call
      go_simp
      refine (ours_any a ⟨Aa, ka, ca, Ba, la, da, ea⟩ _).mono ?_
      rintro e V1 ⟨rfl, hx⟩
      try replace HAL := Lib.hid (HAL.out.below hx)
      show Kr _ _
      refine hKr.out _ _ ?_ (fun _ => ?_)
      · exact since_trans hS hx
      clear hKr Kr
      replace hS : Since w3 V1 := since_trans hS hx
      try simp only [Act.put, List.setIfInBounds_toArray, List.set_cons_zero, List.set_cons_succ]
      refine wpAnyH_ready (rs := [3, 8]) (by kernel_rfl) (by simp) ?_
      refine AllReadyH.cons (o := ⟨some 32, _, _, _, _, _⟩) rfl (fun Kr hKr => ?_) (AllReadyH.cons (o := ⟨some 8, _, _, _, _, _⟩) rfl (fun Kr hKr => ?_) AllReadyH.nil)
      · skip
        -- operation 3: a call
        go_simp
        refine (ours_any b ⟨Ab, kb, cb, Bb, lb, db, eb⟩ _).mono ?_
        rintro e V3 ⟨rfl, hx⟩
        try replace HAL := Lib.hid (HAL.out.below hx)
        show Kr _ _
        refine hKr.out _ _ ?_ (fun _ => ?_)
        · exact since_trans hS hx
        clear hKr Kr
        replace hS : Since w3 V3 := since_trans hS hx
        try simp only [Act.put, List.setIfInBounds_toArray, List.set_cons_zero, List.set_cons_succ]
        refine wpAnyH_ready (rs := [4, 8]) (by kernel_rfl) (by simp) ?_
        refine AllReadyH.cons (o := ⟨some 33, _, _, _, _, _⟩) rfl (fun Kr hKr => ?_) (AllReadyH.cons (o := ⟨some 8, _, _, _, _, _⟩) rfl (fun Kr hKr => ?_) AllReadyH.nil)
        · skip
          -- operation 4: a call
          go_simp
          refine (HMG.out _ hS).mono ?_
          rintro e V4 ho
          obtain ⟨p, rfl, hgt, hx⟩ := merged hS HNa.out HNb.out ho
          have HGT := Lib.hid hgt
          try have HOF := Lib.hid (HGT.out.off z HLE.out (.inl (Bk.lt HAL.out)))
          try replace HAL := Lib.hid (HAL.out.below hx)
          show Kr _ _
          refine hKr.out _ _ ?_ (fun _ => ?_)
          · exact since_trans hS hx
          clear hKr Kr
          replace hS : Since w3 V4 := since_trans hS hx
          try simp only [Act.put, List.setIfInBounds_toArray, List.set_cons_zero, List.set_cons_succ]
          refine wpAnyH_take (i := 5) (oi := ⟨some 28, _, _, _, _, _⟩) (v := ?_) rfl (by kernel_rfl) (by kernel_rfl) (by kernel_rfl) (fun _ _ _ h => h) (Or.inl ⟨by rfl, ?_⟩) hS ?_
          rotate_left
          · intro W hW; go_simp; with_reducible rfl
          try simp only [Act.put, List.setIfInBounds_toArray, List.set_cons_zero, List.set_cons_succ]
          refine wpAnyH_take (i := 6) (oi := ⟨some 34, _, _, _, _, _⟩) (v := ?_) rfl (by kernel_rfl) (by kernel_rfl) (by kernel_rfl) (fun _ _ _ h => h) (Or.inl ⟨by rfl, ?_⟩) hS ?_
          rotate_left
          · intro W hW; go_simp; with_reducible rfl
          try simp only [Act.put, List.setIfInBounds_toArray, List.set_cons_zero, List.set_cons_succ]
          refine wpAnyH_take (i := 7) (oi := ⟨some 35, _, _, _, _, _⟩) (v := ?_) rfl (by kernel_rfl) (by kernel_rfl) (by kernel_rfl) (fun _ _ _ h => h) (Or.inl ⟨by rfl, ?_⟩) hS ?_
          rotate_left
          · intro W hW; go_simp; with_reducible rfl
          try simp only [Act.put, List.setIfInBounds_toArray, List.set_cons_zero, List.set_cons_succ]
          refine wpAnyH_ready (rs := [8]) (by kernel_rfl) (by simp) ?_
          refine AllReadyH.cons (o := ⟨some 8, _, _, _, _, _⟩) rfl (fun Kr hKr => ?_) AllReadyH.nil
          -- operation 8: a step
          try rw [if_pos (by kernel_rfl)]
          refine wp_alloc_bk 32 rfl ntZ (by kernel_rfl) ?_
          intro VA z hbx hx hle
          have HAL : Hid (Bk VA z ntZ 32) := Lib.hid hbx
          have HLE := Lib.hid (Nat.le_trans hS.size hle)
          try have HOF := Lib.hid (HGT.out.off z HLE.out (.inr (Nat.le_trans HGT.out.top hle)))
          try replace HGT := Lib.hid (HGT.out.below hx)
          show Kr _ _
          refine hKr.out _ _ ?_ (fun _ => ?_)
          · exact since_trans hS hx
          clear hKr Kr
          replace hS : Since w3 VA := since_trans hS hx
          try simp only [Act.put, List.setIfInBounds_toArray, List.set_cons_zero, List.set_cons_succ]
          refine wpAnyH_ready (rs := [9]) (by kernel_rfl) (by simp) ?_
          refine AllReadyH.cons (o := ⟨none, _, _, _, _, _⟩) rfl (fun Kr hKr => ?_) AllReadyH.nil
          -- operation 9: a step
          try rw [if_pos (by kernel_rfl)]
          refine wp_store_bk 32 _ _ rfl z (ntC m1 p) rfl rfl 32 ntZ HAL.out (by kernel_rfl) rfl (ntC_one _ _) ?_
          intro VS hbx hg9
          have HBX : Hid (NtB VS z 32 m1 p) := Lib.hid ⟨hbx⟩
          have HNP := Lib.hid (HGT.out.at_.off HOF.out hg9)
          show Kr _ _
          refine hKr.out _ _ ?_ (fun _ => ?_)
          · exact Below.grown hS hg9 hS.size (fun q e => by have := HLE.out; have e := Option.some.inj e; omega)
          clear hKr Kr
          replace hS : Since w3 VS := Below.grown hS hg9 hS.size (fun q e => by have := HLE.out; have e := Option.some.inj e; omega)
          try simp only [Act.put]
          refine wpAnyH_take (i := 10) (oi := ⟨some 9, _, _, _, _, _⟩) (v := ?_) rfl (by kernel_rfl) (by kernel_rfl) (by kernel_rfl) (fun _ _ _ h => h) (Or.inl ⟨by rfl, ?_⟩) hS ?_
          rotate_left
          · intro W hW; go_simp; with_reducible rfl
          try simp only [Act.put, List.setIfInBounds_toArray, List.set_cons_zero, List.set_cons_succ]
          refine wpAnyH_done (by kernel_rfl) ?_ _
          go_wp2_with fail
          go_meet
          case rel => exact ⟨z, p, rfl, rfl, Lib.hid hS, HBX, HNP⟩
        · skip
          -- operation 8: a step
          try rw [if_pos (by kernel_rfl)]
          refine wp_alloc_bk 32 rfl ntZ (by kernel_rfl) ?_
          intro VA z hbx hx hle
          have HAL : Hid (Bk VA z ntZ 32) := Lib.hid hbx
          have HLE := Lib.hid (Nat.le_trans hS.size hle)
          try have HOF := Lib.hid (HGT.out.off z HLE.out (.inr (Nat.le_trans HGT.out.top hle)))
          try replace HGT := Lib.hid (HGT.out.below hx)
          show Kr _ _
          refine hKr.out _ _ ?_ (fun _ => ?_)
          · exact since_trans hS hx
          clear hKr Kr
          replace hS : Since w3 VA := since_trans hS hx
          try simp only [Act.put, List.setIfInBounds_toArray, List.set_cons_zero, List.set_cons_succ]
          refine wpAnyH_ready (rs := [4]) (by kernel_rfl) (by simp) ?_
          refine AllReadyH.cons (o := ⟨some 33, _, _, _, _, _⟩) rfl (fun Kr hKr => ?_) AllReadyH.nil
          -- operation 4: a call
          go_simp
          refine (HMG.out _ hS).mono ?_
          rintro e V4 ho
          obtain ⟨p, rfl, hgt, hx⟩ := merged hS HNa.out HNb.out ho
          have HGT := Lib.hid hgt
          try have HOF := Lib.hid (HGT.out.off z HLE.out (.inl (Bk.lt HAL.out)))
          try replace HAL := Lib.hid (HAL.out.below hx)
          show Kr _ _
          refine hKr.out _ _ ?_ (fun _ => ?_)
          · exact since_trans hS hx
          clear hKr Kr
          replace hS : Since w3 V4 := since_trans hS hx
          try simp only [Act.put, List.setIfInBounds_toArray, List.set_cons_zero, List.set_cons_succ]
          refine wpAnyH_take (i := 5) (oi := ⟨some 28, _, _, _, _, _⟩) (v := ?_) rfl (by kernel_rfl) (by kernel_rfl) (by kernel_rfl) (fun _ _ _ h => h) (Or.inl ⟨by rfl, ?_⟩) hS ?_
          rotate_left
          · intro W hW; go_simp; with_reducible rfl
          try simp only [Act.put, List.setIfInBounds_toArray, List.set_cons_zero, List.set_cons_succ]
          refine wpAnyH_take (i := 6) (oi := ⟨some 34, _, _, _, _, _⟩) (v := ?_) rfl (by kernel_rfl) (by kernel_rfl) (by kernel_rfl) (fun _ _ _ h => h) (Or.inl ⟨by rfl, ?_⟩) hS ?_
          rotate_left
          · intro W hW; go_simp; with_reducible rfl
          try simp only [Act.put, List.setIfInBounds_toArray, List.set_cons_zero, List.set_cons_succ]
          refine wpAnyH_take (i := 7) (oi := ⟨some 35, _, _, _, _, _⟩) (v := ?_) rfl (by kernel_rfl) (by kernel_rfl) (by kernel_rfl) (fun _ _ _ h => h) (Or.inl ⟨by rfl, ?_⟩) hS ?_
          rotate_left
          · intro W hW; go_simp; with_reducible rfl
          try simp only [Act.put, List.setIfInBounds_toArray, List.set_cons_zero, List.set_cons_succ]
          refine wpAnyH_ready (rs := [9]) (by kernel_rfl) (by simp) ?_
          refine AllReadyH.cons (o := ⟨none, _, _, _, _, _⟩) rfl (fun Kr hKr => ?_) AllReadyH.nil
          -- operation 9: a step
          try rw [if_pos (by kernel_rfl)]
          refine wp_store_bk 32 _ _ rfl z (ntC m1 p) rfl rfl 32 ntZ HAL.out (by kernel_rfl) rfl (ntC_one _ _) ?_
          intro VS hbx hg9
          have HBX : Hid (NtB VS z 32 m1 p) := Lib.hid ⟨hbx⟩
          have HNP := Lib.hid (HGT.out.at_.off HOF.out hg9)
          show Kr _ _
          refine hKr.out _ _ ?_ (fun _ => ?_)
          · exact Below.grown hS hg9 hS.size (fun q e => by have := HLE.out; have e := Option.some.inj e; omega)
          clear hKr Kr
          replace hS : Since w3 VS := Below.grown hS hg9 hS.size (fun q e => by have := HLE.out; have e := Option.some.inj e; omega)
          try simp only [Act.put]
          refine wpAnyH_take (i := 10) (oi := ⟨some 9, _, _, _, _, _⟩) (v := ?_) rfl (by kernel_rfl) (by kernel_rfl) (by kernel_rfl) (fun _ _ _ h => h) (Or.inl ⟨by rfl, ?_⟩) hS ?_
          rotate_left
          · intro W hW; go_simp; with_reducible rfl
          try simp only [Act.put, List.setIfInBounds_toArray, List.set_cons_zero, List.set_cons_succ]
          refine wpAnyH_done (by kernel_rfl) ?_ _
          go_wp2_with fail
          go_meet
          case rel => exact ⟨z, p, rfl, rfl, Lib.hid hS, HBX, HNP⟩
      · skip
        -- operation 8: a step
        try rw [if_pos (by kernel_rfl)]
        refine wp_alloc_bk 32 rfl ntZ (by kernel_rfl) ?_
        intro VA z hbx hx hle
        have HAL : Hid (Bk VA z ntZ 32) := Lib.hid hbx
        have HLE := Lib.hid (Nat.le_trans hS.size hle)
        try have HOF := Lib.hid (HGT.out.off z HLE.out (.inr (Nat.le_trans HGT.out.top hle)))
        try replace HGT := Lib.hid (HGT.out.below hx)
        show Kr _ _
        refine hKr.out _ _ ?_ (fun _ => ?_)
        · exact since_trans hS hx
        clear hKr Kr
        replace hS : Since w3 VA := since_trans hS hx
        try simp only [Act.put, List.setIfInBounds_toArray, List.set_cons_zero, List.set_cons_succ]
        refine wpAnyH_ready (rs := [3]) (by kernel_rfl) (by simp) ?_
        refine AllReadyH.cons (o := ⟨some 32, _, _, _, _, _⟩) rfl (fun Kr hKr => ?_) AllReadyH.nil
        -- operation 3: a call
        go_simp
        refine (ours_any b ⟨Ab, kb, cb, Bb, lb, db, eb⟩ _).mono ?_
        rintro e V3 ⟨rfl, hx⟩
        try replace HAL := Lib.hid (HAL.out.below hx)
        show Kr _ _
        refine hKr.out _ _ ?_ (fun _ => ?_)
        · exact since_trans hS hx
        clear hKr Kr
        replace hS : Since w3 V3 := since_trans hS hx
        try simp only [Act.put, List.setIfInBounds_toArray, List.set_cons_zero, List.set_cons_succ]
        refine wpAnyH_ready (rs := [4]) (by kernel_rfl) (by simp) ?_
        refine AllReadyH.cons (o := ⟨some 33, _, _, _, _, _⟩) rfl (fun Kr hKr => ?_) AllReadyH.nil
        -- operation 4: a call
        go_simp
        refine (HMG.out _ hS).mono ?_
        rintro e V4 ho
        obtain ⟨p, rfl, hgt, hx⟩ := merged hS HNa.out HNb.out ho
        have HGT := Lib.hid hgt
        try have HOF := Lib.hid (HGT.out.off z HLE.out (.inl (Bk.lt HAL.out)))
        try replace HAL := Lib.hid (HAL.out.below hx)
        show Kr _ _
        refine hKr.out _ _ ?_ (fun _ => ?_)
        · exact since_trans hS hx
        clear hKr Kr
        replace hS : Since w3 V4 := since_trans hS hx
        try simp only [Act.put, List.setIfInBounds_toArray, List.set_cons_zero, List.set_cons_succ]
        refine wpAnyH_take (i := 5) (oi := ⟨some 28, _, _, _, _, _⟩) (v := ?_) rfl (by kernel_rfl) (by kernel_rfl) (by kernel_rfl) (fun _ _ _ h => h) (Or.inl ⟨by rfl, ?_⟩) hS ?_
        rotate_left
        · intro W hW; go_simp; with_reducible rfl
        try simp only [Act.put, List.setIfInBounds_toArray, List.set_cons_zero, List.set_cons_succ]
        refine wpAnyH_take (i := 6) (oi := ⟨some 34, _, _, _, _, _⟩) (v := ?_) rfl (by kernel_rfl) (by kernel_rfl) (by kernel_rfl) (fun _ _ _ h => h) (Or.inl ⟨by rfl, ?_⟩) hS ?_
        rotate_left
        · intro W hW; go_simp; with_reducible rfl
        try simp only [Act.put, List.setIfInBounds_toArray, List.set_cons_zero, List.set_cons_succ]
        refine wpAnyH_take (i := 7) (oi := ⟨some 35, _, _, _, _, _⟩) (v := ?_) rfl (by kernel_rfl) (by kernel_rfl) (by kernel_rfl) (fun _ _ _ h => h) (Or.inl ⟨by rfl, ?_⟩) hS ?_
        rotate_left
        · intro W hW; go_simp; with_reducible rfl
        try simp only [Act.put, List.setIfInBounds_toArray, List.set_cons_zero, List.set_cons_succ]
        refine wpAnyH_ready (rs := [9]) (by kernel_rfl) (by simp) ?_
        refine AllReadyH.cons (o := ⟨none, _, _, _, _, _⟩) rfl (fun Kr hKr => ?_) AllReadyH.nil
        -- operation 9: a step
        try rw [if_pos (by kernel_rfl)]
        refine wp_store_bk 32 _ _ rfl z (ntC m1 p) rfl rfl 32 ntZ HAL.out (by kernel_rfl) rfl (ntC_one _ _) ?_
        intro VS hbx hg9
        have HBX : Hid (NtB VS z 32 m1 p) := Lib.hid ⟨hbx⟩
        have HNP := Lib.hid (HGT.out.at_.off HOF.out hg9)
        show Kr _ _
        refine hKr.out _ _ ?_ (fun _ => ?_)
        · exact Below.grown hS hg9 hS.size (fun q e => by have := HLE.out; have e := Option.some.inj e; omega)
        clear hKr Kr
        replace hS : Since w3 VS := Below.grown hS hg9 hS.size (fun q e => by have := HLE.out; have e := Option.some.inj e; omega)
        try simp only [Act.put]
        refine wpAnyH_take (i := 10) (oi := ⟨some 9, _, _, _, _, _⟩) (v := ?_) rfl (by kernel_rfl) (by kernel_rfl) (by kernel_rfl) (fun _ _ _ h => h) (Or.inl ⟨by rfl, ?_⟩) hS ?_
        rotate_left
        · intro W hW; go_simp; with_reducible rfl
        try simp only [Act.put, List.setIfInBounds_toArray, List.set_cons_zero, List.set_cons_succ]
        refine wpAnyH_done (by kernel_rfl) ?_ _
        go_wp2_with fail
        go_meet
        case rel => exact ⟨z, p, rfl, rfl, Lib.hid hS, HBX, HNP⟩
    · skip
      -- operation 8: a step
      try rw [if_pos (by kernel_rfl)]
      refine wp_alloc_bk 32 rfl ntZ (by kernel_rfl) ?_
      intro VA z hbx hx hle
      have HAL : Hid (Bk VA z ntZ 32) := Lib.hid hbx
      have HLE := Lib.hid (Nat.le_trans hS.size hle)
      try have HOF := Lib.hid (HGT.out.off z HLE.out (.inr (Nat.le_trans HGT.out.top hle)))
      try replace HGT := Lib.hid (HGT.out.below hx)
      show Kr _ _
      refine hKr.out _ _ ?_ (fun _ => ?_)
      · exact since_trans hS hx
      clear hKr Kr
      replace hS : Since w3 VA := since_trans hS hx
      try simp only [Act.put, List.setIfInBounds_toArray, List.set_cons_zero, List.set_cons_succ]
      refine wpAnyH_ready (rs := [1]) (by kernel_rfl) (by simp) ?_
      refine AllReadyH.cons (o := ⟨some 30, _, _, _, _, _⟩) rfl (fun Kr hKr => ?_) AllReadyH.nil
      -- operation 1: a call
      go_simp
      refine (ours_any a ⟨Aa, ka, ca, Ba, la, da, ea⟩ _).mono ?_
      rintro e V1 ⟨rfl, hx⟩
      try replace HAL := Lib.hid (HAL.out.below hx)
      show Kr _ _
      refine hKr.out _ _ ?_ (fun _ => ?_)
      · exact since_trans hS hx
      clear hKr Kr
      replace hS : Since w3 V1 := since_trans hS hx
      try simp only [Act.put, List.setIfInBounds_toArray, List.set_cons_zero, List.set_cons_succ]
      refine wpAnyH_ready (rs := [3]) (by kernel_rfl) (by simp) ?_
      refine AllReadyH.cons (o := ⟨some 32, _, _, _, _, _⟩) rfl (fun Kr hKr => ?_) AllReadyH.nil
      -- operation 3: a call
      go_simp
      refine (ours_any b ⟨Ab, kb, cb, Bb, lb, db, eb⟩ _).mono ?_
      rintro e V3 ⟨rfl, hx⟩
      try replace HAL := Lib.hid (HAL.out.below hx)
      show Kr _ _
      refine hKr.out _ _ ?_ (fun _ => ?_)
      · exact since_trans hS hx
      clear hKr Kr
      replace hS : Since w3 V3 := since_trans hS hx
      try simp only [Act.put, List.setIfInBounds_toArray, List.set_cons_zero, List.set_cons_succ]
      refine wpAnyH_ready (rs := [4]) (by kernel_rfl) (by simp) ?_
      refine AllReadyH.cons (o := ⟨some 33, _, _, _, _, _⟩) rfl (fun Kr hKr => ?_) AllReadyH.nil
      -- operation 4: a call
      go_simp
      refine (HMG.out _ hS).mono ?_
      rintro e V4 ho
      obtain ⟨p, rfl, hgt, hx⟩ := merged hS HNa.out HNb.out ho
      have HGT := Lib.hid hgt
      try have HOF := Lib.hid (HGT.out.off z HLE.out (.inl (Bk.lt HAL.out)))
      try replace HAL := Lib.hid (HAL.out.below hx)
      show Kr _ _
      refine hKr.out _ _ ?_ (fun _ => ?_)
      · exact since_trans hS hx
      clear hKr Kr
      replace hS : Since w3 V4 := since_trans hS hx
      try simp only [Act.put, List.setIfInBounds_toArray, List.set_cons_zero, List.set_cons_succ]
      refine wpAnyH_take (i := 5) (oi := ⟨some 28, _, _, _, _, _⟩) (v := ?_) rfl (by kernel_rfl) (by kernel_rfl) (by kernel_rfl) (fun _ _ _ h => h) (Or.inl ⟨by rfl, ?_⟩) hS ?_
      rotate_left
      · intro W hW; go_simp; with_reducible rfl
      try simp only [Act.put, List.setIfInBounds_toArray, List.set_cons_zero, List.set_cons_succ]
      refine wpAnyH_take (i := 6) (oi := ⟨some 34, _, _, _, _, _⟩) (v := ?_) rfl (by kernel_rfl) (by kernel_rfl) (by kernel_rfl) (fun _ _ _ h => h) (Or.inl ⟨by rfl, ?_⟩) hS ?_
      rotate_left
      · intro W hW; go_simp; with_reducible rfl
      try simp only [Act.put, List.setIfInBounds_toArray, List.set_cons_zero, List.set_cons_succ]
      refine wpAnyH_take (i := 7) (oi := ⟨some 35, _, _, _, _, _⟩) (v := ?_) rfl (by kernel_rfl) (by kernel_rfl) (by kernel_rfl) (fun _ _ _ h => h) (Or.inl ⟨by rfl, ?_⟩) hS ?_
      rotate_left
      · intro W hW; go_simp; with_reducible rfl
      try simp only [Act.put, List.setIfInBounds_toArray, List.set_cons_zero, List.set_cons_succ]
      refine wpAnyH_ready (rs := [9]) (by kernel_rfl) (by simp) ?_
      refine AllReadyH.cons (o := ⟨none, _, _, _, _, _⟩) rfl (fun Kr hKr => ?_) AllReadyH.nil
      -- operation 9: a step
      try rw [if_pos (by kernel_rfl)]
      refine wp_store_bk 32 _ _ rfl z (ntC m1 p) rfl rfl 32 ntZ HAL.out (by kernel_rfl) rfl (ntC_one _ _) ?_
      intro VS hbx hg9
      have HBX : Hid (NtB VS z 32 m1 p) := Lib.hid ⟨hbx⟩
      have HNP := Lib.hid (HGT.out.at_.off HOF.out hg9)
      show Kr _ _
      refine hKr.out _ _ ?_ (fun _ => ?_)
      · exact Below.grown hS hg9 hS.size (fun q e => by have := HLE.out; have e := Option.some.inj e; omega)
      clear hKr Kr
      replace hS : Since w3 VS := Below.grown hS hg9 hS.size (fun q e => by have := HLE.out; have e := Option.some.inj e; omega)
      try simp only [Act.put]
      refine wpAnyH_take (i := 10) (oi := ⟨some 9, _, _, _, _, _⟩) (v := ?_) rfl (by kernel_rfl) (by kernel_rfl) (by kernel_rfl) (fun _ _ _ h => h) (Or.inl ⟨by rfl, ?_⟩) hS ?_
      rotate_left
      · intro W hW; go_simp; with_reducible rfl
      try simp only [Act.put, List.setIfInBounds_toArray, List.set_cons_zero, List.set_cons_succ]
      refine wpAnyH_done (by kernel_rfl) ?_ _
      go_wp2_with fail
      go_meet
      case rel => exact ⟨z, p, rfl, rfl, Lib.hid hS, HBX, HNP⟩
  case rest =>
  obtain ⟨z1, ⟨pA1, pn1, pc1, pB1, pm1, pd1, pr1⟩, rfl, rfl, HW4, HB1, HN1⟩ := hcut
  obtain ⟨w5, hwc⟩ : ∃ u, u = wc := ⟨_, rfl⟩
  subst hwc
  clear x0 x1 x2 x3 HMG
  try clear y0 y1 y2 y3
  replace HBa := Lib.hid (HBa.out.below HW4.out)
  replace HNa := Lib.hid (HNa.out.below HW4.out)
  replace HBb := Lib.hid (HBb.out.below HW4.out)
  replace HNb := Lib.hid (HNb.out.below HW4.out)
  replace HB := Lib.hid (HB.out.trans (HW4.out.mono HB.out.size))
  clear HW4
  obtain ⟨n1, n2, n3, n4⟩ := HNa.out.n_
  obtain ⟨n5, n6, n7, n8⟩ := HNb.out.n_
  simp only at n1 n2 n3 n4 n5 n6 n7 n8
  have hka : ka ≤ 100 := by have := HEa.out.1; omega
  have hla : la ≤ 100 := by have := HEa.out.2.1; omega
  have hkb : kb ≤ 100 := by have := HEb.out.1; omega
  have hlb : lb ≤ 100 := by have := HEb.out.2.1; omega
  have HLN := Lib.hid (And.intro (And.intro n1 n3) (And.intro n5 n7))
  clear n1 n2 n3 n4 n5 n6 n7 n8
  have b2 := HBa.out.c2
  have b3 := HBa.out.c3
  have d2 := HBb.out.c2
  have d3 := HBb.out.c3
  have z2 := HB1.out.c2
  have z3 := HB1.out.c3
  simp only at b2 b3 d2 d3 z2 z3
  by_cases he : E1 = 0
  rotate_left
  · obtain ⟨f1, f2⟩ := ne_no he
    rcases merE_cases (a := a) (b := b) (by rw [← HG1.out]; exact he) with h1 | ⟨h1, h2⟩
    · obtain ⟨f3, f4⟩ := ne_yes (HG1.out.trans h1)
      clear he h1
      go_wp2_with fail
      go_ret
      exact ⟨rfl, HB.out⟩
    · exfalso
      have e1 := HLN.out.1.2
      have e2 := HLN.out.2.2
      omega
  obtain ⟨f1, f2⟩ := ne_yes he
  obtain ⟨⟨s1, s2, s3, s4⟩, s5, s6⟩ := merE_san (by rw [← HG1.out]; exact he)
  have hmm : m1 = mer a b := HM1.out.trans s6
  have HSA := Lib.hid (And.intro s1 (And.intro s2 (And.intro s3 s5)))
  have HMM := Lib.hid hmm
  have hkm : pn1 ≤ 256 := by
    have h1 := HN1.out.n_.1
    simp only at h1
    rw [hmm] at h1
    have := s5.1.2.2.1
    omega
  have hpm : pm1 = la + lb := by
    have h1 := HN1.out.n_.2.2.1
    simp only at h1
    rw [hmm] at h1
    have h2 : (a.op ++ b.op).length = pm1 := h1
    rw [List.length_append, HLN.out.1.2, HLN.out.2.2] at h2
    exact h2.symm
  have HPM := Lib.hid hpm
  have hpb : pm1 ≤ 200 := by omega
  clear hpm
  clear he s1 s2 s3 s4 s5 s6 hmm
  go_wp2_with fail
  go_loopg [10, 11] ka (fun gn v i wr => ∃ (j : Nat) (S : List UInt8), v = .string ⟨S.toArray⟩ ∧ i = .int .i64 (j : Int) ∧ j + gn = ka ∧ wr = w5 ∧ Hid (S = scan blk (a.im.take j) []))
  case atStart => exact ⟨0, [], rfl, rfl, by omega, rfl, Lib.hid (by rw [List.take_zero]; exact rfl)⟩
  case round =>
    obtain ⟨j, S, rfl, rfl, hog, hwr, HSC⟩ := hrel
    replace hwr := hwr.symm
    subst hwr
    rcases Nat.lt_or_ge j ka with hlt | hge
    · have hdj : decide (j < ka) = true := decide_eq_true hlt
      have hdi : decide ((j : Int) < (ka : Int)) = true := decide_eq_true (by omega)
      have hji : (j : Int) < (ka : Int) := by omega
      obtain ⟨xi, ⟨ri, ra, rn, rc⟩, bx, ox, hxi, _, hX⟩ := HNa.out.im.get hlt
      have HXI := Lib.hid (take_step hxi)
      have eA := hX.a
      simp only at eA
      rw [eA] at b2
      have y0 := hX.c0
      have y1 := hX.c1
      have hcv := hX.li.conv
      simp only at y0 y1 hcv
      by_cases hk : xi.k = blk
      · obtain ⟨g1, g2⟩ := ne_yes hk
        have HH := Lib.hid (show hit blk S xi = xi.d from if_pos hk)
        generalize hd : xi.d = dx at *
        clear hk hxi hX eA
        go_wp2_with fail
        go_roundg (gk - 1)
        case measure => omega
        case rel => exact ⟨j + 1, dx, rfl, by go_num, by omega, rfl, Lib.hid (by rw [HXI.out, scan_snoc, ← HSC.out, HH.out])⟩
      · obtain ⟨g1, g2⟩ := ne_no hk
        have HH := Lib.hid (show hit blk S xi = S from if_neg hk)
        clear hk hxi hX eA hcv
        go_wp2_with fail
        go_roundg (gk - 1)
        case measure => omega
        case rel => exact ⟨j + 1, S, rfl, by go_num, by omega, rfl, Lib.hid (by rw [HXI.out, scan_snoc, ← HSC.out, HH.out])⟩
    · obtain rfl : j = ka := by omega
      have hdj : decide (j < j) = false := decide_eq_false (by omega)
      have hdi : decide ((j : Int) < (j : Int)) = false := decide_eq_false (by omega)
      have HS1 : Hid (S = scan blk a.im []) := Lib.hid (by
        have h1 := HNa.out.im.ll
        simp only at h1
        have h2 := HSC.out
        rw [List.take_of_length_le (by omega)] at h2
        exact h2)
      obtain ⟨S1, hSq⟩ : ∃ T, T = S := ⟨_, rfl⟩
      subst hSq
      obtain ⟨ka, hKq⟩ : ∃ T, T = j := ⟨_, rfl⟩
      subst hKq
      clear hge HSC hog
      go_wp2_with fail
      go_loopg [10, 12] kb (fun gn v i wr => ∃ (j : Nat) (S : List UInt8), v = .string ⟨S.toArray⟩ ∧ i = .int .i64 (j : Int) ∧ j + gn = kb ∧ wr = w5 ∧ Hid (S = scan blk (b.im.take j) (scan blk a.im [])))
      case atStart => exact ⟨0, S1, rfl, rfl, by omega, rfl, Lib.hid (by rw [List.take_zero]; exact HS1.out)⟩
      case round =>
        obtain ⟨j, S, rfl, rfl, hog, hwr, HSC⟩ := hrel
        replace hwr := hwr.symm
        subst hwr
        rcases Nat.lt_or_ge j kb with hlt | hge
        · have hdj : decide (j < kb) = true := decide_eq_true hlt
          have hdi : decide ((j : Int) < (kb : Int)) = true := decide_eq_true (by omega)
          have hji : (j : Int) < (kb : Int) := by omega
          obtain ⟨xi, ⟨ri, ra, rn, rc⟩, bx, ox, hxi, _, hX⟩ := HNb.out.im.get hlt
          have HXI := Lib.hid (take_step hxi)
          have eA := hX.a
          simp only at eA
          rw [eA] at d2
          have y0 := hX.c0
          have y1 := hX.c1
          have hcv := hX.li.conv
          simp only at y0 y1 hcv
          by_cases hk : xi.k = blk
          · obtain ⟨g1, g2⟩ := ne_yes hk
            have HH := Lib.hid (show hit blk S xi = xi.d from if_pos hk)
            generalize hd : xi.d = dx at *
            clear hk hxi hX eA
            go_wp2_with fail
            go_roundg (gk - 1)
            case measure => omega
            case rel => exact ⟨j + 1, dx, rfl, by go_num, by omega, rfl, Lib.hid (by rw [HXI.out, scan_snoc, ← HSC.out, HH.out])⟩
          · obtain ⟨g1, g2⟩ := ne_no hk
            have HH := Lib.hid (show hit blk S xi = S from if_neg hk)
            clear hk hxi hX eA hcv
            go_wp2_with fail
            go_roundg (gk - 1)
            case measure => omega
            case rel => exact ⟨j + 1, S, rfl, by go_num, by omega, rfl, Lib.hid (by rw [HXI.out, scan_snoc, ← HSC.out, HH.out])⟩
        · obtain rfl : j = kb := by omega
          have hdj : decide (j < j) = false := decide_eq_false (by omega)
          have hdi : decide ((j : Int) < (j : Int)) = false := decide_eq_false (by omega)
          have HS2 : Hid (S = scan blk b.im (scan blk a.im [])) := Lib.hid (by
            have h1 := HNb.out.im.ll
            simp only at h1
            have h2 := HSC.out
            rw [List.take_of_length_le (by omega)] at h2
            exact h2)
          obtain ⟨S2, hSq⟩ : ∃ T, T = S := ⟨_, rfl⟩
          subst hSq
          obtain ⟨kb, hKq⟩ : ∃ T, T = j := ⟨_, rfl⟩
          subst hKq
          clear hge HSC hog
          go_wp2_with fail
          go_loopg [13, 14] pn1 (fun gn v i wr => ∃ (j : Nat) (S : List UInt8), v = .string ⟨S.toArray⟩ ∧ i = .int .i64 (j : Int) ∧ j + gn = pn1 ∧ wr = w5 ∧ Hid (S = scan blk (m1.im.take j) []))
          case atStart => exact ⟨0, [], rfl, rfl, by omega, rfl, Lib.hid (by rw [List.take_zero]; exact rfl)⟩
          case round =>
            obtain ⟨j, S, rfl, rfl, hog, hwr, HSC⟩ := hrel
            replace hwr := hwr.symm
            subst hwr
            rcases Nat.lt_or_ge j pn1 with hlt | hge
            · have hdj : decide (j < pn1) = true := decide_eq_true hlt
              have hdi : decide ((j : Int) < (pn1 : Int)) = true := decide_eq_true (by omega)
              have hji : (j : Int) < (pn1 : Int) := by omega
              obtain ⟨xi, ⟨ri, ra, rn, rc⟩, bx, ox, hxi, _, hX⟩ := HN1.out.im.get hlt
              have HXI := Lib.hid (take_step hxi)
              have eA := hX.a
              simp only at eA
              rw [eA] at z2
              have y0 := hX.c0
              have y1 := hX.c1
              have hcv := hX.li.conv
              simp only at y0 y1 hcv
              by_cases hk : xi.k = blk
              · obtain ⟨g1, g2⟩ := ne_yes hk
                have HH := Lib.hid (show hit blk S xi = xi.d from if_pos hk)
                generalize hd : xi.d = dx at *
                clear hk hxi hX eA
                go_wp2_with fail
                go_roundg (gk - 1)
                case measure => omega
                case rel => exact ⟨j + 1, dx, rfl, by go_num, by omega, rfl, Lib.hid (by rw [HXI.out, scan_snoc, ← HSC.out, HH.out])⟩
              · obtain ⟨g1, g2⟩ := ne_no hk
                have HH := Lib.hid (show hit blk S xi = S from if_neg hk)
                clear hk hxi hX eA hcv
                go_wp2_with fail
                go_roundg (gk - 1)
                case measure => omega
                case rel => exact ⟨j + 1, S, rfl, by go_num, by omega, rfl, Lib.hid (by rw [HXI.out, scan_snoc, ← HSC.out, HH.out])⟩
            · obtain rfl : j = pn1 := by omega
              have hdj : decide (j < j) = false := decide_eq_false (by omega)
              have hdi : decide ((j : Int) < (j : Int)) = false := decide_eq_false (by omega)
              have HS3 : Hid (S = scan blk m1.im []) := Lib.hid (by
                have h1 := HN1.out.im.ll
                simp only at h1
                have h2 := HSC.out
                rw [List.take_of_length_le (by omega)] at h2
                exact h2)
              obtain ⟨S3, hSq⟩ : ∃ T, T = S := ⟨_, rfl⟩
              subst hSq
              obtain ⟨pn1, hKq⟩ : ∃ T, T = j := ⟨_, rfl⟩
              subst hKq
              clear hge HSC hog
              have HGW : Hid (S3 = S2) := Lib.hid (by rw [HS3.out, HS2.out, scan_mer HSA.out.1.2.1 HSA.out.2.1.2.1, HMM.out]; rfl)
              clear HS1 HS2 HS3
              have HNe := Lib.hid (nt_bare w5 a.seq HNa.out.seq)
              obtain ⟨t1, t2⟩ := mer_none HSA.out.1 HSA.out.2.2.1
              have HT := Lib.hid (And.intro t1 t2)
              clear t1 t2 b2 b3 d2 d3 z3
              obtain ⟨m2, hm⟩ : ∃ m, m = merN a ⟨1, a.seq, [], []⟩ := ⟨_, rfl⟩
              obtain ⟨E2, hE⟩ : ∃ E, E = merE a ⟨1, a.seq, [], []⟩ := ⟨_, rfl⟩
              have HMG : Hid (∀ V, Since w5 V → Calls Try.prog 16 #[ntV a ⟨Aa, ka, ca, Ba, la, da, ea⟩, ntV ⟨1, a.seq, [], []⟩ nr0] V (MergeOut V m2 E2 ⟨Aa, ka, ca, Ba, la, da, ea⟩ nr0)) := Lib.hid (fun V hV => by
                rw [hm, hE]
                exact HW.out.merge a ⟨1, a.seq, [], []⟩ _ _ V (HNa.out.below hV) (HNe.out.below hV) HFa.out (small_bare a.seq))
              have HM2 := Lib.hid hm
              have HG2 := Lib.hid hE
              clear hm hE
              have x0 : ∀ V, Since w5 V → V.cell? ⟨w.heap.size, 0, none⟩ = some (.int .i64 a.kind) := fun V hV => (HBa.out.below hV).c0
              have x1 : ∀ V, Since w5 V → V.cell? ⟨w.heap.size, 1, none⟩ = some (.int .i64 a.seq) := fun V hV => (HBa.out.below hV).c1
              have x2 : ∀ V, Since w5 V → V.cell? ⟨w.heap.size, 2, none⟩ = some (.slice Aa ka ca) := fun V hV => (HBa.out.below hV).c2
              have x3 : ∀ V, Since w5 V → V.cell? ⟨w.heap.size, 3, none⟩ = some (.slice Ba la da) := fun V hV => (HBa.out.below hV).c3
              go_upto_region 24 with fail
              clear z2
              go_cut [15, 16] from 119 to 127 (fun u v wc => ∃ (z : Nat) (p : Nr), u = .pointer (some ⟨z, 0, none⟩) ∧ v = .int .i64 E2 ∧ Hid (Since w5 wc) ∧ Hid (NtB wc z 32 m2 p) ∧ Hid (NtAt wc m2 p))
              case first =>
                refine wp_region_since (by kernel_rfl) ?_
                have hS : Since w5 (World.drew w5) := (Below.refl _ _).drew
                refine wpAnyH_take (i := 0) (oi := ⟨some 120, _, _, _, _, _⟩) (v := ?_) rfl (by kernel_rfl) (by kernel_rfl) (by kernel_rfl) (fun _ _ _ h => h) (Or.inl ⟨by rfl, ?_⟩) hS ?_
                rotate_left
                · intro W hW; go_simp; with_reducible rfl
                try simp only [Act.put, List.setIfInBounds_toArray, List.set_cons_zero, List.set_cons_succ]
                refine wpAnyH_take (i := 2) (oi := ⟨some 122, _, _, _, _, _⟩) (v := ?_) rfl (by kernel_rfl) (by kernel_rfl) (by kernel_rfl) (fun _ _ _ h => h) (Or.inl ⟨by rfl, ?_⟩) hS ?_
                rotate_left
                · intro W hW; go_simp; with_reducible rfl
                try simp only [Act.put, List.setIfInBounds_toArray, List.set_cons_zero, List.set_cons_succ]
                refine wpAnyH_take (i := 3) (oi := ⟨some 123, _, _, _, _, _⟩) (v := ?_) rfl (by kernel_rfl) (by kernel_rfl) (by kernel_rfl) (fun _ _ _ h => h) (Or.inl ⟨by rfl, ?_⟩) hS ?_
                rotate_left
                · intro W hW; go_simp; with_reducible rfl
                try simp only [Act.put, List.setIfInBounds_toArray, List.set_cons_zero, List.set_cons_succ]
                refine wpAnyH_take (i := 4) (oi := ⟨some 124, _, _, _, _, _⟩) (v := ?_) rfl (by kernel_rfl) (by kernel_rfl) (by kernel_rfl) (fun _ _ _ h => h) (Or.inl ⟨by rfl, ?_⟩) hS ?_
                rotate_left
                · intro W hW; go_simp; with_reducible rfl
                try simp only [Act.put, List.setIfInBounds_toArray, List.set_cons_zero, List.set_cons_succ]
                refine wpAnyH_ready (rs := [1, 9]) (by kernel_rfl) (by simp) ?_
                refine AllReadyH.cons (o := ⟨some 121, _, _, _, _, _⟩) rfl (fun Kr hKr => ?_) (AllReadyH.cons (o := ⟨some 15, _, _, _, _, _⟩) rfl (fun Kr hKr => ?_) AllReadyH.nil)
                · skip
                  -- operation 1: a call
                  go_simp
                  refine (ours_any a ⟨Aa, ka, ca, Ba, la, da, ea⟩ _).mono ?_
                  rintro e V1 ⟨rfl, hx⟩
                  try replace HAL := Lib.hid (HAL.out.below hx)
                  show Kr _ _
                  refine hKr.out _ _ ?_ (fun _ => ?_)
                  · exact since_trans hS hx
                  clear hKr Kr
                  replace hS : Since w5 V1 := since_trans hS hx
                  try simp only [Act.put, List.setIfInBounds_toArray, List.set_cons_zero, List.set_cons_succ]
                  refine wpAnyH_ready (rs := [5, 9]) (by kernel_rfl) (by simp) ?_
                  refine AllReadyH.cons (o := ⟨some 125, _, _, _, _, _⟩) rfl (fun Kr hKr => ?_) (AllReadyH.cons (o := ⟨some 15, _, _, _, _, _⟩) rfl (fun Kr hKr => ?_) AllReadyH.nil)
                  · skip
                    -- operation 5: a call
                    go_simp
                    refine (HMG.out _ hS).mono ?_
                    rintro e V5 ho
                    obtain ⟨p, rfl, hgt, hx⟩ := merged hS HNa.out HNe.out ho
                    have HGT := Lib.hid hgt
                    try have HOF := Lib.hid (HGT.out.off z HLE.out (.inl (Bk.lt HAL.out)))
                    try replace HAL := Lib.hid (HAL.out.below hx)
                    show Kr _ _
                    refine hKr.out _ _ ?_ (fun _ => ?_)
                    · exact since_trans hS hx
                    clear hKr Kr
                    replace hS : Since w5 V5 := since_trans hS hx
                    try simp only [Act.put, List.setIfInBounds_toArray, List.set_cons_zero, List.set_cons_succ]
                    refine wpAnyH_take (i := 6) (oi := ⟨some 119, _, _, _, _, _⟩) (v := ?_) rfl (by kernel_rfl) (by kernel_rfl) (by kernel_rfl) (fun _ _ _ h => h) (Or.inl ⟨by rfl, ?_⟩) hS ?_
                    rotate_left
                    · intro W hW; go_simp; with_reducible rfl
                    try simp only [Act.put, List.setIfInBounds_toArray, List.set_cons_zero, List.set_cons_succ]
                    refine wpAnyH_take (i := 7) (oi := ⟨some 126, _, _, _, _, _⟩) (v := ?_) rfl (by kernel_rfl) (by kernel_rfl) (by kernel_rfl) (fun _ _ _ h => h) (Or.inl ⟨by rfl, ?_⟩) hS ?_
                    rotate_left
                    · intro W hW; go_simp; with_reducible rfl
                    try simp only [Act.put, List.setIfInBounds_toArray, List.set_cons_zero, List.set_cons_succ]
                    refine wpAnyH_take (i := 8) (oi := ⟨some 127, _, _, _, _, _⟩) (v := ?_) rfl (by kernel_rfl) (by kernel_rfl) (by kernel_rfl) (fun _ _ _ h => h) (Or.inl ⟨by rfl, ?_⟩) hS ?_
                    rotate_left
                    · intro W hW; go_simp; with_reducible rfl
                    try simp only [Act.put, List.setIfInBounds_toArray, List.set_cons_zero, List.set_cons_succ]
                    refine wpAnyH_ready (rs := [9]) (by kernel_rfl) (by simp) ?_
                    refine AllReadyH.cons (o := ⟨some 15, _, _, _, _, _⟩) rfl (fun Kr hKr => ?_) AllReadyH.nil
                    -- operation 9: a step
                    try rw [if_pos (by kernel_rfl)]
                    refine wp_alloc_bk 32 rfl ntZ (by kernel_rfl) ?_
                    intro VA z hbx hx hle
                    have HAL : Hid (Bk VA z ntZ 32) := Lib.hid hbx
                    have HLE := Lib.hid (Nat.le_trans hS.size hle)
                    try have HOF := Lib.hid (HGT.out.off z HLE.out (.inr (Nat.le_trans HGT.out.top hle)))
                    try replace HGT := Lib.hid (HGT.out.below hx)
                    show Kr _ _
                    refine hKr.out _ _ ?_ (fun _ => ?_)
                    · exact since_trans hS hx
                    clear hKr Kr
                    replace hS : Since w5 VA := since_trans hS hx
                    try simp only [Act.put, List.setIfInBounds_toArray, List.set_cons_zero, List.set_cons_succ]
                    refine wpAnyH_ready (rs := [10]) (by kernel_rfl) (by simp) ?_
                    refine AllReadyH.cons (o := ⟨none, _, _, _, _, _⟩) rfl (fun Kr hKr => ?_) AllReadyH.nil
                    -- operation 10: a step
                    try rw [if_pos (by kernel_rfl)]
                    refine wp_store_bk 32 _ _ rfl z (ntC m2 p) rfl rfl 32 ntZ HAL.out (by kernel_rfl) rfl (ntC_one _ _) ?_
                    intro VS hbx hg9
                    have HBX : Hid (NtB VS z 32 m2 p) := Lib.hid ⟨hbx⟩
                    have HNP := Lib.hid (HGT.out.at_.off HOF.out hg9)
                    show Kr _ _
                    refine hKr.out _ _ ?_ (fun _ => ?_)
                    · exact Below.grown hS hg9 hS.size (fun q e => by have := HLE.out; have e := Option.some.inj e; omega)
                    clear hKr Kr
                    replace hS : Since w5 VS := Below.grown hS hg9 hS.size (fun q e => by have := HLE.out; have e := Option.some.inj e; omega)
                    try simp only [Act.put]
                    refine wpAnyH_take (i := 11) (oi := ⟨some 16, _, _, _, _, _⟩) (v := ?_) rfl (by kernel_rfl) (by kernel_rfl) (by kernel_rfl) (fun _ _ _ h => h) (Or.inl ⟨by rfl, ?_⟩) hS ?_
                    rotate_left
                    · intro W hW; go_simp; with_reducible rfl
                    try simp only [Act.put, List.setIfInBounds_toArray, List.set_cons_zero, List.set_cons_succ]
                    refine wpAnyH_done (by kernel_rfl) ?_ _
                    go_wp2_with fail
                    go_meet
                    case rel => exact ⟨z, p, rfl, rfl, Lib.hid hS, HBX, HNP⟩
                  · skip
                    -- operation 9: a step
                    try rw [if_pos (by kernel_rfl)]
                    refine wp_alloc_bk 32 rfl ntZ (by kernel_rfl) ?_
                    intro VA z hbx hx hle
                    have HAL : Hid (Bk VA z ntZ 32) := Lib.hid hbx
                    have HLE := Lib.hid (Nat.le_trans hS.size hle)
                    try have HOF := Lib.hid (HGT.out.off z HLE.out (.inr (Nat.le_trans HGT.out.top hle)))
                    try replace HGT := Lib.hid (HGT.out.below hx)
                    show Kr _ _
                    refine hKr.out _ _ ?_ (fun _ => ?_)
                    · exact since_trans hS hx
                    clear hKr Kr
                    replace hS : Since w5 VA := since_trans hS hx
                    try simp only [Act.put, List.setIfInBounds_toArray, List.set_cons_zero, List.set_cons_succ]
                    refine wpAnyH_ready (rs := [5]) (by kernel_rfl) (by simp) ?_
                    refine AllReadyH.cons (o := ⟨some 125, _, _, _, _, _⟩) rfl (fun Kr hKr => ?_) AllReadyH.nil
                    -- operation 5: a call
                    go_simp
                    refine (HMG.out _ hS).mono ?_
                    rintro e V5 ho
                    obtain ⟨p, rfl, hgt, hx⟩ := merged hS HNa.out HNe.out ho
                    have HGT := Lib.hid hgt
                    try have HOF := Lib.hid (HGT.out.off z HLE.out (.inl (Bk.lt HAL.out)))
                    try replace HAL := Lib.hid (HAL.out.below hx)
                    show Kr _ _
                    refine hKr.out _ _ ?_ (fun _ => ?_)
                    · exact since_trans hS hx
                    clear hKr Kr
                    replace hS : Since w5 V5 := since_trans hS hx
                    try simp only [Act.put, List.setIfInBounds_toArray, List.set_cons_zero, List.set_cons_succ]
                    refine wpAnyH_take (i := 6) (oi := ⟨some 119, _, _, _, _, _⟩) (v := ?_) rfl (by kernel_rfl) (by kernel_rfl) (by kernel_rfl) (fun _ _ _ h => h) (Or.inl ⟨by rfl, ?_⟩) hS ?_
                    rotate_left
                    · intro W hW; go_simp; with_reducible rfl
                    try simp only [Act.put, List.setIfInBounds_toArray, List.set_cons_zero, List.set_cons_succ]
                    refine wpAnyH_take (i := 7) (oi := ⟨some 126, _, _, _, _, _⟩) (v := ?_) rfl (by kernel_rfl) (by kernel_rfl) (by kernel_rfl) (fun _ _ _ h => h) (Or.inl ⟨by rfl, ?_⟩) hS ?_
                    rotate_left
                    · intro W hW; go_simp; with_reducible rfl
                    try simp only [Act.put, List.setIfInBounds_toArray, List.set_cons_zero, List.set_cons_succ]
                    refine wpAnyH_take (i := 8) (oi := ⟨some 127, _, _, _, _, _⟩) (v := ?_) rfl (by kernel_rfl) (by kernel_rfl) (by kernel_rfl) (fun _ _ _ h => h) (Or.inl ⟨by rfl, ?_⟩) hS ?_
                    rotate_left
                    · intro W hW; go_simp; with_reducible rfl
                    try simp only [Act.put, List.setIfInBounds_toArray, List.set_cons_zero, List.set_cons_succ]
                    refine wpAnyH_ready (rs := [10]) (by kernel_rfl) (by simp) ?_
                    refine AllReadyH.cons (o := ⟨none, _, _, _, _, _⟩) rfl (fun Kr hKr => ?_) AllReadyH.nil
                    -- operation 10: a step
                    try rw [if_pos (by kernel_rfl)]
                    refine wp_store_bk 32 _ _ rfl z (ntC m2 p) rfl rfl 32 ntZ HAL.out (by kernel_rfl) rfl (ntC_one _ _) ?_
                    intro VS hbx hg9
                    have HBX : Hid (NtB VS z 32 m2 p) := Lib.hid ⟨hbx⟩
                    have HNP := Lib.hid (HGT.out.at_.off HOF.out hg9)
                    show Kr _ _
                    refine hKr.out _ _ ?_ (fun _ => ?_)
                    · exact Below.grown hS hg9 hS.size (fun q e => by have := HLE.out; have e := Option.some.inj e; omega)
                    clear hKr Kr
                    replace hS : Since w5 VS := Below.grown hS hg9 hS.size (fun q e => by have := HLE.out; have e := Option.some.inj e; omega)
                    try simp only [Act.put]
                    refine wpAnyH_take (i := 11) (oi := ⟨some 16, _, _, _, _, _⟩) (v := ?_) rfl (by kernel_rfl) (by kernel_rfl) (by kernel_rfl) (fun _ _ _ h => h) (Or.inl ⟨by rfl, ?_⟩) hS ?_
                    rotate_left
                    · intro W hW; go_simp; with_reducible rfl
                    try simp only [Act.put, List.setIfInBounds_toArray, List.set_cons_zero, List.set_cons_succ]
                    refine wpAnyH_done (by kernel_rfl) ?_ _
                    go_wp2_with fail
                    go_meet
                    case rel => exact ⟨z, p, rfl, rfl, Lib.hid hS, HBX, HNP⟩
                · skip
                  -- operation 9: a step
                  try rw [if_pos (by kernel_rfl)]
                  refine wp_alloc_bk 32 rfl ntZ (by kernel_rfl) ?_
                  intro VA z hbx hx hle
                  have HAL : Hid (Bk VA z ntZ 32) := Lib.hid hbx
                  have HLE := Lib.hid (Nat.le_trans hS.size hle)
                  try have HOF := Lib.hid (HGT.out.off z HLE.out (.inr (Nat.le_trans HGT.out.top hle)))
                  try replace HGT := Lib.hid (HGT.out.below hx)
                  show Kr _ _
                  refine hKr.out _ _ ?_ (fun _ => ?_)
                  · exact since_trans hS hx
                  clear hKr Kr
                  replace hS : Since w5 VA := since_trans hS hx
                  try simp only [Act.put, List.setIfInBounds_toArray, List.set_cons_zero, List.set_cons_succ]
                  refine wpAnyH_ready (rs := [1]) (by kernel_rfl) (by simp) ?_
                  refine AllReadyH.cons (o := ⟨some 121, _, _, _, _, _⟩) rfl (fun Kr hKr => ?_) AllReadyH.nil
                  -- operation 1: a call
                  go_simp
                  refine (ours_any a ⟨Aa, ka, ca, Ba, la, da, ea⟩ _).mono ?_
                  rintro e V1 ⟨rfl, hx⟩
                  try replace HAL := Lib.hid (HAL.out.below hx)
                  show Kr _ _
                  refine hKr.out _ _ ?_ (fun _ => ?_)
                  · exact since_trans hS hx
                  clear hKr Kr
                  replace hS : Since w5 V1 := since_trans hS hx
                  try simp only [Act.put, List.setIfInBounds_toArray, List.set_cons_zero, List.set_cons_succ]
                  refine wpAnyH_ready (rs := [5]) (by kernel_rfl) (by simp) ?_
                  refine AllReadyH.cons (o := ⟨some 125, _, _, _, _, _⟩) rfl (fun Kr hKr => ?_) AllReadyH.nil
                  -- operation 5: a call
                  go_simp
                  refine (HMG.out _ hS).mono ?_
                  rintro e V5 ho
                  obtain ⟨p, rfl, hgt, hx⟩ := merged hS HNa.out HNe.out ho
                  have HGT := Lib.hid hgt
                  try have HOF := Lib.hid (HGT.out.off z HLE.out (.inl (Bk.lt HAL.out)))
                  try replace HAL := Lib.hid (HAL.out.below hx)
                  show Kr _ _
                  refine hKr.out _ _ ?_ (fun _ => ?_)
                  · exact since_trans hS hx
                  clear hKr Kr
                  replace hS : Since w5 V5 := since_trans hS hx
                  try simp only [Act.put, List.setIfInBounds_toArray, List.set_cons_zero, List.set_cons_succ]
                  refine wpAnyH_take (i := 6) (oi := ⟨some 119, _, _, _, _, _⟩) (v := ?_) rfl (by kernel_rfl) (by kernel_rfl) (by kernel_rfl) (fun _ _ _ h => h) (Or.inl ⟨by rfl, ?_⟩) hS ?_
                  rotate_left
                  · intro W hW; go_simp; with_reducible rfl
                  try simp only [Act.put, List.setIfInBounds_toArray, List.set_cons_zero, List.set_cons_succ]
                  refine wpAnyH_take (i := 7) (oi := ⟨some 126, _, _, _, _, _⟩) (v := ?_) rfl (by kernel_rfl) (by kernel_rfl) (by kernel_rfl) (fun _ _ _ h => h) (Or.inl ⟨by rfl, ?_⟩) hS ?_
                  rotate_left
                  · intro W hW; go_simp; with_reducible rfl
                  try simp only [Act.put, List.setIfInBounds_toArray, List.set_cons_zero, List.set_cons_succ]
                  refine wpAnyH_take (i := 8) (oi := ⟨some 127, _, _, _, _, _⟩) (v := ?_) rfl (by kernel_rfl) (by kernel_rfl) (by kernel_rfl) (fun _ _ _ h => h) (Or.inl ⟨by rfl, ?_⟩) hS ?_
                  rotate_left
                  · intro W hW; go_simp; with_reducible rfl
                  try simp only [Act.put, List.setIfInBounds_toArray, List.set_cons_zero, List.set_cons_succ]
                  refine wpAnyH_ready (rs := [10]) (by kernel_rfl) (by simp) ?_
                  refine AllReadyH.cons (o := ⟨none, _, _, _, _, _⟩) rfl (fun Kr hKr => ?_) AllReadyH.nil
                  -- operation 10: a step
                  try rw [if_pos (by kernel_rfl)]
                  refine wp_store_bk 32 _ _ rfl z (ntC m2 p) rfl rfl 32 ntZ HAL.out (by kernel_rfl) rfl (ntC_one _ _) ?_
                  intro VS hbx hg9
                  have HBX : Hid (NtB VS z 32 m2 p) := Lib.hid ⟨hbx⟩
                  have HNP := Lib.hid (HGT.out.at_.off HOF.out hg9)
                  show Kr _ _
                  refine hKr.out _ _ ?_ (fun _ => ?_)
                  · exact Below.grown hS hg9 hS.size (fun q e => by have := HLE.out; have e := Option.some.inj e; omega)
                  clear hKr Kr
                  replace hS : Since w5 VS := Below.grown hS hg9 hS.size (fun q e => by have := HLE.out; have e := Option.some.inj e; omega)
                  try simp only [Act.put]
                  refine wpAnyH_take (i := 11) (oi := ⟨some 16, _, _, _, _, _⟩) (v := ?_) rfl (by kernel_rfl) (by kernel_rfl) (by kernel_rfl) (fun _ _ _ h => h) (Or.inl ⟨by rfl, ?_⟩) hS ?_
                  rotate_left
                  · intro W hW; go_simp; with_reducible rfl
                  try simp only [Act.put, List.setIfInBounds_toArray, List.set_cons_zero, List.set_cons_succ]
                  refine wpAnyH_done (by kernel_rfl) ?_ _
                  go_wp2_with fail
                  go_meet
                  case rel => exact ⟨z, p, rfl, rfl, Lib.hid hS, HBX, HNP⟩
              case rest =>
              obtain ⟨z2, ⟨pA2, pn2, pc2, pB2, pm2, pd2, pr2⟩, rfl, rfl, HW4, HB2, HN2⟩ := hcut
              obtain ⟨w6, hwc⟩ : ∃ u, u = wc := ⟨_, rfl⟩
              subst hwc
              clear x0 x1 x2 x3 HMG
              try clear y0 y1 y2 y3
              replace HBa := Lib.hid (HBa.out.below HW4.out)
              replace HNa := Lib.hid (HNa.out.below HW4.out)
              replace HBb := Lib.hid (HBb.out.below HW4.out)
              replace HNb := Lib.hid (HNb.out.below HW4.out)
              replace HB1 := Lib.hid (HB1.out.below HW4.out)
              replace HN1 := Lib.hid (HN1.out.below HW4.out)
              replace HB := Lib.hid (HB.out.trans (HW4.out.mono HB.out.size))
              clear HW4
              have h2a : m2 = a := HM2.out.trans HT.out.2
              have h20 : E2 = 0 := HG2.out.trans HT.out.1
              obtain ⟨f3, f4⟩ := ne_yes h20
              have hq1 : IntKind.i64.wrap ((la : Int) + (lb : Int)) = (pm1 : Int) := by rw [IntKind.wrap_i64, HPM.out]; omega
              have HSB := Lib.hid (show sameB m2 a = true by rw [h2a]; unfold sameB; simp)
              have HF2 : Hid (SmallN m2) := Lib.hid (by rw [h2a]; exact HFa.out)
              have HSM : Hid (∀ V, Since w6 V → Calls Try.prog 22 #[ntV m2 ⟨pA2, pn2, pc2, pB2, pm2, pd2, pr2⟩, ntV a ⟨Aa, ka, ca, Ba, la, da, ea⟩] V fun e w' => e = .returned (.bool true) ∧ Below V.heap.size V w') := Lib.hid (fun V hV => by
                have := same_any m2 a _ _ V (HN2.out.below hV) (HNa.out.below hV) ⟨by have := HF2.out.1; omega, by have := HF2.out.2.1; omega⟩
                rw [HSB.out] at this
                exact this)
              clear h2a h20
              have x0 : ∀ V, Since w6 V → V.cell? ⟨w.heap.size, 0, none⟩ = some (.int .i64 a.kind) := fun V hV => (HBa.out.below hV).c0
              have x1 : ∀ V, Since w6 V → V.cell? ⟨w.heap.size, 1, none⟩ = some (.int .i64 a.seq) := fun V hV => (HBa.out.below hV).c1
              have x2 : ∀ V, Since w6 V → V.cell? ⟨w.heap.size, 2, none⟩ = some (.slice Aa ka ca) := fun V hV => (HBa.out.below hV).c2
              have x3 : ∀ V, Since w6 V → V.cell? ⟨w.heap.size, 3, none⟩ = some (.slice Ba la da) := fun V hV => (HBa.out.below hV).c3
              have y0 : ∀ V, Since w6 V → V.cell? ⟨z2, 0, none⟩ = some (.int .i64 m2.kind) := fun V hV => (HB2.out.below hV).c0
              have y1 : ∀ V, Since w6 V → V.cell? ⟨z2, 1, none⟩ = some (.int .i64 m2.seq) := fun V hV => (HB2.out.below hV).c1
              have y2 : ∀ V, Since w6 V → V.cell? ⟨z2, 2, none⟩ = some (.slice pA2 pn2 pc2) := fun V hV => (HB2.out.below hV).c2
              have y3 : ∀ V, Since w6 V → V.cell? ⟨z2, 3, none⟩ = some (.slice pB2 pm2 pd2) := fun V hV => (HB2.out.below hV).c3
              have d3 : ∀ V, Since w6 V → V.cell? ⟨gb, 3, none⟩ = some (.slice Bb lb db) := fun V hV => (HBb.out.below hV).c3
              have e3 : ∀ V, Since w6 V → V.cell? ⟨z1, 3, none⟩ = some (.slice pB1 pm1 pd1) := fun V hV => (HB1.out.below hV).c3
              go_upto_region 25 with fail
              refine wp_region_since (by kernel_rfl) ?_
              have hS : Since w6 (World.drew w6) := (Below.refl _ _).drew
              refine wpAnyH_take (i := 0) (oi := ⟨some 128, _, _, _, _, _⟩) (v := ?_) rfl (by kernel_rfl) (by kernel_rfl) (by kernel_rfl) (fun _ _ _ h => h) (Or.inl ⟨by rfl, ?_⟩) hS ?_
              rotate_left
              · intro W hW; go_simp; with_reducible rfl
              try simp only [Act.put, List.setIfInBounds_toArray, List.set_cons_zero, List.set_cons_succ]
              refine wpAnyH_take (i := 1) (oi := ⟨some 129, _, _, _, _, _⟩) (v := ?_) rfl (by kernel_rfl) (by kernel_rfl) (by kernel_rfl) (fun _ _ _ h => h) (Or.inl ⟨by rfl, ?_⟩) hS ?_
              rotate_left
              · intro W hW; go_simp; with_reducible rfl
              try simp only [Act.put, List.setIfInBounds_toArray, List.set_cons_zero, List.set_cons_succ]
              refine wpAnyH_take (i := 2) (oi := ⟨some 130, _, _, _, _, _⟩) (v := ?_) rfl (by kernel_rfl) (by kernel_rfl) (by kernel_rfl) (fun _ _ _ h => h) (Or.inl ⟨by rfl, ?_⟩) hS ?_
              rotate_left
              · intro W hW; go_simp; with_reducible rfl
              try simp only [Act.put, List.setIfInBounds_toArray, List.set_cons_zero, List.set_cons_succ]
              refine wpAnyH_take (i := 3) (oi := ⟨some 131, _, _, _, _, _⟩) (v := ?_) rfl (by kernel_rfl) (by kernel_rfl) (by kernel_rfl) (fun _ _ _ h => h) (Or.inl ⟨by rfl, ?_⟩) hS ?_
              rotate_left
              · intro W hW; go_simp; with_reducible rfl
              try simp only [Act.put, List.setIfInBounds_toArray, List.set_cons_zero, List.set_cons_succ]
              refine wpAnyH_take (i := 4) (oi := ⟨some 132, _, _, _, _, _⟩) (v := ?_) rfl (by kernel_rfl) (by kernel_rfl) (by kernel_rfl) (fun _ _ _ h => h) (Or.inl ⟨by rfl, ?_⟩) hS ?_
              rotate_left
              · intro W hW; go_simp; with_reducible rfl
              try simp only [Act.put, List.setIfInBounds_toArray, List.set_cons_zero, List.set_cons_succ]
              refine wpAnyH_take (i := 5) (oi := ⟨some 133, _, _, _, _, _⟩) (v := ?_) rfl (by kernel_rfl) (by kernel_rfl) (by kernel_rfl) (fun _ _ _ h => h) (Or.inl ⟨by rfl, ?_⟩) hS ?_
              rotate_left
              · intro W hW; go_simp; with_reducible rfl
              try simp only [Act.put, List.setIfInBounds_toArray, List.set_cons_zero, List.set_cons_succ]
              refine wpAnyH_take (i := 6) (oi := ⟨some 134, _, _, _, _, _⟩) (v := ?_) rfl (by kernel_rfl) (by kernel_rfl) (by kernel_rfl) (fun _ _ _ h => h) (Or.inl ⟨by rfl, ?_⟩) hS ?_
              rotate_left
              · intro W hW; go_simp; with_reducible rfl
              try simp only [Act.put, List.setIfInBounds_toArray, List.set_cons_zero, List.set_cons_succ]
              refine wpAnyH_take (i := 7) (oi := ⟨some 135, _, _, _, _, _⟩) (v := ?_) rfl (by kernel_rfl) (by kernel_rfl) (by kernel_rfl) (fun _ _ _ h => h) (Or.inl ⟨by rfl, ?_⟩) hS ?_
              rotate_left
              · intro W hW; go_simp; with_reducible rfl
              try simp only [Act.put, List.setIfInBounds_toArray, List.set_cons_zero, List.set_cons_succ]
              refine wpAnyH_take (i := 8) (oi := ⟨some 136, _, _, _, _, _⟩) (v := ?_) rfl (by kernel_rfl) (by kernel_rfl) (by kernel_rfl) (fun _ _ _ h => h) (Or.inl ⟨by rfl, ?_⟩) hS ?_
              rotate_left
              · intro W hW; go_simp; with_reducible rfl
              try simp only [Act.put, List.setIfInBounds_toArray, List.set_cons_zero, List.set_cons_succ]
              refine wpAnyH_take (i := 9) (oi := ⟨some 137, _, _, _, _, _⟩) (v := ?_) rfl (by kernel_rfl) (by kernel_rfl) (by kernel_rfl) (fun _ _ _ h => h) (Or.inl ⟨by rfl, ?_⟩) hS ?_
              rotate_left
              · intro W hW; go_simp; with_reducible rfl
              try simp only [Act.put, List.setIfInBounds_toArray, List.set_cons_zero, List.set_cons_succ]
              refine wpAnyH_take (i := 10) (oi := ⟨some 138, _, _, _, _, _⟩) (v := ?_) rfl (by kernel_rfl) (by kernel_rfl) (by kernel_rfl) (fun _ _ _ h => h) (Or.inl ⟨by rfl, ?_⟩) hS ?_
              rotate_left
              · intro W hW; go_simp; with_reducible rfl
              try simp only [Act.put, List.setIfInBounds_toArray, List.set_cons_zero, List.set_cons_succ]
              refine wpAnyH_take (i := 11) (oi := ⟨some 139, _, _, _, _, _⟩) (v := ?_) rfl (by kernel_rfl) (by kernel_rfl) (by kernel_rfl) (fun _ _ _ h => h) (Or.inl ⟨by rfl, ?_⟩) hS ?_
              rotate_left
              · intro W hW; go_simp; with_reducible rfl
              try simp only [Act.put, List.setIfInBounds_toArray, List.set_cons_zero, List.set_cons_succ]
              refine wpAnyH_take (i := 12) (oi := ⟨some 140, _, _, _, _, _⟩) (v := ?_) rfl (by kernel_rfl) (by kernel_rfl) (by kernel_rfl) (fun _ _ _ h => h) (Or.inl ⟨by rfl, ?_⟩) hS ?_
              rotate_left
              · intro W hW; go_simp; with_reducible rfl
              try simp only [Act.put, List.setIfInBounds_toArray, List.set_cons_zero, List.set_cons_succ]
              refine wpAnyH_take (i := 13) (oi := ⟨some 141, _, _, _, _, _⟩) (v := ?_) rfl (by kernel_rfl) (by kernel_rfl) (by kernel_rfl) (fun _ _ _ h => h) (Or.inl ⟨by rfl, ?_⟩) hS ?_
              rotate_left
              · intro W hW; go_simp; with_reducible rfl
              try simp only [Act.put, List.setIfInBounds_toArray, List.set_cons_zero, List.set_cons_succ]
              refine wpAnyH_take (i := 14) (oi := ⟨some 142, _, _, _, _, _⟩) (v := ?_) rfl (by kernel_rfl) (by kernel_rfl) (by kernel_rfl) (fun _ _ _ h => h) (Or.inl ⟨by rfl, ?_⟩) hS ?_
              rotate_left
              · intro W hW; go_simp; with_reducible rfl
              try simp only [Act.put, List.setIfInBounds_toArray, List.set_cons_zero, List.set_cons_succ]
              refine wpAnyH_take (i := 15) (oi := ⟨some 143, _, _, _, _, _⟩) (v := ?_) rfl (by kernel_rfl) (by kernel_rfl) (by kernel_rfl) (fun _ _ _ h => h) (Or.inl ⟨by rfl, ?_⟩) hS ?_
              rotate_left
              · intro W hW; go_simp; with_reducible rfl
              try simp only [Act.put, List.setIfInBounds_toArray, List.set_cons_zero, List.set_cons_succ]
              refine wpAnyH_take (i := 16) (oi := ⟨some 144, _, _, _, _, _⟩) (v := ?_) rfl (by kernel_rfl) (by kernel_rfl) (by kernel_rfl) (fun _ _ _ h => h) (Or.inl ⟨by rfl, ?_⟩) hS ?_
              rotate_left
              · intro W hW; go_simp; with_reducible rfl
              try simp only [Act.put, List.setIfInBounds_toArray, List.set_cons_zero, List.set_cons_succ]
              refine wpAnyH_take (i := 18) (oi := ⟨some 146, _, _, _, _, _⟩) (v := ?_) rfl (by kernel_rfl) (by kernel_rfl) (by kernel_rfl) (fun _ _ _ h => h) (Or.inl ⟨by rfl, ?_⟩) hS ?_
              rotate_left
              · intro W hW; go_simp; with_reducible rfl
              try simp only [Act.put, List.setIfInBounds_toArray, List.set_cons_zero, List.set_cons_succ]
              refine wpAnyH_ready (rs := [17]) (by kernel_rfl) (by simp) ?_
              refine AllReadyH.cons (o := ⟨some 145, _, _, _, _, _⟩) rfl (fun Kr hKr => ?_) AllReadyH.nil
              -- operation 17: a call
              go_simp
              refine (theirs_any m2 ⟨pA2, pn2, pc2, pB2, pm2, pd2, pr2⟩ _).mono ?_
              rintro e V8 ⟨rfl, hx⟩
              show Kr _ _
              refine hKr.out _ _ ?_ (fun _ => ?_)
              · exact since_trans hS hx
              clear hKr Kr
              replace hS : Since w6 V8 := since_trans hS hx
              try simp only [Act.put, List.setIfInBounds_toArray, List.set_cons_zero, List.set_cons_succ]
              refine wpAnyH_ready (rs := [19]) (by kernel_rfl) (by simp) ?_
              refine AllReadyH.cons (o := ⟨some 147, _, _, _, _, _⟩) rfl (fun Kr hKr => ?_) AllReadyH.nil
              -- operation 19: a call
              go_simp
              refine (HSM.out _ hS).mono ?_
              rintro e V11 ⟨rfl, hx⟩
              show Kr _ _
              refine hKr.out _ _ ?_ (fun _ => ?_)
              · exact since_trans hS hx
              clear hKr Kr
              replace hS : Since w6 V11 := since_trans hS hx
              try simp only [Act.put, List.setIfInBounds_toArray, List.set_cons_zero, List.set_cons_succ]
              refine wpAnyH_take (i := 20) (oi := ⟨some 148, _, _, _, _, _⟩) (v := ?_) rfl (by kernel_rfl) (by kernel_rfl) (by kernel_rfl) (fun _ _ _ h => h) (Or.inl ⟨by rfl, ?_⟩) hS ?_
              rotate_left
              · intro W hW; go_simp; with_reducible rfl
              try simp only [Act.put, List.setIfInBounds_toArray, List.set_cons_zero, List.set_cons_succ]
              refine wpAnyH_take (i := 21) (oi := ⟨some 149, _, _, _, _, _⟩) (v := ?_) rfl (by kernel_rfl) (by kernel_rfl) (by kernel_rfl) (fun _ _ _ h => h) (Or.inl ⟨by rfl, ?_⟩) hS ?_
              rotate_left
              · intro W hW; go_simp; with_reducible rfl
              try simp only [Act.put, List.setIfInBounds_toArray, List.set_cons_zero, List.set_cons_succ]
              refine wpAnyH_done (by kernel_rfl) ?_ _
              obtain ⟨w7, hw7⟩ : ∃ u, u = V11 := ⟨_, rfl⟩
              subst hw7
              have HSF := Lib.hid hS
              clear hS x0 x1 x2 x3 y0 y1 y2 y3 d3 e3 hq1 f3 f4
              replace HB := Lib.hid (HB.out.trans (HSF.out.mono HB.out.size))
              replace HBa := Lib.hid (HBa.out.below HSF.out)
              replace HBb := Lib.hid (HBb.out.below HSF.out)
              replace HB1 := Lib.hid (HB1.out.below HSF.out)
              replace HNa := Lib.hid (HNa.out.below HSF.out)
              replace HNb := Lib.hid (HNb.out.below HSF.out)
              replace HN1 := Lib.hid (HN1.out.below HSF.out)
              clear HB2 HN2 HSM HSF
              go_wp2_with fail
              go_loopg [17] pm1 (fun gn i wr => ∃ j : Nat, i = .int .i64 (j : Int) ∧ j + gn = pm1 ∧ Hid (Below w7.heap.size w7 wr))
              case atStart => exact ⟨0, rfl, by omega, Lib.hid (Below.refl _ _)⟩
              case round =>
                obtain ⟨j, rfl, hog, HBW⟩ := hrel
                have z3 := (HB1.out.below HBW.out).c3
                simp only at z3
                rcases Nat.lt_or_ge j pm1 with hlt | hge
                · have hdj : decide (j < pm1) = true := decide_eq_true hlt
                  have hdi : decide ((j : Int) < (pm1 : Int)) = true := decide_eq_true (by omega)
                  have hji : (j : Int) < (pm1 : Int) := by omega
                  have hmo : m1.op = a.op ++ b.op := by rw [HMM.out]; rfl
                  obtain ⟨xi, bx, ox, hxi, hX⟩ := (HN1.out.op.below HBW.out).get hlt
                  have eA := hX.a
                  simp only at eA
                  have e3 : ∀ V, Since wr V → V.cell? ⟨z1, 3, none⟩ = some (.slice pB1 pm1 pd1) := fun V hV => ((HB1.out.below HBW.out).below hV).c3
                  have x3 : ∀ V, Since wr V → V.cell? ⟨w.heap.size, 3, none⟩ = some (.slice Ba la da) := fun V hV => ((HBa.out.below HBW.out).below hV).c3
                  have d3 : ∀ V, Since wr V → V.cell? ⟨gb, 3, none⟩ = some (.slice Bb lb db) := fun V hV => ((HBb.out.below HBW.out).below hV).c3
                  have K3 : Hid (∀ V, Since wr V → (loadVar 53 ⟨bx, ox + j * 2, none⟩).run Try.prog V = .ok (odV xi) V) := Lib.hid (fun V hV => run_load_od ((hV.cell (p := ⟨bx, ox + j * 2, none⟩) hX.lt).trans hX.c0) ((hV.cell (p := ⟨bx, ox + j * 2 + 1, none⟩) hX.lt).trans hX.c1))
                  by_cases hja : j < la
                  · obtain ⟨yi, bY, oY, hyi, hY⟩ := (HNa.out.op.below HBW.out).get hja
                    have eB := hY.a
                    simp only at eB
                    have K4 : Hid (∀ V, Since wr V → (loadVar 53 ⟨bY, oY + j * 2, none⟩).run Try.prog V = .ok (odV yi) V) := Lib.hid (fun V hV => run_load_od ((hV.cell (p := ⟨bY, oY + j * 2, none⟩) hY.lt).trans hY.c0) ((hV.cell (p := ⟨bY, oY + j * 2 + 1, none⟩) hY.lt).trans hY.c1))
                    have hxy : xi = yi := by
                      rw [hmo, List.getElem?_append_left (by have := HLN.out.1.2; omega), hyi] at hxi
                      exact (Option.some.inj hxi).symm
                    have HQB : Hid ((!(xi.c == yi.c && xi.b == yi.b)) = false) := Lib.hid (by rw [hxy]; simp)
                    rw [eA] at e3
                    rw [eB] at x3
                    have t1 : decide (j < la) = true := decide_eq_true hja
                    have t2 : decide ((j : Int) < (la : Int)) = true := decide_eq_true (by omega)
                    have t3 : decide (la ≤ j) = false := decide_eq_false (by omega)
                    have t4 : decide ((la : Int) ≤ (j : Int)) = false := decide_eq_false (by omega)
                    have t5 : (j : Int) < (la : Int) := by omega
                    clear hmo hxi hX eA hyi hY eB hxy
                    go_upto_region 30 with fail
                    clear z3
                    refine wp_region_since (by kernel_rfl) ?_
                    have hS : Since wr (World.drew wr) := (Below.refl _ _).drew
                    refine wpAnyH_take (i := 0) (oi := ⟨some 157, _, _, _, _, _⟩) (v := ?_) rfl (by kernel_rfl) (by kernel_rfl) (by kernel_rfl) (fun _ _ _ h => h) (Or.inl ⟨by rfl, ?_⟩) hS ?_
                    rotate_left
                    · intro W hW; go_simp; with_reducible rfl
                    try simp only [Act.put, List.setIfInBounds_toArray, List.set_cons_zero, List.set_cons_succ]
                    refine wpAnyH_take (i := 1) (oi := ⟨some 158, _, _, _, _, _⟩) (v := ?_) rfl (by kernel_rfl) (by kernel_rfl) (by kernel_rfl) (fun _ _ _ h => h) (Or.inl ⟨by rfl, ?_⟩) hS ?_
                    rotate_left
                    · intro W hW; go_simp; with_reducible rfl
                    try simp only [Act.put, List.setIfInBounds_toArray, List.set_cons_zero, List.set_cons_succ]
                    refine wpAnyH_take (i := 2) (oi := ⟨some 159, _, _, _, _, _⟩) (v := ?_) rfl (by kernel_rfl) (by kernel_rfl) (by kernel_rfl) (fun _ _ _ h => h) (Or.inl ⟨by rfl, ?_⟩) hS ?_
                    rotate_left
                    · intro W hW; go_simp; with_reducible rfl
                    try simp only [Act.put, List.setIfInBounds_toArray, List.set_cons_zero, List.set_cons_succ]
                    refine wpAnyH_take (i := 3) (oi := ⟨some 160, _, _, _, _, _⟩) (v := ?_) rfl (by kernel_rfl) (by kernel_rfl) (by kernel_rfl) (fun _ _ _ h => h) (Or.inl ⟨by rfl, ?_⟩) hS ?_
                    rotate_left
                    · intro W hW; go_simp; with_reducible rfl
                    try simp only [Act.put, List.setIfInBounds_toArray, List.set_cons_zero, List.set_cons_succ]
                    refine wpAnyH_take (i := 4) (oi := ⟨some 161, _, _, _, _, _⟩) (v := ?_) rfl (by kernel_rfl) (by kernel_rfl) (by kernel_rfl) (fun _ _ _ h => h) (Or.inl ⟨by rfl, ?_⟩) hS ?_
                    rotate_left
                    · intro W hW; go_simp; with_reducible rfl
                    try simp only [Act.put, List.setIfInBounds_toArray, List.set_cons_zero, List.set_cons_succ]
                    refine wpAnyH_take (i := 5) (oi := ⟨some 162, _, _, _, _, _⟩) (v := ?_) rfl (by kernel_rfl) (by kernel_rfl) (by kernel_rfl) (fun _ _ _ h => h) (Or.inl ⟨by rfl, ?_⟩) hS ?_
                    rotate_left
                    · intro W hW; go_simp; with_reducible rfl
                    try simp only [Act.put, List.setIfInBounds_toArray, List.set_cons_zero, List.set_cons_succ]
                    refine wpAnyH_take (i := 6) (oi := ⟨some 163, _, _, _, _, _⟩) (v := ?_) rfl (by kernel_rfl) (by kernel_rfl) (by kernel_rfl) (fun _ _ _ h => h) (Or.inl ⟨by rfl, ?_⟩) hS ?_
                    rotate_left
                    · intro W hW; go_simp; with_reducible rfl
                    try simp only [Act.put, List.setIfInBounds_toArray, List.set_cons_zero, List.set_cons_succ]
                    refine wpAnyH_take (i := 7) (oi := ⟨some 164, _, _, _, _, _⟩) (v := ?_) rfl (by kernel_rfl) (by kernel_rfl) (by kernel_rfl) (fun _ _ _ h => h) (Or.inl ⟨by rfl, ?_⟩) hS ?_
                    rotate_left
                    · intro W hW; go_simp; with_reducible rfl
                    try simp only [Act.put, List.setIfInBounds_toArray, List.set_cons_zero, List.set_cons_succ]
                    refine wpAnyH_take (i := 8) (oi := ⟨some 165, _, _, _, _, _⟩) (v := ?_) rfl (by kernel_rfl) (by kernel_rfl) (by kernel_rfl) (fun _ _ _ h => h) (Or.inl ⟨by rfl, ?_⟩) hS ?_
                    rotate_left
                    · intro W hW; go_simp; with_reducible rfl
                    try simp only [Act.put, List.setIfInBounds_toArray, List.set_cons_zero, List.set_cons_succ]
                    refine wpAnyH_take (i := 9) (oi := ⟨some 166, _, _, _, _, _⟩) (v := ?_) rfl (by kernel_rfl) (by kernel_rfl) (by kernel_rfl) (fun _ _ _ h => h) (Or.inl ⟨by rfl, ?_⟩) hS ?_
                    rotate_left
                    · intro W hW; go_simp; with_reducible rfl
                    try simp only [Act.put, List.setIfInBounds_toArray, List.set_cons_zero, List.set_cons_succ]
                    refine wpAnyH_take (i := 10) (oi := ⟨some 167, _, _, _, _, _⟩) (v := (odV xi)) rfl (by kernel_rfl) (by kernel_rfl) (by kernel_rfl) (fun _ _ _ h => h) (Or.inl ⟨by rfl, fun W hW => exec_load rfl rfl (K3.out W hW)⟩) hS ?_
                    try simp only [Act.put, List.setIfInBounds_toArray, List.set_cons_zero, List.set_cons_succ]
                    refine wpAnyH_take (i := 11) (oi := ⟨some 168, _, _, _, _, _⟩) (v := ?_) rfl (by kernel_rfl) (by kernel_rfl) (by kernel_rfl) (fun _ _ _ h => h) (Or.inl ⟨by rfl, ?_⟩) hS ?_
                    rotate_left
                    · intro W hW; go_simp; with_reducible rfl
                    try simp only [Act.put, List.setIfInBounds_toArray, List.set_cons_zero, List.set_cons_succ]
                    refine wpAnyH_take (i := 12) (oi := ⟨some 169, _, _, _, _, _⟩) (v := ?_) rfl (by kernel_rfl) (by kernel_rfl) (by kernel_rfl) (fun _ _ _ h => h) (Or.inl ⟨by rfl, ?_⟩) hS ?_
                    rotate_left
                    · intro W hW; go_simp; with_reducible rfl
                    try simp only [Act.put, List.setIfInBounds_toArray, List.set_cons_zero, List.set_cons_succ]
                    refine wpAnyH_take (i := 13) (oi := ⟨some 170, _, _, _, _, _⟩) (v := ?_) rfl (by kernel_rfl) (by kernel_rfl) (by kernel_rfl) (fun _ _ _ h => h) (Or.inl ⟨by rfl, ?_⟩) hS ?_
                    rotate_left
                    · intro W hW; go_simp; with_reducible rfl
                    try simp only [Act.put, List.setIfInBounds_toArray, List.set_cons_zero, List.set_cons_succ]
                    refine wpAnyH_take (i := 14) (oi := ⟨some 171, _, _, _, _, _⟩) (v := ?_) rfl (by kernel_rfl) (by kernel_rfl) (by kernel_rfl) (fun _ _ _ h => h) (Or.inl ⟨by rfl, ?_⟩) hS ?_
                    rotate_left
                    · intro W hW; go_simp; with_reducible rfl
                    try simp only [Act.put, List.setIfInBounds_toArray, List.set_cons_zero, List.set_cons_succ]
                    refine wpAnyH_take (i := 15) (oi := ⟨some 172, _, _, _, _, _⟩) (v := (odV yi)) rfl (by kernel_rfl) (by kernel_rfl) (by kernel_rfl) (fun _ _ _ h => h) (Or.inl ⟨by rfl, fun W hW => exec_load rfl rfl (K4.out W hW)⟩) hS ?_
                    try simp only [Act.put, List.setIfInBounds_toArray, List.set_cons_zero, List.set_cons_succ]
                    refine wpAnyH_take (i := 16) (oi := ⟨some 173, _, _, _, _, _⟩) (v := (.bool false)) rfl (by kernel_rfl) (by kernel_rfl) (by kernel_rfl) (fun _ _ _ h => h) (Or.inl ⟨by rfl, fun W hW => exec_neq_od rfl rfl rfl HQB.out⟩) hS ?_
                    try simp only [Act.put, List.setIfInBounds_toArray, List.set_cons_zero, List.set_cons_succ]
                    refine wpAnyH_take (i := 17) (oi := ⟨some 174, _, _, _, _, _⟩) (v := ?_) rfl (by kernel_rfl) (by kernel_rfl) (by kernel_rfl) (fun _ _ _ h => h) (Or.inl ⟨by rfl, ?_⟩) hS ?_
                    rotate_left
                    · intro W hW; go_simp; with_reducible rfl
                    try simp only [Act.put, List.setIfInBounds_toArray, List.set_cons_zero, List.set_cons_succ]
                    refine wpAnyH_take (i := 18) (oi := ⟨some 175, _, _, _, _, _⟩) (v := ?_) rfl (by kernel_rfl) (by kernel_rfl) (by kernel_rfl) (fun _ _ _ h => h) (Or.inl ⟨by rfl, ?_⟩) hS ?_
                    rotate_left
                    · intro W hW; go_simp; with_reducible rfl
                    try simp only [Act.put, List.setIfInBounds_toArray, List.set_cons_zero, List.set_cons_succ]
                    refine wpAnyH_take (i := 19) (oi := ⟨some 176, _, _, _, _, _⟩) (v := ?_) rfl (by kernel_rfl) (by kernel_rfl) (by kernel_rfl) (fun _ _ _ h => h) (Or.inl ⟨by rfl, ?_⟩) hS ?_
                    rotate_left
                    · intro W hW; go_simp; with_reducible rfl
                    try simp only [Act.put, List.setIfInBounds_toArray, List.set_cons_zero, List.set_cons_succ]
                    refine wpAnyH_take (i := 20) (oi := ⟨some 177, _, _, _, _, _⟩) (v := ?_) rfl (by kernel_rfl) (by kernel_rfl) (by kernel_rfl) (fun _ _ _ h => h) (Or.inl ⟨by rfl, ?_⟩) hS ?_
                    rotate_left
                    · intro W hW; go_simp; with_reducible rfl
                    try simp only [Act.put, List.setIfInBounds_toArray, List.set_cons_zero, List.set_cons_succ]
                    refine wpAnyH_take (i := 21) (oi := ⟨some 178, _, _, _, _, _⟩) (v := ?_) rfl (by kernel_rfl) (by kernel_rfl) (by kernel_rfl) (fun _ _ _ h => h) (Or.inl ⟨by rfl, ?_⟩) hS ?_
                    rotate_left
                    · intro W hW; go_simp; with_reducible rfl
                    try simp only [Act.put, List.setIfInBounds_toArray, List.set_cons_zero, List.set_cons_succ]
                    refine wpAnyH_take (i := 22) (oi := ⟨some 179, _, _, _, _, _⟩) (v := ?_) rfl (by kernel_rfl) (by kernel_rfl) (by kernel_rfl) (fun _ _ _ h => h) (Or.inl ⟨by rfl, ?_⟩) hS ?_
                    rotate_left
                    · intro W hW; go_simp; with_reducible rfl
                    try simp only [Act.put, List.setIfInBounds_toArray, List.set_cons_zero, List.set_cons_succ]
                    refine wpAnyH_take (i := 23) (oi := ⟨some 180, _, _, _, _, _⟩) (v := ?_) rfl (by kernel_rfl) (by kernel_rfl) (by kernel_rfl) (fun _ _ _ h => h) (Or.inl ⟨by rfl, ?_⟩) hS ?_
                    rotate_left
                    · intro W hW; go_simp; with_reducible rfl
                    try simp only [Act.put, List.setIfInBounds_toArray, List.set_cons_zero, List.set_cons_succ]
                    refine wpAnyH_take (i := 24) (oi := ⟨some 181, _, _, _, _, _⟩) (v := ?_) rfl (by kernel_rfl) (by kernel_rfl) (by kernel_rfl) (fun _ _ _ h => h) (Or.inl ⟨by rfl, ?_⟩) hS ?_
                    rotate_left
                    · intro W hW; go_simp; with_reducible rfl
                    try simp only [Act.put, List.setIfInBounds_toArray, List.set_cons_zero, List.set_cons_succ]
                    refine wpAnyH_take (i := 25) (oi := ⟨some 182, _, _, _, _, _⟩) (v := undef) rfl (by kernel_rfl) (by kernel_rfl) (by kernel_rfl) (fun _ _ _ h => h) (Or.inr ⟨by rfl, rfl⟩) hS ?_
                    try simp only [Act.put, List.setIfInBounds_toArray, List.set_cons_zero, List.set_cons_succ]
                    refine wpAnyH_take (i := 26) (oi := ⟨some 183, _, _, _, _, _⟩) (v := undef) rfl (by kernel_rfl) (by kernel_rfl) (by kernel_rfl) (fun _ _ _ h => h) (Or.inr ⟨by rfl, rfl⟩) hS ?_
                    try simp only [Act.put, List.setIfInBounds_toArray, List.set_cons_zero, List.set_cons_succ]
                    refine wpAnyH_take (i := 27) (oi := ⟨some 184, _, _, _, _, _⟩) (v := undef) rfl (by kernel_rfl) (by kernel_rfl) (by kernel_rfl) (fun _ _ _ h => h) (Or.inr ⟨by rfl, rfl⟩) hS ?_
                    try simp only [Act.put, List.setIfInBounds_toArray, List.set_cons_zero, List.set_cons_succ]
                    refine wpAnyH_take (i := 28) (oi := ⟨some 185, _, _, _, _, _⟩) (v := undef) rfl (by kernel_rfl) (by kernel_rfl) (by kernel_rfl) (fun _ _ _ h => h) (Or.inr ⟨by rfl, rfl⟩) hS ?_
                    try simp only [Act.put, List.setIfInBounds_toArray, List.set_cons_zero, List.set_cons_succ]
                    refine wpAnyH_take (i := 29) (oi := ⟨some 186, _, _, _, _, _⟩) (v := undef) rfl (by kernel_rfl) (by kernel_rfl) (by kernel_rfl) (fun _ _ _ h => h) (Or.inr ⟨by rfl, rfl⟩) hS ?_
                    try simp only [Act.put, List.setIfInBounds_toArray, List.set_cons_zero, List.set_cons_succ]
                    refine wpAnyH_take (i := 30) (oi := ⟨some 187, _, _, _, _, _⟩) (v := undef) rfl (by kernel_rfl) (by kernel_rfl) (by kernel_rfl) (fun _ _ _ h => h) (Or.inr ⟨by rfl, rfl⟩) hS ?_
                    try simp only [Act.put, List.setIfInBounds_toArray, List.set_cons_zero, List.set_cons_succ]
                    refine wpAnyH_take (i := 31) (oi := ⟨some 188, _, _, _, _, _⟩) (v := undef) rfl (by kernel_rfl) (by kernel_rfl) (by kernel_rfl) (fun _ _ _ h => h) (Or.inr ⟨by rfl, rfl⟩) hS ?_
                    try simp only [Act.put, List.setIfInBounds_toArray, List.set_cons_zero, List.set_cons_succ]
                    refine wpAnyH_take (i := 32) (oi := ⟨some 189, _, _, _, _, _⟩) (v := undef) rfl (by kernel_rfl) (by kernel_rfl) (by kernel_rfl) (fun _ _ _ h => h) (Or.inr ⟨by rfl, rfl⟩) hS ?_
                    try simp only [Act.put, List.setIfInBounds_toArray, List.set_cons_zero, List.set_cons_succ]
                    refine wpAnyH_take (i := 33) (oi := ⟨some 190, _, _, _, _, _⟩) (v := undef) rfl (by kernel_rfl) (by kernel_rfl) (by kernel_rfl) (fun _ _ _ h => h) (Or.inr ⟨by rfl, rfl⟩) hS ?_
                    try simp only [Act.put, List.setIfInBounds_toArray, List.set_cons_zero, List.set_cons_succ]
                    refine wpAnyH_take (i := 34) (oi := ⟨some 191, _, _, _, _, _⟩) (v := undef) rfl (by kernel_rfl) (by kernel_rfl) (by kernel_rfl) (fun _ _ _ h => h) (Or.inr ⟨by rfl, rfl⟩) hS ?_
                    try simp only [Act.put, List.setIfInBounds_toArray, List.set_cons_zero, List.set_cons_succ]
                    refine wpAnyH_take (i := 35) (oi := ⟨some 192, _, _, _, _, _⟩) (v := undef) rfl (by kernel_rfl) (by kernel_rfl) (by kernel_rfl) (fun _ _ _ h => h) (Or.inr ⟨by rfl, rfl⟩) hS ?_
                    try simp only [Act.put, List.setIfInBounds_toArray, List.set_cons_zero, List.set_cons_succ]
                    refine wpAnyH_take (i := 36) (oi := ⟨some 193, _, _, _, _, _⟩) (v := undef) rfl (by kernel_rfl) (by kernel_rfl) (by kernel_rfl) (fun _ _ _ h => h) (Or.inr ⟨by rfl, rfl⟩) hS ?_
                    try simp only [Act.put, List.setIfInBounds_toArray, List.set_cons_zero, List.set_cons_succ]
                    refine wpAnyH_take (i := 37) (oi := ⟨some 194, _, _, _, _, _⟩) (v := undef) rfl (by kernel_rfl) (by kernel_rfl) (by kernel_rfl) (fun _ _ _ h => h) (Or.inr ⟨by rfl, rfl⟩) hS ?_
                    try simp only [Act.put, List.setIfInBounds_toArray, List.set_cons_zero, List.set_cons_succ]
                    refine wpAnyH_take (i := 38) (oi := ⟨some 195, _, _, _, _, _⟩) (v := undef) rfl (by kernel_rfl) (by kernel_rfl) (by kernel_rfl) (fun _ _ _ h => h) (Or.inr ⟨by rfl, rfl⟩) hS ?_
                    try simp only [Act.put, List.setIfInBounds_toArray, List.set_cons_zero, List.set_cons_succ]
                    refine wpAnyH_take (i := 39) (oi := ⟨some 196, _, _, _, _, _⟩) (v := undef) rfl (by kernel_rfl) (by kernel_rfl) (by kernel_rfl) (fun _ _ _ h => h) (Or.inr ⟨by rfl, rfl⟩) hS ?_
                    try simp only [Act.put, List.setIfInBounds_toArray, List.set_cons_zero, List.set_cons_succ]
                    refine wpAnyH_take (i := 40) (oi := ⟨some 197, _, _, _, _, _⟩) (v := ?_) rfl (by kernel_rfl) (by kernel_rfl) (by kernel_rfl) (fun _ _ _ h => h) (Or.inl ⟨by rfl, ?_⟩) hS ?_
                    rotate_left
                    · intro W hW; go_simp; with_reducible rfl
                    try simp only [Act.put, List.setIfInBounds_toArray, List.set_cons_zero, List.set_cons_succ]
                    refine wpAnyH_take (i := 41) (oi := ⟨some 198, _, _, _, _, _⟩) (v := ?_) rfl (by kernel_rfl) (by kernel_rfl) (by kernel_rfl) (fun _ _ _ h => h) (Or.inl ⟨by rfl, ?_⟩) hS ?_
                    rotate_left
                    · intro W hW; go_simp; with_reducible rfl
                    try simp only [Act.put, List.setIfInBounds_toArray, List.set_cons_zero, List.set_cons_succ]
                    refine wpAnyH_done (by kernel_rfl) ?_ _
                    have HB9 := Lib.hid (HBW.out.trans (Below.mono hS HBW.out.size))
                    clear hS K3 K4 e3 x3 d3
                    go_wp2_with fail
                    go_roundg (gk - 1)
                    case measure => omega
                    case rel => exact ⟨j + 1, by go_num, by omega, HB9⟩
                  · obtain ⟨jj, hjj⟩ : ∃ jj, j = la + jj := ⟨j - la, by omega⟩
                    have hjb : jj < lb := by have := HPM.out; omega
                    obtain ⟨yi, bY, oY, hyi, hY⟩ := (HNb.out.op.below HBW.out).get hjb
                    have eB := hY.a
                    simp only at eB
                    have K4 : Hid (∀ V, Since wr V → (loadVar 53 ⟨bY, oY + jj * 2, none⟩).run Try.prog V = .ok (odV yi) V) := Lib.hid (fun V hV => run_load_od ((hV.cell (p := ⟨bY, oY + jj * 2, none⟩) hY.lt).trans hY.c0) ((hV.cell (p := ⟨bY, oY + jj * 2 + 1, none⟩) hY.lt).trans hY.c1))
                    have hxy : xi = yi := by
                      rw [hmo, List.getElem?_append_right (by have := HLN.out.1.2; omega), HLN.out.1.2, show j - la = jj by omega, hyi] at hxi
                      exact (Option.some.inj hxi).symm
                    have HQB : Hid ((!(xi.c == yi.c && xi.b == yi.b)) = false) := Lib.hid (by rw [hxy]; simp)
                    rw [eA] at e3
                    rw [eB] at d3
                    have t1 : decide (j < la) = false := decide_eq_false hja
                    have t2 : decide ((j : Int) < (la : Int)) = false := decide_eq_false (by omega)
                    have t3 : decide (la ≤ j) = true := decide_eq_true (by omega)
                    have t4 : decide ((la : Int) ≤ (j : Int)) = true := decide_eq_true (by omega)
                    have t5 : IntKind.i64.wrap ((j : Int) - (la : Int)) = (jj : Int) := by rw [IntKind.wrap_i64]; omega
                    have t6 : (jj : Int) < (lb : Int) := by omega
                    have HJJ := Lib.hid hjj
                    clear hmo hxi hX eA hyi hY eB hxy hjj hja
                    go_upto_region 30 with fail
                    clear z3
                    refine wp_region_since (by kernel_rfl) ?_
                    have hS : Since wr (World.drew wr) := (Below.refl _ _).drew
                    refine wpAnyH_take (i := 0) (oi := ⟨some 157, _, _, _, _, _⟩) (v := ?_) rfl (by kernel_rfl) (by kernel_rfl) (by kernel_rfl) (fun _ _ _ h => h) (Or.inl ⟨by rfl, ?_⟩) hS ?_
                    rotate_left
                    · intro W hW; go_simp; with_reducible rfl
                    try simp only [Act.put, List.setIfInBounds_toArray, List.set_cons_zero, List.set_cons_succ]
                    refine wpAnyH_take (i := 1) (oi := ⟨some 158, _, _, _, _, _⟩) (v := ?_) rfl (by kernel_rfl) (by kernel_rfl) (by kernel_rfl) (fun _ _ _ h => h) (Or.inl ⟨by rfl, ?_⟩) hS ?_
                    rotate_left
                    · intro W hW; go_simp; with_reducible rfl
                    try simp only [Act.put, List.setIfInBounds_toArray, List.set_cons_zero, List.set_cons_succ]
                    refine wpAnyH_take (i := 2) (oi := ⟨some 159, _, _, _, _, _⟩) (v := ?_) rfl (by kernel_rfl) (by kernel_rfl) (by kernel_rfl) (fun _ _ _ h => h) (Or.inl ⟨by rfl, ?_⟩) hS ?_
                    rotate_left
                    · intro W hW; go_simp; with_reducible rfl
                    try simp only [Act.put, List.setIfInBounds_toArray, List.set_cons_zero, List.set_cons_succ]
                    refine wpAnyH_take (i := 3) (oi := ⟨some 160, _, _, _, _, _⟩) (v := ?_) rfl (by kernel_rfl) (by kernel_rfl) (by kernel_rfl) (fun _ _ _ h => h) (Or.inl ⟨by rfl, ?_⟩) hS ?_
                    rotate_left
                    · intro W hW; go_simp; with_reducible rfl
                    try simp only [Act.put, List.setIfInBounds_toArray, List.set_cons_zero, List.set_cons_succ]
                    refine wpAnyH_take (i := 4) (oi := ⟨some 161, _, _, _, _, _⟩) (v := ?_) rfl (by kernel_rfl) (by kernel_rfl) (by kernel_rfl) (fun _ _ _ h => h) (Or.inl ⟨by rfl, ?_⟩) hS ?_
                    rotate_left
                    · intro W hW; go_simp; with_reducible rfl
                    try simp only [Act.put, List.setIfInBounds_toArray, List.set_cons_zero, List.set_cons_succ]
                    refine wpAnyH_take (i := 5) (oi := ⟨some 162, _, _, _, _, _⟩) (v := ?_) rfl (by kernel_rfl) (by kernel_rfl) (by kernel_rfl) (fun _ _ _ h => h) (Or.inl ⟨by rfl, ?_⟩) hS ?_
                    rotate_left
                    · intro W hW; go_simp; with_reducible rfl
                    try simp only [Act.put, List.setIfInBounds_toArray, List.set_cons_zero, List.set_cons_succ]
                    refine wpAnyH_take (i := 6) (oi := ⟨some 163, _, _, _, _, _⟩) (v := undef) rfl (by kernel_rfl) (by kernel_rfl) (by kernel_rfl) (fun _ _ _ h => h) (Or.inr ⟨by rfl, rfl⟩) hS ?_
                    try simp only [Act.put, List.setIfInBounds_toArray, List.set_cons_zero, List.set_cons_succ]
                    refine wpAnyH_take (i := 7) (oi := ⟨some 164, _, _, _, _, _⟩) (v := undef) rfl (by kernel_rfl) (by kernel_rfl) (by kernel_rfl) (fun _ _ _ h => h) (Or.inr ⟨by rfl, rfl⟩) hS ?_
                    try simp only [Act.put, List.setIfInBounds_toArray, List.set_cons_zero, List.set_cons_succ]
                    refine wpAnyH_take (i := 8) (oi := ⟨some 165, _, _, _, _, _⟩) (v := undef) rfl (by kernel_rfl) (by kernel_rfl) (by kernel_rfl) (fun _ _ _ h => h) (Or.inr ⟨by rfl, rfl⟩) hS ?_
                    try simp only [Act.put, List.setIfInBounds_toArray, List.set_cons_zero, List.set_cons_succ]
                    refine wpAnyH_take (i := 9) (oi := ⟨some 166, _, _, _, _, _⟩) (v := undef) rfl (by kernel_rfl) (by kernel_rfl) (by kernel_rfl) (fun _ _ _ h => h) (Or.inr ⟨by rfl, rfl⟩) hS ?_
                    try simp only [Act.put, List.setIfInBounds_toArray, List.set_cons_zero, List.set_cons_succ]
                    refine wpAnyH_take (i := 10) (oi := ⟨some 167, _, _, _, _, _⟩) (v := undef) rfl (by kernel_rfl) (by kernel_rfl) (by kernel_rfl) (fun _ _ _ h => h) (Or.inr ⟨by rfl, rfl⟩) hS ?_
                    try simp only [Act.put, List.setIfInBounds_toArray, List.set_cons_zero, List.set_cons_succ]
                    refine wpAnyH_take (i := 11) (oi := ⟨some 168, _, _, _, _, _⟩) (v := undef) rfl (by kernel_rfl) (by kernel_rfl) (by kernel_rfl) (fun _ _ _ h => h) (Or.inr ⟨by rfl, rfl⟩) hS ?_
                    try simp only [Act.put, List.setIfInBounds_toArray, List.set_cons_zero, List.set_cons_succ]
                    refine wpAnyH_take (i := 12) (oi := ⟨some 169, _, _, _, _, _⟩) (v := undef) rfl (by kernel_rfl) (by kernel_rfl) (by kernel_rfl) (fun _ _ _ h => h) (Or.inr ⟨by rfl, rfl⟩) hS ?_
                    try simp only [Act.put, List.setIfInBounds_toArray, List.set_cons_zero, List.set_cons_succ]
                    refine wpAnyH_take (i := 13) (oi := ⟨some 170, _, _, _, _, _⟩) (v := undef) rfl (by kernel_rfl) (by kernel_rfl) (by kernel_rfl) (fun _ _ _ h => h) (Or.inr ⟨by rfl, rfl⟩) hS ?_
                    try simp only [Act.put, List.setIfInBounds_toArray, List.set_cons_zero, List.set_cons_succ]
                    refine wpAnyH_take (i := 14) (oi := ⟨some 171, _, _, _, _, _⟩) (v := undef) rfl (by kernel_rfl) (by kernel_rfl) (by kernel_rfl) (fun _ _ _ h => h) (Or.inr ⟨by rfl, rfl⟩) hS ?_
                    try simp only [Act.put, List.setIfInBounds_toArray, List.set_cons_zero, List.set_cons_succ]
                    refine wpAnyH_take (i := 15) (oi := ⟨some 172, _, _, _, _, _⟩) (v := undef) rfl (by kernel_rfl) (by kernel_rfl) (by kernel_rfl) (fun _ _ _ h => h) (Or.inr ⟨by rfl, rfl⟩) hS ?_
                    try simp only [Act.put, List.setIfInBounds_toArray, List.set_cons_zero, List.set_cons_succ]
                    refine wpAnyH_take (i := 16) (oi := ⟨some 173, _, _, _, _, _⟩) (v := undef) rfl (by kernel_rfl) (by kernel_rfl) (by kernel_rfl) (fun _ _ _ h => h) (Or.inr ⟨by rfl, rfl⟩) hS ?_
                    try simp only [Act.put, List.setIfInBounds_toArray, List.set_cons_zero, List.set_cons_succ]
                    refine wpAnyH_take (i := 17) (oi := ⟨some 174, _, _, _, _, _⟩) (v := ?_) rfl (by kernel_rfl) (by kernel_rfl) (by kernel_rfl) (fun _ _ _ h => h) (Or.inl ⟨by rfl, ?_⟩) hS ?_
                    rotate_left
                    · intro W hW; go_simp; with_reducible rfl
                    try simp only [Act.put, List.setIfInBounds_toArray, List.set_cons_zero, List.set_cons_succ]
                    refine wpAnyH_take (i := 18) (oi := ⟨some 175, _, _, _, _, _⟩) (v := ?_) rfl (by kernel_rfl) (by kernel_rfl) (by kernel_rfl) (fun _ _ _ h => h) (Or.inl ⟨by rfl, ?_⟩) hS ?_
                    rotate_left
                    · intro W hW; go_simp; with_reducible rfl
                    try simp only [Act.put, List.setIfInBounds_toArray, List.set_cons_zero, List.set_cons_succ]
                    refine wpAnyH_take (i := 19) (oi := ⟨some 176, _, _, _, _, _⟩) (v := ?_) rfl (by kernel_rfl) (by kernel_rfl) (by kernel_rfl) (fun _ _ _ h => h) (Or.inl ⟨by rfl, ?_⟩) hS ?_
                    rotate_left
                    · intro W hW; go_simp; with_reducible rfl
                    try simp only [Act.put, List.setIfInBounds_toArray, List.set_cons_zero, List.set_cons_succ]
                    refine wpAnyH_take (i := 20) (oi := ⟨some 177, _, _, _, _, _⟩) (v := ?_) rfl (by kernel_rfl) (by kernel_rfl) (by kernel_rfl) (fun _ _ _ h => h) (Or.inl ⟨by rfl, ?_⟩) hS ?_
                    rotate_left
                    · intro W hW; go_simp; with_reducible rfl
                    try simp only [Act.put, List.setIfInBounds_toArray, List.set_cons_zero, List.set_cons_succ]
                    refine wpAnyH_take (i := 21) (oi := ⟨some 178, _, _, _, _, _⟩) (v := ?_) rfl (by kernel_rfl) (by kernel_rfl) (by kernel_rfl) (fun _ _ _ h => h) (Or.inl ⟨by rfl, ?_⟩) hS ?_
                    rotate_left
                    · intro W hW; go_simp; with_reducible rfl
                    try simp only [Act.put, List.setIfInBounds_toArray, List.set_cons_zero, List.set_cons_succ]
                    refine wpAnyH_take (i := 22) (oi := ⟨some 179, _, _, _, _, _⟩) (v := ?_) rfl (by kernel_rfl) (by kernel_rfl) (by kernel_rfl) (fun _ _ _ h => h) (Or.inl ⟨by rfl, ?_⟩) hS ?_
                    rotate_left
                    · intro W hW; go_simp; with_reducible rfl
                    try simp only [Act.put, List.setIfInBounds_toArray, List.set_cons_zero, List.set_cons_succ]
                    refine wpAnyH_take (i := 23) (oi := ⟨some 180, _, _, _, _, _⟩) (v := ?_) rfl (by kernel_rfl) (by kernel_rfl) (by kernel_rfl) (fun _ _ _ h => h) (Or.inl ⟨by rfl, ?_⟩) hS ?_
                    rotate_left
                    · intro W hW; go_simp; with_reducible rfl
                    try simp only [Act.put, List.setIfInBounds_toArray, List.set_cons_zero, List.set_cons_succ]
                    refine wpAnyH_take (i := 24) (oi := ⟨some 181, _, _, _, _, _⟩) (v := ?_) rfl (by kernel_rfl) (by kernel_rfl) (by kernel_rfl) (fun _ _ _ h => h) (Or.inl ⟨by rfl, ?_⟩) hS ?_
                    rotate_left
                    · intro W hW; go_simp; with_reducible rfl
                    try simp only [Act.put, List.setIfInBounds_toArray, List.set_cons_zero, List.set_cons_succ]
                    refine wpAnyH_take (i := 25) (oi := ⟨some 182, _, _, _, _, _⟩) (v := ?_) rfl (by kernel_rfl) (by kernel_rfl) (by kernel_rfl) (fun _ _ _ h => h) (Or.inl ⟨by rfl, ?_⟩) hS ?_
                    rotate_left
                    · intro W hW; go_simp; with_reducible rfl
                    try simp only [Act.put, List.setIfInBounds_toArray, List.set_cons_zero, List.set_cons_succ]
                    refine wpAnyH_take (i := 26) (oi := ⟨some 183, _, _, _, _, _⟩) (v := ?_) rfl (by kernel_rfl) (by kernel_rfl) (by kernel_rfl) (fun _ _ _ h => h) (Or.inl ⟨by rfl, ?_⟩) hS ?_
                    rotate_left
                    · intro W hW; go_simp; with_reducible rfl
                    try simp only [Act.put, List.setIfInBounds_toArray, List.set_cons_zero, List.set_cons_succ]
                    refine wpAnyH_take (i := 27) (oi := ⟨some 184, _, _, _, _, _⟩) (v := ?_) rfl (by kernel_rfl) (by kernel_rfl) (by kernel_rfl) (fun _ _ _ h => h) (Or.inl ⟨by rfl, ?_⟩) hS ?_
                    rotate_left
                    · intro W hW; go_simp; with_reducible rfl
                    try simp only [Act.put, List.setIfInBounds_toArray, List.set_cons_zero, List.set_cons_succ]
                    refine wpAnyH_take (i := 28) (oi := ⟨some 185, _, _, _, _, _⟩) (v := ?_) rfl (by kernel_rfl) (by kernel_rfl) (by kernel_rfl) (fun _ _ _ h => h) (Or.inl ⟨by rfl, ?_⟩) hS ?_
                    rotate_left
                    · intro W hW; go_simp; with_reducible rfl
                    try simp only [Act.put, List.setIfInBounds_toArray, List.set_cons_zero, List.set_cons_succ]
                    refine wpAnyH_take (i := 29) (oi := ⟨some 186, _, _, _, _, _⟩) (v := (odV xi)) rfl (by kernel_rfl) (by kernel_rfl) (by kernel_rfl) (fun _ _ _ h => h) (Or.inl ⟨by rfl, fun W hW => exec_load rfl rfl (K3.out W hW)⟩) hS ?_
                    try simp only [Act.put, List.setIfInBounds_toArray, List.set_cons_zero, List.set_cons_succ]
                    refine wpAnyH_take (i := 30) (oi := ⟨some 187, _, _, _, _, _⟩) (v := ?_) rfl (by kernel_rfl) (by kernel_rfl) (by kernel_rfl) (fun _ _ _ h => h) (Or.inl ⟨by rfl, ?_⟩) hS ?_
                    rotate_left
                    · intro W hW; go_simp; with_reducible rfl
                    try simp only [Act.put, List.setIfInBounds_toArray, List.set_cons_zero, List.set_cons_succ]
                    refine wpAnyH_take (i := 31) (oi := ⟨some 188, _, _, _, _, _⟩) (v := ?_) rfl (by kernel_rfl) (by kernel_rfl) (by kernel_rfl) (fun _ _ _ h => h) (Or.inl ⟨by rfl, ?_⟩) hS ?_
                    rotate_left
                    · intro W hW; go_simp; with_reducible rfl
                    try simp only [Act.put, List.setIfInBounds_toArray, List.set_cons_zero, List.set_cons_succ]
                    refine wpAnyH_take (i := 32) (oi := ⟨some 189, _, _, _, _, _⟩) (v := ?_) rfl (by kernel_rfl) (by kernel_rfl) (by kernel_rfl) (fun _ _ _ h => h) (Or.inl ⟨by rfl, ?_⟩) hS ?_
                    rotate_left
                    · intro W hW; go_simp; with_reducible rfl
                    try simp only [Act.put, List.setIfInBounds_toArray, List.set_cons_zero, List.set_cons_succ]
                    refine wpAnyH_take (i := 33) (oi := ⟨some 190, _, _, _, _, _⟩) (v := ?_) rfl (by kernel_rfl) (by kernel_rfl) (by kernel_rfl) (fun _ _ _ h => h) (Or.inl ⟨by rfl, ?_⟩) hS ?_
                    rotate_left
                    · intro W hW; go_simp; with_reducible rfl
                    try simp only [Act.put, List.setIfInBounds_toArray, List.set_cons_zero, List.set_cons_succ]
                    refine wpAnyH_take (i := 34) (oi := ⟨some 191, _, _, _, _, _⟩) (v := ?_) rfl (by kernel_rfl) (by kernel_rfl) (by kernel_rfl) (fun _ _ _ h => h) (Or.inl ⟨by rfl, ?_⟩) hS ?_
                    rotate_left
                    · intro W hW; go_simp; with_reducible rfl
                    try simp only [Act.put, List.setIfInBounds_toArray, List.set_cons_zero, List.set_cons_succ]
                    refine wpAnyH_take (i := 35) (oi := ⟨some 192, _, _, _, _, _⟩) (v := ?_) rfl (by kernel_rfl) (by kernel_rfl) (by kernel_rfl) (fun _ _ _ h => h) (Or.inl ⟨by rfl, ?_⟩) hS ?_
                    rotate_left
                    · intro W hW; go_simp; with_reducible rfl
                    try simp only [Act.put, List.setIfInBounds_toArray, List.set_cons_zero, List.set_cons_succ]
                    refine wpAnyH_take (i := 36) (oi := ⟨some 193, _, _, _, _, _⟩) (v := ?_) rfl (by kernel_rfl) (by kernel_rfl) (by kernel_rfl) (fun _ _ _ h => h) (Or.inl ⟨by rfl, ?_⟩) hS ?_
                    rotate_left
                    · intro W hW; go_simp; with_reducible rfl
                    try simp only [Act.put, List.setIfInBounds_toArray, List.set_cons_zero, List.set_cons_succ]
                    refine wpAnyH_take (i := 37) (oi := ⟨some 194, _, _, _, _, _⟩) (v := ?_) rfl (by kernel_rfl) (by kernel_rfl) (by kernel_rfl) (fun _ _ _ h => h) (Or.inl ⟨by rfl, ?_⟩) hS ?_
                    rotate_left
                    · intro W hW; go_simp; with_reducible rfl
                    try simp only [Act.put, List.setIfInBounds_toArray, List.set_cons_zero, List.set_cons_succ]
                    refine wpAnyH_take (i := 38) (oi := ⟨some 195, _, _, _, _, _⟩) (v := (odV yi)) rfl (by kernel_rfl) (by kernel_rfl) (by kernel_rfl) (fun _ _ _ h => h) (Or.inl ⟨by rfl, fun W hW => exec_load rfl rfl (K4.out W hW)⟩) hS ?_
                    try simp only [Act.put, List.setIfInBounds_toArray, List.set_cons_zero, List.set_cons_succ]
                    refine wpAnyH_take (i := 39) (oi := ⟨some 196, _, _, _, _, _⟩) (v := (.bool false)) rfl (by kernel_rfl) (by kernel_rfl) (by kernel_rfl) (fun _ _ _ h => h) (Or.inl ⟨by rfl, fun W hW => exec_neq_od rfl rfl rfl HQB.out⟩) hS ?_
                    try simp only [Act.put, List.setIfInBounds_toArray, List.set_cons_zero, List.set_cons_succ]
                    refine wpAnyH_take (i := 40) (oi := ⟨some 197, _, _, _, _, _⟩) (v := ?_) rfl (by kernel_rfl) (by kernel_rfl) (by kernel_rfl) (fun _ _ _ h => h) (Or.inl ⟨by rfl, ?_⟩) hS ?_
                    rotate_left
                    · intro W hW; go_simp; with_reducible rfl
                    try simp only [Act.put, List.setIfInBounds_toArray, List.set_cons_zero, List.set_cons_succ]
                    refine wpAnyH_take (i := 41) (oi := ⟨some 198, _, _, _, _, _⟩) (v := ?_) rfl (by kernel_rfl) (by kernel_rfl) (by kernel_rfl) (fun _ _ _ h => h) (Or.inl ⟨by rfl, ?_⟩) hS ?_
                    rotate_left
                    · intro W hW; go_simp; with_reducible rfl
                    try simp only [Act.put, List.setIfInBounds_toArray, List.set_cons_zero, List.set_cons_succ]
                    refine wpAnyH_done (by kernel_rfl) ?_ _
                    have HB9 := Lib.hid (HBW.out.trans (Below.mono hS HBW.out.size))
                    clear hS K3 K4 e3 x3 d3
                    go_wp2_with fail
                    go_roundg (gk - 1)
                    case measure => omega
                    case rel => exact ⟨j + 1, by go_num, by omega, HB9⟩
                · obtain rfl : j = pm1 := by omega
                  have hdj : decide (j < j) = false := decide_eq_false (by omega)
                  have hdi : decide ((j : Int) < (j : Int)) = false := decide_eq_false (by omega)
                  have hse : m1.seq = b.seq := by rw [HMM.out]; rfl
                  have HZ9 := HB1.out.below HBW.out
                  have q0 := HZ9.c0
                  have q1 := HZ9.c1
                  have q2 := HZ9.c2
                  simp only at q2
                  have d1 := (HBb.out.below HBW.out).c1
                  obtain ⟨sq, hsq⟩ : ∃ sq, sq = b.seq := ⟨_, rfl⟩
                  rw [hse, ← hsq] at q1
                  rw [← hsq] at d1
                  have HSQ := Lib.hid (And.intro hsq hse)
                  have HSN : Hid (Calls Try.prog 18 #[.agg #[.int .i64 m1.kind, .int .i64 sq, .slice pA1 pn1 pc1, .slice pB1 j pd1]] wr fun e w' => e = .returned (.bool true) ∧ Below wr.heap.size wr w') := Lib.hid (by
                    have h1 := HW.out.sane m1 ⟨pA1, pn1, pc1, pB1, j, pd1, pr1⟩ wr (HN1.out.below HBW.out) (by rw [HM1.out]; exact small_merN a b)
                    rw [sane_yes (by rw [HMM.out]; exact HSA.out.2.2.2)] at h1
                    rw [hsq, ← hse]
                    exact h1)
                  have hgw := HGW.out
                  subst hgw
                  clear hse HZ9 hsq HGW
                  go_wp2_with fail
                  refine HSN.out.mono ?_
                  rintro e w9 ⟨rfl, hb9⟩
                  have HB9 := Lib.hid (HBW.out.trans (hb9.mono HBW.out.size))
                  clear hb9
                  go_wp2_with fail
                  go_ret
                  exact ⟨rfl, HB.out.trans (HB9.out.mono HB.out.size)⟩
end Go.Proofs.Ytjpnihmijnpjcaa
