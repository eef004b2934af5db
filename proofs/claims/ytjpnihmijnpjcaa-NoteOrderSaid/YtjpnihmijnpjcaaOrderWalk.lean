/-
  NoteOrder over the words: whichever two of three are merged first.
-/
import Derived.Test.YtjpnihmijnpjcaaNy
import Derived.Deep.CutRange
namespace Go.Proofs.Ytjpnihmijnpjcaa
set_option maxRecDepth 100000
set_option linter.unusedVariables false
set_option linter.unusedSimpArgs false
open Go.RowKit Wm Nn

theorem small_zero : SmallN Nt.zero := ⟨by show (0 : Nat) ≤ _; omega, by show (0 : Nat) ≤ _; omega, fun i y hy => by have h : ([] : List Im)[i]? = some y := hy; simp at h⟩
theorem small_mer (x y : Nt) : SmallN (merN x y) := by
  by_cases h : merE x y = 0
  · obtain ⟨_, s5, s6⟩ := merE_san h
    rw [s6]
    exact ⟨by have := s5.1.2.2.1; omega, by have := s5.1.2.2.2.1; omega, fun i z hz => by have := (s5.2.1 i z hz).2.1; omega⟩
  · rw [merE_zeroN h]; exact small_zero
theorem order_all {a b c : Nt} (h1 : merE a b = 0) (h2 : merE b c = 0) : merE (merN a b) c = merE a (merN b c) ∧ merN (merN a b) c = merN a (merN b c) := by
  obtain ⟨⟨s1, s2, s3, s4⟩, s5, s6⟩ := merE_san h1
  obtain ⟨⟨t1, t2, t3, t4⟩, t5, t6⟩ := merE_san h2
  rw [s6, t6]
  have g1 : San (mer a b) ∧ San c ∧ (mer a b).kind = 1 ∧ c.kind = 1 := ⟨s5, t2, rfl, t4⟩
  have g2 : San a ∧ San (mer b c) ∧ a.kind = 1 ∧ (mer b c).kind = 1 := ⟨s1, t5, s3, rfl⟩
  have e := mer_order a b c
  by_cases hm : San (mer (mer a b) c)
  · obtain ⟨p1, p2⟩ := merE_zero g1 hm
    obtain ⟨q1, q2⟩ := merE_zero g2 (by rw [← e]; exact hm)
    exact ⟨by rw [p1, q1], by rw [p2, q2, e]⟩
  · obtain ⟨p1, p2⟩ := merE_much g1 hm
    obtain ⟨q1, q2⟩ := merE_much g2 (by rw [← e]; exact hm)
    exact ⟨by rw [p1, q1], by rw [p2, q2]⟩
theorem three_boxed (w : World) (x y u : Nt) (r q s : Nr) (hx : NtAt w x r) (hy : NtAt w y q) (hu : NtAt w u s) (ty : TypeId) : ∃ w0, w0 = ((w.alloc (.cells (ntC x r) ty)).alloc (.cells (ntC y q) ty)).alloc (.cells (ntC u s) ty) ∧ Hid (NtB w0 w.heap.size ty x r) ∧ Hid (NtB w0 (w.heap.size + 1) ty y q) ∧ Hid (NtB w0 (w.heap.size + 1 + 1) ty u s) ∧
    Hid (Below w.heap.size w w0) ∧ Hid (NtAt w0 x r) ∧ Hid (NtAt w0 y q) ∧ Hid (NtAt w0 u s) := by
  obtain ⟨h1, h2, h3, h4, h5⟩ := two_boxed w x y r q hx hy ty
  have hz : ((w.alloc (.cells (ntC x r) ty)).alloc (.cells (ntC y q) ty)).heap.size = w.heap.size + 1 + 1 := by simp
  have hb := below_new ((w.alloc (.cells (ntC x r) ty)).alloc (.cells (ntC y q) ty)) (.cells (ntC u s) ty)
  have h6 := NtB.new ((w.alloc (.cells (ntC x r) ty)).alloc (.cells (ntC y q) ty)) ty u s
  rw [hz] at h6
  have hbw := h3.out.trans (hb.mono h3.out.size)
  exact ⟨_, rfl, Lib.hid (h1.out.below hb), Lib.hid (h2.out.below hb), Lib.hid h6, Lib.hid hbw, Lib.hid (h4.out.below hb), Lib.hid (h5.out.below hb), Lib.hid (hu.below hbw)⟩

set_option maxHeartbeats 8000000 in
theorem order_walk (hw : NoteOk) (a b c : Nt) (ra rb rc : Nr) (w : World) (ha : NtAt w a ra) (hb : NtAt w b rb) (hc : NtAt w c rc) :
    Calls Try.prog 7 #[ntV a ra, ntV b rb, ntV c rc] w fun e w' => e = .returned (.bool true) ∧ Below w.heap.size w w' := by
  have HW := Lib.hid hw
  clear hw
  obtain ⟨Aa, ka, ca, Ba, la, da, ea⟩ := ra
  obtain ⟨Ab, kb, cb, Bb, lb, db, eb⟩ := rb
  obtain ⟨Ac, kc, cc, Bc, lc, dc, ec⟩ := rc
  obtain ⟨w0, hw0, HBa, HBb, HBc, HB, HNa, HNb, HNc⟩ := three_boxed w a b c _ _ _ ha hb hc 25
  clear ha hb hc
  unfold ntV
  obtain ⟨C1, hC1⟩ : ∃ C, C = ntC a ⟨Aa, ka, ca, Ba, la, da, ea⟩ := ⟨_, rfl⟩
  obtain ⟨C2, hC2⟩ : ∃ C, C = ntC b ⟨Ab, kb, cb, Bb, lb, db, eb⟩ := ⟨_, rfl⟩
  obtain ⟨C3, hC3⟩ : ∃ C, C = ntC c ⟨Ac, kc, cc, Bc, lc, dc, ec⟩ := ⟨_, rfl⟩
  rw [← hC1, ← hC2, ← hC3] at hw0 ⊢
  clear hC1 hC2 hC3
  go_enter Try.func7, Try.ntmps7
  go_upto_region 1 with fail
  rw [← hw0]
  clear hw0
  generalize w.heap.size + 1 + 1 = gc at *
  generalize w.heap.size + 1 = gb at *
  go_wp2_with fail
  refine (awake_any HW.out w0).mono ?_
  rintro e w1 ⟨rfl, hb1⟩
  have HS := Lib.hid hb1
  clear hb1
  have HX := Lib.hid (HBa.out.below HS.out)
  have a0 := HX.out.c0
  have a1 := HX.out.c1
  have a2 := HX.out.c2
  have a3 := HX.out.c3
  simp only at a2 a3
  go_wp2_with fail
  refine (few_any a ⟨Aa, ka, ca, Ba, la, da, ea⟩ 60 w1 (HNa.out.below HS.out) (by omega)).mono ?_
  rintro e w2 ⟨hb2, ⟨rfl, hf⟩ | rfl⟩
  rotate_left
  · have HB2 := Lib.hid (HB.out.trans ((HS.out.trans (hb2.mono HS.out.size)).mono HB.out.size))
    clear hb2 a0 a1 a2 a3
    go_wp2_with fail
    go_ret
    exact ⟨rfl, HB2.out⟩
  replace HS := Lib.hid (HS.out.trans (hb2.mono HS.out.size))
  have HFa := Lib.hid (few_small hf (by omega))
  clear hb2 hf a0 a1 a2 a3 HX
  have HX := Lib.hid (HBb.out.below HS.out)
  have a0 := HX.out.c0
  have a1 := HX.out.c1
  have a2 := HX.out.c2
  have a3 := HX.out.c3
  simp only at a2 a3
  go_wp2_with fail
  refine (few_any b ⟨Ab, kb, cb, Bb, lb, db, eb⟩ 60 w2 (HNb.out.below HS.out) (by omega)).mono ?_
  rintro e w3 ⟨hb2, ⟨rfl, hf⟩ | rfl⟩
  rotate_left
  · have HB2 := Lib.hid (HB.out.trans ((HS.out.trans (hb2.mono HS.out.size)).mono HB.out.size))
    clear hb2 a0 a1 a2 a3
    go_wp2_with fail
    go_ret
    exact ⟨rfl, HB2.out⟩
  replace HS := Lib.hid (HS.out.trans (hb2.mono HS.out.size))
  have HFb := Lib.hid (few_small hf (by omega))
  clear hb2 hf a0 a1 a2 a3 HX
  have HX := Lib.hid (HBc.out.below HS.out)
  have a0 := HX.out.c0
  have a1 := HX.out.c1
  have a2 := HX.out.c2
  have a3 := HX.out.c3
  simp only at a2 a3
  go_wp2_with fail
  refine (few_any c ⟨Ac, kc, cc, Bc, lc, dc, ec⟩ 60 w3 (HNc.out.below HS.out) (by omega)).mono ?_
  rintro e w4 ⟨hb2, ⟨rfl, hf⟩ | rfl⟩
  rotate_left
  · have HB2 := Lib.hid (HB.out.trans ((HS.out.trans (hb2.mono HS.out.size)).mono HB.out.size))
    clear hb2 a0 a1 a2 a3
    go_wp2_with fail
    go_ret
    exact ⟨rfl, HB2.out⟩
  replace HS := Lib.hid (HS.out.trans (hb2.mono HS.out.size))
  have HFc := Lib.hid (few_small hf (by omega))
  clear hb2 hf a0 a1 a2 a3 HX
  replace HB := Lib.hid (HB.out.trans (HS.out.mono HB.out.size))
  replace HBa := Lib.hid (HBa.out.below HS.out)
  replace HNa := Lib.hid (HNa.out.below HS.out)
  replace HBb := Lib.hid (HBb.out.below HS.out)
  replace HNb := Lib.hid (HNb.out.below HS.out)
  replace HBc := Lib.hid (HBc.out.below HS.out)
  replace HNc := Lib.hid (HNc.out.below HS.out)
  clear HS
  obtain ⟨m1, hm⟩ : ∃ m, m = merN a b := ⟨_, rfl⟩
  obtain ⟨E1, hE⟩ : ∃ E, E = merE a b := ⟨_, rfl⟩
  have HMG : Hid (∀ V, Since w4 V → Calls Try.prog 16 #[ntV a ⟨Aa, ka, ca, Ba, la, da, ea⟩, ntV b ⟨Ab, kb, cb, Bb, lb, db, eb⟩] V (MergeOut V m1 E1 ⟨Aa, ka, ca, Ba, la, da, ea⟩ ⟨Ab, kb, cb, Bb, lb, db, eb⟩)) := Lib.hid (fun V hV => by
    rw [hm, hE]
    exact HW.out.merge a b _ _ V (HNa.out.below hV) (HNb.out.below hV) HFa.out HFb.out)
  have HM1 := Lib.hid hm
  have HE1 := Lib.hid hE
  have HF1 : Hid (SmallN m1) := Lib.hid (by rw [hm]; exact small_mer _ _)
  clear hm hE
  have x0 : ∀ V, Since w4 V → V.cell? ⟨w.heap.size, 0, none⟩ = some (.int .i64 a.kind) := fun V hV => (HBa.out.below hV).c0
  have x1 : ∀ V, Since w4 V → V.cell? ⟨w.heap.size, 1, none⟩ = some (.int .i64 a.seq) := fun V hV => (HBa.out.below hV).c1
  have x2 : ∀ V, Since w4 V → V.cell? ⟨w.heap.size, 2, none⟩ = some (.slice Aa ka ca) := fun V hV => (HBa.out.below hV).c2
  have x3 : ∀ V, Since w4 V → V.cell? ⟨w.heap.size, 3, none⟩ = some (.slice Ba la da) := fun V hV => (HBa.out.below hV).c3
  have y0 : ∀ V, Since w4 V → V.cell? ⟨gb, 0, none⟩ = some (.int .i64 b.kind) := fun V hV => (HBb.out.below hV).c0
  have y1 : ∀ V, Since w4 V → V.cell? ⟨gb, 1, none⟩ = some (.int .i64 b.seq) := fun V hV => (HBb.out.below hV).c1
  have y2 : ∀ V, Since w4 V → V.cell? ⟨gb, 2, none⟩ = some (.slice Ab kb cb) := fun V hV => (HBb.out.below hV).c2
  have y3 : ∀ V, Since w4 V → V.cell? ⟨gb, 3, none⟩ = some (.slice Bb lb db) := fun V hV => (HBb.out.below hV).c3
  go_upto_region 4 with fail
  go_cut [8, 9] from 31 to 38 (fun u v wc => ∃ (z : Nat) (p : Nr), u = .pointer (some ⟨z, 0, none⟩) ∧ v = .int .i64 E1 ∧ Hid (Since w4 wc) ∧ Hid (NtB wc z 32 m1 p) ∧ Hid (NtAt wc m1 p))
  case first =>
    refine wp_region_since (by kernel_rfl) ?_
    have hS : Since w4 (World.drew w4) := (Below.refl _ _).drew
    refine wpAnyH_take (i := 0) (oi := ⟨some 32, _, _, _, _, _⟩) (v := ?_) rfl (by kernel_rfl) (by kernel_rfl) (by kernel_rfl) (fun _ _ _ h => h) (Or.inl ⟨by rfl, ?_⟩) hS ?_
    rotate_left
    · intro W hW; go_simp; with_reducible rfl
    try simp only [Act.put, List.setIfInBounds_toArray, List.set_cons_zero, List.set_cons_succ]
    refine wpAnyH_take (i := 2) (oi := ⟨some 34, _, _, _, _, _⟩) (v := ?_) rfl (by kernel_rfl) (by kernel_rfl) (by kernel_rfl) (fun _ _ _ h => h) (Or.inl ⟨by rfl, ?_⟩) hS ?_
    rotate_left
    · intro W hW; go_simp; with_reducible rfl
    try simp only [Act.put, List.setIfInBounds_toArray, List.set_cons_zero, List.set_cons_succ]
    refine wpAnyH_ready (rs := [1, 8]) (by kernel_rfl) (by simp) ?_
    refine AllReadyH.cons (o := ⟨some 33, _, _, _, _, _⟩) rfl (fun Kr hKr => ?_) (AllReadyH.cons (o := ⟨some 8, _, _, _, _, _⟩) rfl (fun Kr hKr => ?_) AllReadyH.nil)
    · skip
      -- operation 1: a call
      go_simp
      refine (ours_any a ⟨Aa, ka, ca, Ba, la, da, ea⟩ _).mono ?_
      rintro e V1 ⟨rfl, hx⟩
      try replace HAL := Lib.hid (HAL.out.below hx)
      show Kr _ _
      refine hKr.out _ _ ?_ (fun _ => ?_)
      · exact since_trans hS hx
      clear hKr Kr
      replace hS : Since w4 V1 := since_trans hS hx
      try simp only [Act.put, List.setIfInBounds_toArray, List.set_cons_zero, List.set_cons_succ]
      refine wpAnyH_ready (rs := [3, 8]) (by kernel_rfl) (by simp) ?_
      refine AllReadyH.cons (o := ⟨some 35, _, _, _, _, _⟩) rfl (fun Kr hKr => ?_) (AllReadyH.cons (o := ⟨some 8, _, _, _, _, _⟩) rfl (fun Kr hKr => ?_) AllReadyH.nil)
      · skip
        -- operation 3: a call
        go_simp
        refine (ours_any b ⟨Ab, kb, cb, Bb, lb, db, eb⟩ _).mono ?_
        rintro e V3 ⟨rfl, hx⟩
        try replace HAL := Lib.hid (HAL.out.below hx)
        show Kr _ _
        refine hKr.out _ _ ?_ (fun _ => ?_)
        · exact since_trans hS hx
        clear hKr Kr
        replace hS : Since w4 V3 := since_trans hS hx
        try simp only [Act.put, List.setIfInBounds_toArray, List.set_cons_zero, List.set_cons_succ]
        refine wpAnyH_ready (rs := [4, 8]) (by kernel_rfl) (by simp) ?_
        refine AllReadyH.cons (o := ⟨some 36, _, _, _, _, _⟩) rfl (fun Kr hKr => ?_) (AllReadyH.cons (o := ⟨some 8, _, _, _, _, _⟩) rfl (fun Kr hKr => ?_) AllReadyH.nil)
        · skip
          -- operation 4: a call
          go_simp
          refine (HMG.out _ hS).mono ?_
          rintro e V4 ho
          obtain ⟨p, rfl, hgt, hx⟩ := merged hS HNa.out HNb.out ho
          have HGT := Lib.hid hgt
          try have HOF := Lib.hid (HGT.out.off z HLE.out (.inl (Bk.lt HAL.out)))
          try replace HAL := Lib.hid (HAL.out.below hx)
          show Kr _ _
          refine hKr.out _ _ ?_ (fun _ => ?_)
          · exact since_trans hS hx
          clear hKr Kr
          replace hS : Since w4 V4 := since_trans hS hx
          try simp only [Act.put, List.setIfInBounds_toArray, List.set_cons_zero, List.set_cons_succ]
          refine wpAnyH_take (i := 5) (oi := ⟨some 31, _, _, _, _, _⟩) (v := ?_) rfl (by kernel_rfl) (by kernel_rfl) (by kernel_rfl) (fun _ _ _ h => h) (Or.inl ⟨by rfl, ?_⟩) hS ?_
          rotate_left
          · intro W hW; go_simp; with_reducible rfl
          try simp only [Act.put, List.setIfInBounds_toArray, List.set_cons_zero, List.set_cons_succ]
          refine wpAnyH_take (i := 6) (oi := ⟨some 37, _, _, _, _, _⟩) (v := ?_) rfl (by kernel_rfl) (by kernel_rfl) (by kernel_rfl) (fun _ _ _ h => h) (Or.inl ⟨by rfl, ?_⟩) hS ?_
          rotate_left
          · intro W hW; go_simp; with_reducible rfl
          try simp only [Act.put, List.setIfInBounds_toArray, List.set_cons_zero, List.set_cons_succ]
          refine wpAnyH_take (i := 7) (oi := ⟨some 38, _, _, _, _, _⟩) (v := ?_) rfl (by kernel_rfl) (by kernel_rfl) (by kernel_rfl) (fun _ _ _ h => h) (Or.inl ⟨by rfl, ?_⟩) hS ?_
          rotate_left
          · intro W hW; go_simp; with_reducible rfl
          try simp only [Act.put, List.setIfInBounds_toArray, List.set_cons_zero, List.set_cons_succ]
          refine wpAnyH_ready (rs := [8]) (by kernel_rfl) (by simp) ?_
          refine AllReadyH.cons (o := ⟨some 8, _, _, _, _, _⟩) rfl (fun Kr hKr => ?_) AllReadyH.nil
          -- operation 8: a step
          try rw [if_pos (by kernel_rfl)]
          refine wp_alloc_bk 32 rfl ntZ (by kernel_rfl) ?_
          intro VA z hbx hx hle
          have HAL : Hid (Bk VA z ntZ 32) := Lib.hid hbx
          have HLE := Lib.hid (Nat.le_trans hS.size hle)
          try have HOF := Lib.hid (HGT.out.off z HLE.out (.inr (Nat.le_trans HGT.out.top hle)))
          try replace HGT := Lib.hid (HGT.out.below hx)
          show Kr _ _
          refine hKr.out _ _ ?_ (fun _ => ?_)
          · exact since_trans hS hx
          clear hKr Kr
          replace hS : Since w4 VA := since_trans hS hx
          try simp only [Act.put, List.setIfInBounds_toArray, List.set_cons_zero, List.set_cons_succ]
          refine wpAnyH_ready (rs := [9]) (by kernel_rfl) (by simp) ?_
          refine AllReadyH.cons (o := ⟨none, _, _, _, _, _⟩) rfl (fun Kr hKr => ?_) AllReadyH.nil
          -- operation 9: a step
          try rw [if_pos (by kernel_rfl)]
          refine wp_store_bk 32 _ _ rfl z (ntC m1 p) rfl rfl 32 ntZ HAL.out (by kernel_rfl) rfl (ntC_one _ _) ?_
          intro VS hbx hg9
          have HBX : Hid (NtB VS z 32 m1 p) := Lib.hid ⟨hbx⟩
          have HNP := Lib.hid (HGT.out.at_.off HOF.out hg9)
          show Kr _ _
          refine hKr.out _ _ ?_ (fun _ => ?_)
          · exact Below.grown hS hg9 hS.size (fun q e => by have := HLE.out; have e := Option.some.inj e; omega)
          clear hKr Kr
          replace hS : Since w4 VS := Below.grown hS hg9 hS.size (fun q e => by have := HLE.out; have e := Option.some.inj e; omega)
          try simp only [Act.put]
          refine wpAnyH_take (i := 10) (oi := ⟨some 9, _, _, _, _, _⟩) (v := ?_) rfl (by kernel_rfl) (by kernel_rfl) (by kernel_rfl) (fun _ _ _ h => h) (Or.inl ⟨by rfl, ?_⟩) hS ?_
          rotate_left
          · intro W hW; go_simp; with_reducible rfl
          try simp only [Act.put, List.setIfInBounds_toArray, List.set_cons_zero, List.set_cons_succ]
          refine wpAnyH_done (by kernel_rfl) ?_ _
          go_wp2_with fail
          go_meet
          case rel => exact ⟨z, p, rfl, rfl, Lib.hid hS, HBX, HNP⟩
        · skip
          -- operation 8: a step
          try rw [if_pos (by kernel_rfl)]
          refine wp_alloc_bk 32 rfl ntZ (by kernel_rfl) ?_
          intro VA z hbx hx hle
          have HAL : Hid (Bk VA z ntZ 32) := Lib.hid hbx
          have HLE := Lib.hid (Nat.le_trans hS.size hle)
          try have HOF := Lib.hid (HGT.out.off z HLE.out (.inr (Nat.le_trans HGT.out.top hle)))
          try replace HGT := Lib.hid (HGT.out.below hx)
          show Kr _ _
          refine hKr.out _ _ ?_ (fun _ => ?_)
          · exact since_trans hS hx
          clear hKr Kr
          replace hS : Since w4 VA := since_trans hS hx
          try simp only [Act.put, List.setIfInBounds_toArray, List.set_cons_zero, List.set_cons_succ]
          refine wpAnyH_ready (rs := [4]) (by kernel_rfl) (by simp) ?_
          refine AllReadyH.cons (o := ⟨some 36, _, _, _, _, _⟩) rfl (fun Kr hKr => ?_) AllReadyH.nil
          -- operation 4: a call
          go_simp
          refine (HMG.out _ hS).mono ?_
          rintro e V4 ho
          obtain ⟨p, rfl, hgt, hx⟩ := merged hS HNa.out HNb.out ho
          have HGT := Lib.hid hgt
          try have HOF := Lib.hid (HGT.out.off z HLE.out (.inl (Bk.lt HAL.out)))
          try replace HAL := Lib.hid (HAL.out.below hx)
          show Kr _ _
          refine hKr.out _ _ ?_ (fun _ => ?_)
          · exact since_trans hS hx
          clear hKr Kr
          replace hS : Since w4 V4 := since_trans hS hx
          try simp only [Act.put, List.setIfInBounds_toArray, List.set_cons_zero, List.set_cons_succ]
          refine wpAnyH_take (i := 5) (oi := ⟨some 31, _, _, _, _, _⟩) (v := ?_) rfl (by kernel_rfl) (by kernel_rfl) (by kernel_rfl) (fun _ _ _ h => h) (Or.inl ⟨by rfl, ?_⟩) hS ?_
          rotate_left
          · intro W hW; go_simp; with_reducible rfl
          try simp only [Act.put, List.setIfInBounds_toArray, List.set_cons_zero, List.set_cons_succ]
          refine wpAnyH_take (i := 6) (oi := ⟨some 37, _, _, _, _, _⟩) (v := ?_) rfl (by kernel_rfl) (by kernel_rfl) (by kernel_rfl) (fun _ _ _ h => h) (Or.inl ⟨by rfl, ?_⟩) hS ?_
          rotate_left
          · intro W hW; go_simp; with_reducible rfl
          try simp only [Act.put, List.setIfInBounds_toArray, List.set_cons_zero, List.set_cons_succ]
          refine wpAnyH_take (i := 7) (oi := ⟨some 38, _, _, _, _, _⟩) (v := ?_) rfl (by kernel_rfl) (by kernel_rfl) (by kernel_rfl) (fun _ _ _ h => h) (Or.inl ⟨by rfl, ?_⟩) hS ?_
          rotate_left
          · intro W hW; go_simp; with_reducible rfl
          try simp only [Act.put, List.setIfInBounds_toArray, List.set_cons_zero, List.set_cons_succ]
          refine wpAnyH_ready (rs := [9]) (by kernel_rfl) (by simp) ?_
          refine AllReadyH.cons (o := ⟨none, _, _, _, _, _⟩) rfl (fun Kr hKr => ?_) AllReadyH.nil
          -- operation 9: a step
          try rw [if_pos (by kernel_rfl)]
          refine wp_store_bk 32 _ _ rfl z (ntC m1 p) rfl rfl 32 ntZ HAL.out (by kernel_rfl) rfl (ntC_one _ _) ?_
          intro VS hbx hg9
          have HBX : Hid (NtB VS z 32 m1 p) := Lib.hid ⟨hbx⟩
          have HNP := Lib.hid (HGT.out.at_.off HOF.out hg9)
          show Kr _ _
          refine hKr.out _ _ ?_ (fun _ => ?_)
          · exact Below.grown hS hg9 hS.size (fun q e => by have := HLE.out; have e := Option.some.inj e; omega)
          clear hKr Kr
          replace hS : Since w4 VS := Below.grown hS hg9 hS.size (fun q e => by have := HLE.out; have e := Option.some.inj e; omega)
          try simp only [Act.put]
          refine wpAnyH_take (i := 10) (oi := ⟨some 9, _, _, _, _, _⟩) (v := ?_) rfl (by kernel_rfl) (by kernel_rfl) (by kernel_rfl) (fun _ _ _ h => h) (Or.inl ⟨by rfl, ?_⟩) hS ?_
          rotate_left
          · intro W hW; go_simp; with_reducible rfl
          try simp only [Act.put, List.setIfInBounds_toArray, List.set_cons_zero, List.set_cons_succ]
          refine wpAnyH_done (by kernel_rfl) ?_ _
          go_wp2_with fail
          go_meet
          case rel => exact ⟨z, p, rfl, rfl, Lib.hid hS, HBX, HNP⟩
      · skip
        -- operation 8: a step
        try rw [if_pos (by kernel_rfl)]
        refine wp_alloc_bk 32 rfl ntZ (by kernel_rfl) ?_
        intro VA z hbx hx hle
        have HAL : Hid (Bk VA z ntZ 32) := Lib.hid hbx
        have HLE := Lib.hid (Nat.le_trans hS.size hle)
        try have HOF := Lib.hid (HGT.out.off z HLE.out (.inr (Nat.le_trans HGT.out.top hle)))
        try replace HGT := Lib.hid (HGT.out.below hx)
        show Kr _ _
        refine hKr.out _ _ ?_ (fun _ => ?_)
        · exact since_trans hS hx
        clear hKr Kr
        replace hS : Since w4 VA := since_trans hS hx
        try simp only [Act.put, List.setIfInBounds_toArray, List.set_cons_zero, List.set_cons_succ]
        refine wpAnyH_ready (rs := [3]) (by kernel_rfl) (by simp) ?_
        refine AllReadyH.cons (o := ⟨some 35, _, _, _, _, _⟩) rfl (fun Kr hKr => ?_) AllReadyH.nil
        -- operation 3: a call
        go_simp
        refine (ours_any b ⟨Ab, kb, cb, Bb, lb, db, eb⟩ _).mono ?_
        rintro e V3 ⟨rfl, hx⟩
        try replace HAL := Lib.hid (HAL.out.below hx)
        show Kr _ _
        refine hKr.out _ _ ?_ (fun _ => ?_)
        · exact since_trans hS hx
        clear hKr Kr
        replace hS : Since w4 V3 := since_trans hS hx
        try simp only [Act.put, List.setIfInBounds_toArray, List.set_cons_zero, List.set_cons_succ]
        refine wpAnyH_ready (rs := [4]) (by kernel_rfl) (by simp) ?_
        refine AllReadyH.cons (o := ⟨some 36, _, _, _, _, _⟩) rfl (fun Kr hKr => ?_) AllReadyH.nil
        -- operation 4: a call
        go_simp
        refine (HMG.out _ hS).mono ?_
        rintro e V4 ho
        obtain ⟨p, rfl, hgt, hx⟩ := merged hS HNa.out HNb.out ho
        have HGT := Lib.hid hgt
        try have HOF := Lib.hid (HGT.out.off z HLE.out (.inl (Bk.lt HAL.out)))
        try replace HAL := Lib.hid (HAL.out.below hx)
        show Kr _ _
        refine hKr.out _ _ ?_ (fun _ => ?_)
        · exact since_trans hS hx
        clear hKr Kr
        replace hS : Since w4 V4 := since_trans hS hx
        try simp only [Act.put, List.setIfInBounds_toArray, List.set_cons_zero, List.set_cons_succ]
        refine wpAnyH_take (i := 5) (oi := ⟨some 31, _, _, _, _, _⟩) (v := ?_) rfl (by kernel_rfl) (by kernel_rfl) (by kernel_rfl) (fun _ _ _ h => h) (Or.inl ⟨by rfl, ?_⟩) hS ?_
        rotate_left
        · intro W hW; go_simp; with_reducible rfl
        try simp only [Act.put, List.setIfInBounds_toArray, List.set_cons_zero, List.set_cons_succ]
        refine wpAnyH_take (i := 6) (oi := ⟨some 37, _, _, _, _, _⟩) (v := ?_) rfl (by kernel_rfl) (by kernel_rfl) (by kernel_rfl) (fun _ _ _ h => h) (Or.inl ⟨by rfl, ?_⟩) hS ?_
        rotate_left
        · intro W hW; go_simp; with_reducible rfl
        try simp only [Act.put, List.setIfInBounds_toArray, List.set_cons_zero, List.set_cons_succ]
        refine wpAnyH_take (i := 7) (oi := ⟨some 38, _, _, _, _, _⟩) (v := ?_) rfl (by kernel_rfl) (by kernel_rfl) (by kernel_rfl) (fun _ _ _ h => h) (Or.inl ⟨by rfl, ?_⟩) hS ?_
        rotate_left
        · intro W hW; go_simp; with_reducible rfl
        try simp only [Act.put, List.setIfInBounds_toArray, List.set_cons_zero, List.set_cons_succ]
        refine wpAnyH_ready (rs := [9]) (by kernel_rfl) (by simp) ?_
        refine AllReadyH.cons (o := ⟨none, _, _, _, _, _⟩) rfl (fun Kr hKr => ?_) AllReadyH.nil
        -- operation 9: a step
        try rw [if_pos (by kernel_rfl)]
        refine wp_store_bk 32 _ _ rfl z (ntC m1 p) rfl rfl 32 ntZ HAL.out (by kernel_rfl) rfl (ntC_one _ _) ?_
        intro VS hbx hg9
        have HBX : Hid (NtB VS z 32 m1 p) := Lib.hid ⟨hbx⟩
        have HNP := Lib.hid (HGT.out.at_.off HOF.out hg9)
        show Kr _ _
        refine hKr.out _ _ ?_ (fun _ => ?_)
        · exact Below.grown hS hg9 hS.size (fun q e => by have := HLE.out; have e := Option.some.inj e; omega)
        clear hKr Kr
        replace hS : Since w4 VS := Below.grown hS hg9 hS.size (fun q e => by have := HLE.out; have e := Option.some.inj e; omega)
        try simp only [Act.put]
        refine wpAnyH_take (i := 10) (oi := ⟨some 9, _, _, _, _, _⟩) (v := ?_) rfl (by kernel_rfl) (by kernel_rfl) (by kernel_rfl) (fun _ _ _ h => h) (Or.inl ⟨by rfl, ?_⟩) hS ?_
        rotate_left
        · intro W hW; go_simp; with_reducible rfl
        try simp only [Act.put, List.setIfInBounds_toArray, List.set_cons_zero, List.set_cons_succ]
        refine wpAnyH_done (by kernel_rfl) ?_ _
        go_wp2_with fail
        go_meet
        case rel => exact ⟨z, p, rfl, rfl, Lib.hid hS, HBX, HNP⟩
    · skip
      -- operation 8: a step
      try rw [if_pos (by kernel_rfl)]
      refine wp_alloc_bk 32 rfl ntZ (by kernel_rfl) ?_
      intro VA z hbx hx hle
      have HAL : Hid (Bk VA z ntZ 32) := Lib.hid hbx
      have HLE := Lib.hid (Nat.le_trans hS.size hle)
      try have HOF := Lib.hid (HGT.out.off z HLE.out (.inr (Nat.le_trans HGT.out.top hle)))
      try replace HGT := Lib.hid (HGT.out.below hx)
      show Kr _ _
      refine hKr.out _ _ ?_ (fun _ => ?_)
      · exact since_trans hS hx
      clear hKr Kr
      replace hS : Since w4 VA := since_trans hS hx
      try simp only [Act.put, List.setIfInBounds_toArray, List.set_cons_zero, List.set_cons_succ]
      refine wpAnyH_ready (rs := [1]) (by kernel_rfl) (by simp) ?_
      refine AllReadyH.cons (o := ⟨some 33, _, _, _, _, _⟩) rfl (fun Kr hKr => ?_) AllReadyH.nil
      -- operation 1: a call
      go_simp
      refine (ours_any a ⟨Aa, ka, ca, Ba, la, da, ea⟩ _).mono ?_
      rintro e V1 ⟨rfl, hx⟩
      try replace HAL := Lib.hid (HAL.out.below hx)
      show Kr _ _
      refine hKr.out _ _ ?_ (fun _ => ?_)
      · exact since_trans hS hx
      clear hKr Kr
      replace hS : Since w4 V1 := since_trans hS hx
      try simp only [Act.put, List.setIfInBounds_toArray, List.set_cons_zero, List.set_cons_succ]
      refine wpAnyH_ready (rs := [3]) (by kernel_rfl) (by simp) ?_
      refine AllReadyH.cons (o := ⟨some 35, _, _, _, _, _⟩) rfl (fun Kr hKr => ?_) AllReadyH.nil
      -- operation 3: a call
      go_simp
      refine (ours_any b ⟨Ab, kb, cb, Bb, lb, db, eb⟩ _).mono ?_
      rintro e V3 ⟨rfl, hx⟩
      try replace HAL := Lib.hid (HAL.out.below hx)
      show Kr _ _
      refine hKr.out _ _ ?_ (fun _ => ?_)
      · exact since_trans hS hx
      clear hKr Kr
      replace hS : Since w4 V3 := since_trans hS hx
      try simp only [Act.put, List.setIfInBounds_toArray, List.set_cons_zero, List.set_cons_succ]
      refine wpAnyH_ready (rs := [4]) (by kernel_rfl) (by simp) ?_
      refine AllReadyH.cons (o := ⟨some 36, _, _, _, _, _⟩) rfl (fun Kr hKr => ?_) AllReadyH.nil
      -- operation 4: a call
      go_simp
      refine (HMG.out _ hS).mono ?_
      rintro e V4 ho
      obtain ⟨p, rfl, hgt, hx⟩ := merged hS HNa.out HNb.out ho
      have HGT := Lib.hid hgt
      try have HOF := Lib.hid (HGT.out.off z HLE.out (.inl (Bk.lt HAL.out)))
      try replace HAL := Lib.hid (HAL.out.below hx)
      show Kr _ _
      refine hKr.out _ _ ?_ (fun _ => ?_)
      · exact since_trans hS hx
      clear hKr Kr
      replace hS : Since w4 V4 := since_trans hS hx
      try simp only [Act.put, List.setIfInBounds_toArray, List.set_cons_zero, List.set_cons_succ]
      refine wpAnyH_take (i := 5) (oi := ⟨some 31, _, _, _, _, _⟩) (v := ?_) rfl (by kernel_rfl) (by kernel_rfl) (by kernel_rfl) (fun _ _ _ h => h) (Or.inl ⟨by rfl, ?_⟩) hS ?_
      rotate_left
      · intro W hW; go_simp; with_reducible rfl
      try simp only [Act.put, List.setIfInBounds_toArray, List.set_cons_zero, List.set_cons_succ]
      refine wpAnyH_take (i := 6) (oi := ⟨some 37, _, _, _, _, _⟩) (v := ?_) rfl (by kernel_rfl) (by kernel_rfl) (by kernel_rfl) (fun _ _ _ h => h) (Or.inl ⟨by rfl, ?_⟩) hS ?_
      rotate_left
      · intro W hW; go_simp; with_reducible rfl
      try simp only [Act.put, List.setIfInBounds_toArray, List.set_cons_zero, List.set_cons_succ]
      refine wpAnyH_take (i := 7) (oi := ⟨some 38, _, _, _, _, _⟩) (v := ?_) rfl (by kernel_rfl) (by kernel_rfl) (by kernel_rfl) (fun _ _ _ h => h) (Or.inl ⟨by rfl, ?_⟩) hS ?_
      rotate_left
      · intro W hW; go_simp; with_reducible rfl
      try simp only [Act.put, List.setIfInBounds_toArray, List.set_cons_zero, List.set_cons_succ]
      refine wpAnyH_ready (rs := [9]) (by kernel_rfl) (by simp) ?_
      refine AllReadyH.cons (o := ⟨none, _, _, _, _, _⟩) rfl (fun Kr hKr => ?_) AllReadyH.nil
      -- operation 9: a step
      try rw [if_pos (by kernel_rfl)]
      refine wp_store_bk 32 _ _ rfl z (ntC m1 p) rfl rfl 32 ntZ HAL.out (by kernel_rfl) rfl (ntC_one _ _) ?_
      intro VS hbx hg9
      have HBX : Hid (NtB VS z 32 m1 p) := Lib.hid ⟨hbx⟩
      have HNP := Lib.hid (HGT.out.at_.off HOF.out hg9)
      show Kr _ _
      refine hKr.out _ _ ?_ (fun _ => ?_)
      · exact Below.grown hS hg9 hS.size (fun q e => by have := HLE.out; have e := Option.some.inj e; omega)
      clear hKr Kr
      replace hS : Since w4 VS := Below.grown hS hg9 hS.size (fun q e => by have := HLE.out; have e := Option.some.inj e; omega)
      try simp only [Act.put]
      refine wpAnyH_take (i := 10) (oi := ⟨some 9, _, _, _, _, _⟩) (v := ?_) rfl (by kernel_rfl) (by kernel_rfl) (by kernel_rfl) (fun _ _ _ h => h) (Or.inl ⟨by rfl, ?_⟩) hS ?_
      rotate_left
      · intro W hW; go_simp; with_reducible rfl
      try simp only [Act.put, List.setIfInBounds_toArray, List.set_cons_zero, List.set_cons_succ]
      refine wpAnyH_done (by kernel_rfl) ?_ _
      go_wp2_with fail
      go_meet
      case rel => exact ⟨z, p, rfl, rfl, Lib.hid hS, HBX, HNP⟩
  case rest =>
  obtain ⟨z1, ⟨pA1, pn1, pc1, pB1, pm1, pd1, pr1⟩, rfl, rfl, HW4, HB1, HN1⟩ := hcut
  obtain ⟨w5, hwc⟩ : ∃ u, u = wc := ⟨_, rfl⟩
  subst hwc
  clear x0 x1 x2 x3 y0 y1 y2 y3 HMG
  replace HBa := Lib.hid (HBa.out.below HW4.out)
  replace HNa := Lib.hid (HNa.out.below HW4.out)
  replace HBb := Lib.hid (HBb.out.below HW4.out)
  replace HNb := Lib.hid (HNb.out.below HW4.out)
  replace HBc := Lib.hid (HBc.out.below HW4.out)
  replace HNc := Lib.hid (HNc.out.below HW4.out)
  replace HB := Lib.hid (HB.out.trans (HW4.out.mono HB.out.size))
  clear HW4
  obtain ⟨m2, hm⟩ : ∃ m, m = merN b c := ⟨_, rfl⟩
  obtain ⟨E2, hE⟩ : ∃ E, E = merE b c := ⟨_, rfl⟩
  have HMG : Hid (∀ V, Since w5 V → Calls Try.prog 16 #[ntV b ⟨Ab, kb, cb, Bb, lb, db, eb⟩, ntV c ⟨Ac, kc, cc, Bc, lc, dc, ec⟩] V (MergeOut V m2 E2 ⟨Ab, kb, cb, Bb, lb, db, eb⟩ ⟨Ac, kc, cc, Bc, lc, dc, ec⟩)) := Lib.hid (fun V hV => by
    rw [hm, hE]
    exact HW.out.merge b c _ _ V (HNb.out.below hV) (HNc.out.below hV) HFb.out HFc.out)
  have HM2 := Lib.hid hm
  have HE2 := Lib.hid hE
  have HF2 : Hid (SmallN m2) := Lib.hid (by rw [hm]; exact small_mer _ _)
  clear hm hE
  have x0 : ∀ V, Since w5 V → V.cell? ⟨gb, 0, none⟩ = some (.int .i64 b.kind) := fun V hV => (HBb.out.below hV).c0
  have x1 : ∀ V, Since w5 V → V.cell? ⟨gb, 1, none⟩ = some (.int .i64 b.seq) := fun V hV => (HBb.out.below hV).c1
  have x2 : ∀ V, Since w5 V → V.cell? ⟨gb, 2, none⟩ = some (.slice Ab kb cb) := fun V hV => (HBb.out.below hV).c2
  have x3 : ∀ V, Since w5 V → V.cell? ⟨gb, 3, none⟩ = some (.slice Bb lb db) := fun V hV => (HBb.out.below hV).c3
  have y0 : ∀ V, Since w5 V → V.cell? ⟨gc, 0, none⟩ = some (.int .i64 c.kind) := fun V hV => (HBc.out.below hV).c0
  have y1 : ∀ V, Since w5 V → V.cell? ⟨gc, 1, none⟩ = some (.int .i64 c.seq) := fun V hV => (HBc.out.below hV).c1
  have y2 : ∀ V, Since w5 V → V.cell? ⟨gc, 2, none⟩ = some (.slice Ac kc cc) := fun V hV => (HBc.out.below hV).c2
  have y3 : ∀ V, Since w5 V → V.cell? ⟨gc, 3, none⟩ = some (.slice Bc lc dc) := fun V hV => (HBc.out.below hV).c3
  go_upto_region 5 with fail
  go_cut [10, 11] from 39 to 46 (fun u v wc => ∃ (z : Nat) (p : Nr), u = .pointer (some ⟨z, 0, none⟩) ∧ v = .int .i64 E2 ∧ Hid (Since w5 wc) ∧ Hid (NtB wc z 32 m2 p) ∧ Hid (NtAt wc m2 p))
  case first =>
    refine wp_region_since (by kernel_rfl) ?_
    have hS : Since w5 (World.drew w5) := (Below.refl _ _).drew
    refine wpAnyH_take (i := 0) (oi := ⟨some 40, _, _, _, _, _⟩) (v := ?_) rfl (by kernel_rfl) (by kernel_rfl) (by kernel_rfl) (fun _ _ _ h => h) (Or.inl ⟨by rfl, ?_⟩) hS ?_
    rotate_left
    · intro W hW; go_simp; with_reducible rfl
    try simp only [Act.put, List.setIfInBounds_toArray, List.set_cons_zero, List.set_cons_succ]
    refine wpAnyH_take (i := 2) (oi := ⟨some 42, _, _, _, _, _⟩) (v := ?_) rfl (by kernel_rfl) (by kernel_rfl) (by kernel_rfl) (fun _ _ _ h => h) (Or.inl ⟨by rfl, ?_⟩) hS ?_
    rotate_left
    · intro W hW; go_simp; with_reducible rfl
    try simp only [Act.put, List.setIfInBounds_toArray, List.set_cons_zero, List.set_cons_succ]
    refine wpAnyH_ready (rs := [1, 8]) (by kernel_rfl) (by simp) ?_
    refine AllReadyH.cons (o := ⟨some 41, _, _, _, _, _⟩) rfl (fun Kr hKr => ?_) (AllReadyH.cons (o := ⟨some 10, _, _, _, _, _⟩) rfl (fun Kr hKr => ?_) AllReadyH.nil)
    · skip
      -- operation 1: a call
      go_simp
      refine (ours_any b ⟨Ab, kb, cb, Bb, lb, db, eb⟩ _).mono ?_
      rintro e V1 ⟨rfl, hx⟩
      try replace HAL := Lib.hid (HAL.out.below hx)
      show Kr _ _
      refine hKr.out _ _ ?_ (fun _ => ?_)
      · exact since_trans hS hx
      clear hKr Kr
      replace hS : Since w5 V1 := since_trans hS hx
      try simp only [Act.put, List.setIfInBounds_toArray, List.set_cons_zero, List.set_cons_succ]
      refine wpAnyH_ready (rs := [3, 8]) (by kernel_rfl) (by simp) ?_
      refine AllReadyH.cons (o := ⟨some 43, _, _, _, _, _⟩) rfl (fun Kr hKr => ?_) (AllReadyH.cons (o := ⟨some 10, _, _, _, _, _⟩) rfl (fun Kr hKr => ?_) AllReadyH.nil)
      · skip
        -- operation 3: a call
        go_simp
        refine (ours_any c ⟨Ac, kc, cc, Bc, lc, dc, ec⟩ _).mono ?_
        rintro e V3 ⟨rfl, hx⟩
        try replace HAL := Lib.hid (HAL.out.below hx)
        show Kr _ _
        refine hKr.out _ _ ?_ (fun _ => ?_)
        · exact since_trans hS hx
        clear hKr Kr
        replace hS : Since w5 V3 := since_trans hS hx
        try simp only [Act.put, List.setIfInBounds_toArray, List.set_cons_zero, List.set_cons_succ]
        refine wpAnyH_ready (rs := [4, 8]) (by kernel_rfl) (by simp) ?_
        refine AllReadyH.cons (o := ⟨some 44, _, _, _, _, _⟩) rfl (fun Kr hKr => ?_) (AllReadyH.cons (o := ⟨some 10, _, _, _, _, _⟩) rfl (fun Kr hKr => ?_) AllReadyH.nil)
        · skip
          -- operation 4: a call
          go_simp
          refine (HMG.out _ hS).mono ?_
          rintro e V4 ho
          obtain ⟨p, rfl, hgt, hx⟩ := merged hS HNb.out HNc.out ho
          have HGT := Lib.hid hgt
          try have HOF := Lib.hid (HGT.out.off z HLE.out (.inl (Bk.lt HAL.out)))
          try replace HAL := Lib.hid (HAL.out.below hx)
          show Kr _ _
          refine hKr.out _ _ ?_ (fun _ => ?_)
          · exact since_trans hS hx
          clear hKr Kr
          replace hS : Since w5 V4 := since_trans hS hx
          try simp only [Act.put, List.setIfInBounds_toArray, List.set_cons_zero, List.set_cons_succ]
          refine wpAnyH_take (i := 5) (oi := ⟨some 39, _, _, _, _, _⟩) (v := ?_) rfl (by kernel_rfl) (by kernel_rfl) (by kernel_rfl) (fun _ _ _ h => h) (Or.inl ⟨by rfl, ?_⟩) hS ?_
          rotate_left
          · intro W hW; go_simp; with_reducible rfl
          try simp only [Act.put, List.setIfInBounds_toArray, List.set_cons_zero, List.set_cons_succ]
          refine wpAnyH_take (i := 6) (oi := ⟨some 45, _, _, _, _, _⟩) (v := ?_) rfl (by kernel_rfl) (by kernel_rfl) (by kernel_rfl) (fun _ _ _ h => h) (Or.inl ⟨by rfl, ?_⟩) hS ?_
          rotate_left
          · intro W hW; go_simp; with_reducible rfl
          try simp only [Act.put, List.setIfInBounds_toArray, List.set_cons_zero, List.set_cons_succ]
          refine wpAnyH_take (i := 7) (oi := ⟨some 46, _, _, _, _, _⟩) (v := ?_) rfl (by kernel_rfl) (by kernel_rfl) (by kernel_rfl) (fun _ _ _ h => h) (Or.inl ⟨by rfl, ?_⟩) hS ?_
          rotate_left
          · intro W hW; go_simp; with_reducible rfl
          try simp only [Act.put, List.setIfInBounds_toArray, List.set_cons_zero, List.set_cons_succ]
          refine wpAnyH_ready (rs := [8]) (by kernel_rfl) (by simp) ?_
          refine AllReadyH.cons (o := ⟨some 10, _, _, _, _, _⟩) rfl (fun Kr hKr => ?_) AllReadyH.nil
          -- operation 8: a step
          try rw [if_pos (by kernel_rfl)]
          refine wp_alloc_bk 32 rfl ntZ (by kernel_rfl) ?_
          intro VA z hbx hx hle
          have HAL : Hid (Bk VA z ntZ 32) := Lib.hid hbx
          have HLE := Lib.hid (Nat.le_trans hS.size hle)
          try have HOF := Lib.hid (HGT.out.off z HLE.out (.inr (Nat.le_trans HGT.out.top hle)))
          try replace HGT := Lib.hid (HGT.out.below hx)
          show Kr _ _
          refine hKr.out _ _ ?_ (fun _ => ?_)
          · exact since_trans hS hx
          clear hKr Kr
          replace hS : Since w5 VA := since_trans hS hx
          try simp only [Act.put, List.setIfInBounds_toArray, List.set_cons_zero, List.set_cons_succ]
          refine wpAnyH_ready (rs := [9]) (by kernel_rfl) (by simp) ?_
          refine AllReadyH.cons (o := ⟨none, _, _, _, _, _⟩) rfl (fun Kr hKr => ?_) AllReadyH.nil
          -- operation 9: a step
          try rw [if_pos (by kernel_rfl)]
          refine wp_store_bk 32 _ _ rfl z (ntC m2 p) rfl rfl 32 ntZ HAL.out (by kernel_rfl) rfl (ntC_one _ _) ?_
          intro VS hbx hg9
          have HBX : Hid (NtB VS z 32 m2 p) := Lib.hid ⟨hbx⟩
          have HNP := Lib.hid (HGT.out.at_.off HOF.out hg9)
          show Kr _ _
          refine hKr.out _ _ ?_ (fun _ => ?_)
          · exact Below.grown hS hg9 hS.size (fun q e => by have := HLE.out; have e := Option.some.inj e; omega)
          clear hKr Kr
          replace hS : Since w5 VS := Below.grown hS hg9 hS.size (fun q e => by have := HLE.out; have e := Option.some.inj e; omega)
          try simp only [Act.put]
          refine wpAnyH_take (i := 10) (oi := ⟨some 11, _, _, _, _, _⟩) (v := ?_) rfl (by kernel_rfl) (by kernel_rfl) (by kernel_rfl) (fun _ _ _ h => h) (Or.inl ⟨by rfl, ?_⟩) hS ?_
          rotate_left
          · intro W hW; go_simp; with_reducible rfl
          try simp only [Act.put, List.setIfInBounds_toArray, List.set_cons_zero, List.set_cons_succ]
          refine wpAnyH_done (by kernel_rfl) ?_ _
          go_wp2_with fail
          go_meet
          case rel => exact ⟨z, p, rfl, rfl, Lib.hid hS, HBX, HNP⟩
        · skip
          -- operation 8: a step
          try rw [if_pos (by kernel_rfl)]
          refine wp_alloc_bk 32 rfl ntZ (by kernel_rfl) ?_
          intro VA z hbx hx hle
          have HAL : Hid (Bk VA z ntZ 32) := Lib.hid hbx
          have HLE := Lib.hid (Nat.le_trans hS.size hle)
          try have HOF := Lib.hid (HGT.out.off z HLE.out (.inr (Nat.le_trans HGT.out.top hle)))
          try replace HGT := Lib.hid (HGT.out.below hx)
          show Kr _ _
          refine hKr.out _ _ ?_ (fun _ => ?_)
          · exact since_trans hS hx
          clear hKr Kr
          replace hS : Since w5 VA := since_trans hS hx
          try simp only [Act.put, List.setIfInBounds_toArray, List.set_cons_zero, List.set_cons_succ]
          refine wpAnyH_ready (rs := [4]) (by kernel_rfl) (by simp) ?_
          refine AllReadyH.cons (o := ⟨some 44, _, _, _, _, _⟩) rfl (fun Kr hKr => ?_) AllReadyH.nil
          -- operation 4: a call
          go_simp
          refine (HMG.out _ hS).mono ?_
          rintro e V4 ho
          obtain ⟨p, rfl, hgt, hx⟩ := merged hS HNb.out HNc.out ho
          have HGT := Lib.hid hgt
          try have HOF := Lib.hid (HGT.out.off z HLE.out (.inl (Bk.lt HAL.out)))
          try replace HAL := Lib.hid (HAL.out.below hx)
          show Kr _ _
          refine hKr.out _ _ ?_ (fun _ => ?_)
          · exact since_trans hS hx
          clear hKr Kr
          replace hS : Since w5 V4 := since_trans hS hx
          try simp only [Act.put, List.setIfInBounds_toArray, List.set_cons_zero, List.set_cons_succ]
          refine wpAnyH_take (i := 5) (oi := ⟨some 39, _, _, _, _, _⟩) (v := ?_) rfl (by kernel_rfl) (by kernel_rfl) (by kernel_rfl) (fun _ _ _ h => h) (Or.inl ⟨by rfl, ?_⟩) hS ?_
          rotate_left
          · intro W hW; go_simp; with_reducible rfl
          try simp only [Act.put, List.setIfInBounds_toArray, List.set_cons_zero, List.set_cons_succ]
          refine wpAnyH_take (i := 6) (oi := ⟨some 45, _, _, _, _, _⟩) (v := ?_) rfl (by kernel_rfl) (by kernel_rfl) (by kernel_rfl) (fun _ _ _ h => h) (Or.inl ⟨by rfl, ?_⟩) hS ?_
          rotate_left
          · intro W hW; go_simp; with_reducible rfl
          try simp only [Act.put, List.setIfInBounds_toArray, List.set_cons_zero, List.set_cons_succ]
          refine wpAnyH_take (i := 7) (oi := ⟨some 46, _, _, _, _, _⟩) (v := ?_) rfl (by kernel_rfl) (by kernel_rfl) (by kernel_rfl) (fun _ _ _ h => h) (Or.inl ⟨by rfl, ?_⟩) hS ?_
          rotate_left
          · intro W hW; go_simp; with_reducible rfl
          try simp only [Act.put, List.setIfInBounds_toArray, List.set_cons_zero, List.set_cons_succ]
          refine wpAnyH_ready (rs := [9]) (by kernel_rfl) (by simp) ?_
          refine AllReadyH.cons (o := ⟨none, _, _, _, _, _⟩) rfl (fun Kr hKr => ?_) AllReadyH.nil
          -- operation 9: a step
          try rw [if_pos (by kernel_rfl)]
          refine wp_store_bk 32 _ _ rfl z (ntC m2 p) rfl rfl 32 ntZ HAL.out (by kernel_rfl) rfl (ntC_one _ _) ?_
          intro VS hbx hg9
          have HBX : Hid (NtB VS z 32 m2 p) := Lib.hid ⟨hbx⟩
          have HNP := Lib.hid (HGT.out.at_.off HOF.out hg9)
          show Kr _ _
          refine hKr.out _ _ ?_ (fun _ => ?_)
          · exact Below.grown hS hg9 hS.size (fun q e => by have := HLE.out; have e := Option.some.inj e; omega)
          clear hKr Kr
          replace hS : Since w5 VS := Below.grown hS hg9 hS.size (fun q e => by have := HLE.out; have e := Option.some.inj e; omega)
          try simp only [Act.put]
          refine wpAnyH_take (i := 10) (oi := ⟨some 11, _, _, _, _, _⟩) (v := ?_) rfl (by kernel_rfl) (by kernel_rfl) (by kernel_rfl) (fun _ _ _ h => h) (Or.inl ⟨by rfl, ?_⟩) hS ?_
          rotate_left
          · intro W hW; go_simp; with_reducible rfl
          try simp only [Act.put, List.setIfInBounds_toArray, List.set_cons_zero, List.set_cons_succ]
          refine wpAnyH_done (by kernel_rfl) ?_ _
          go_wp2_with fail
          go_meet
          case rel => exact ⟨z, p, rfl, rfl, Lib.hid hS, HBX, HNP⟩
      · skip
        -- operation 8: a step
        try rw [if_pos (by kernel_rfl)]
        refine wp_alloc_bk 32 rfl ntZ (by kernel_rfl) ?_
        intro VA z hbx hx hle
        have HAL : Hid (Bk VA z ntZ 32) := Lib.hid hbx
        have HLE := Lib.hid (Nat.le_trans hS.size hle)
        try have HOF := Lib.hid (HGT.out.off z HLE.out (.inr (Nat.le_trans HGT.out.top hle)))
        try replace HGT := Lib.hid (HGT.out.below hx)
        show Kr _ _
        refine hKr.out _ _ ?_ (fun _ => ?_)
        · exact since_trans hS hx
        clear hKr Kr
        replace hS : Since w5 VA := since_trans hS hx
        try simp only [Act.put, List.setIfInBounds_toArray, List.set_cons_zero, List.set_cons_succ]
        refine wpAnyH_ready (rs := [3]) (by kernel_rfl) (by simp) ?_
        refine AllReadyH.cons (o := ⟨some 43, _, _, _, _, _⟩) rfl (fun Kr hKr => ?_) AllReadyH.nil
        -- operation 3: a call
        go_simp
        refine (ours_any c ⟨Ac, kc, cc, Bc, lc, dc, ec⟩ _).mono ?_
        rintro e V3 ⟨rfl, hx⟩
        try replace HAL := Lib.hid (HAL.out.below hx)
        show Kr _ _
        refine hKr.out _ _ ?_ (fun _ => ?_)
        · exact since_trans hS hx
        clear hKr Kr
        replace hS : Since w5 V3 := since_trans hS hx
        try simp only [Act.put, List.setIfInBounds_toArray, List.set_cons_zero, List.set_cons_succ]
        refine wpAnyH_ready (rs := [4]) (by kernel_rfl) (by simp) ?_
        refine AllReadyH.cons (o := ⟨some 44, _, _, _, _, _⟩) rfl (fun Kr hKr => ?_) AllReadyH.nil
        -- operation 4: a call
        go_simp
        refine (HMG.out _ hS).mono ?_
        rintro e V4 ho
        obtain ⟨p, rfl, hgt, hx⟩ := merged hS HNb.out HNc.out ho
        have HGT := Lib.hid hgt
        try have HOF := Lib.hid (HGT.out.off z HLE.out (.inl (Bk.lt HAL.out)))
        try replace HAL := Lib.hid (HAL.out.below hx)
        show Kr _ _
        refine hKr.out _ _ ?_ (fun _ => ?_)
        · exact since_trans hS hx
        clear hKr Kr
        replace hS : Since w5 V4 := since_trans hS hx
        try simp only [Act.put, List.setIfInBounds_toArray, List.set_cons_zero, List.set_cons_succ]
        refine wpAnyH_take (i := 5) (oi := ⟨some 39, _, _, _, _, _⟩) (v := ?_) rfl (by kernel_rfl) (by kernel_rfl) (by kernel_rfl) (fun _ _ _ h => h) (Or.inl ⟨by rfl, ?_⟩) hS ?_
        rotate_left
        · intro W hW; go_simp; with_reducible rfl
        try simp only [Act.put, List.setIfInBounds_toArray, List.set_cons_zero, List.set_cons_succ]
        refine wpAnyH_take (i := 6) (oi := ⟨some 45, _, _, _, _, _⟩) (v := ?_) rfl (by kernel_rfl) (by kernel_rfl) (by kernel_rfl) (fun _ _ _ h => h) (Or.inl ⟨by rfl, ?_⟩) hS ?_
        rotate_left
        · intro W hW; go_simp; with_reducible rfl
        try simp only [Act.put, List.setIfInBounds_toArray, List.set_cons_zero, List.set_cons_succ]
        refine wpAnyH_take (i := 7) (oi := ⟨some 46, _, _, _, _, _⟩) (v := ?_) rfl (by kernel_rfl) (by kernel_rfl) (by kernel_rfl) (fun _ _ _ h => h) (Or.inl ⟨by rfl, ?_⟩) hS ?_
        rotate_left
        · intro W hW; go_simp; with_reducible rfl
        try simp only [Act.put, List.setIfInBounds_toArray, List.set_cons_zero, List.set_cons_succ]
        refine wpAnyH_ready (rs := [9]) (by kernel_rfl) (by simp) ?_
        refine AllReadyH.cons (o := ⟨none, _, _, _, _, _⟩) rfl (fun Kr hKr => ?_) AllReadyH.nil
        -- operation 9: a step
        try rw [if_pos (by kernel_rfl)]
        refine wp_store_bk 32 _ _ rfl z (ntC m2 p) rfl rfl 32 ntZ HAL.out (by kernel_rfl) rfl (ntC_one _ _) ?_
        intro VS hbx hg9
        have HBX : Hid (NtB VS z 32 m2 p) := Lib.hid ⟨hbx⟩
        have HNP := Lib.hid (HGT.out.at_.off HOF.out hg9)
        show Kr _ _
        refine hKr.out _ _ ?_ (fun _ => ?_)
        · exact Below.grown hS hg9 hS.size (fun q e => by have := HLE.out; have e := Option.some.inj e; omega)
        clear hKr Kr
        replace hS : Since w5 VS := Below.grown hS hg9 hS.size (fun q e => by have := HLE.out; have e := Option.some.inj e; omega)
        try simp only [Act.put]
        refine wpAnyH_take (i := 10) (oi := ⟨some 11, _, _, _, _, _⟩) (v := ?_) rfl (by kernel_rfl) (by kernel_rfl) (by kernel_rfl) (fun _ _ _ h => h) (Or.inl ⟨by rfl, ?_⟩) hS ?_
        rotate_left
        · intro W hW; go_simp; with_reducible rfl
        try simp only [Act.put, List.setIfInBounds_toArray, List.set_cons_zero, List.set_cons_succ]
        refine wpAnyH_done (by kernel_rfl) ?_ _
        go_wp2_with fail
        go_meet
        case rel => exact ⟨z, p, rfl, rfl, Lib.hid hS, HBX, HNP⟩
    · skip
      -- operation 8: a step
      try rw [if_pos (by kernel_rfl)]
      refine wp_alloc_bk 32 rfl ntZ (by kernel_rfl) ?_
      intro VA z hbx hx hle
      have HAL : Hid (Bk VA z ntZ 32) := Lib.hid hbx
      have HLE := Lib.hid (Nat.le_trans hS.size hle)
      try have HOF := Lib.hid (HGT.out.off z HLE.out (.inr (Nat.le_trans HGT.out.top hle)))
      try replace HGT := Lib.hid (HGT.out.below hx)
      show Kr _ _
      refine hKr.out _ _ ?_ (fun _ => ?_)
      · exact since_trans hS hx
      clear hKr Kr
      replace hS : Since w5 VA := since_trans hS hx
      try simp only [Act.put, List.setIfInBounds_toArray, List.set_cons_zero, List.set_cons_succ]
      refine wpAnyH_ready (rs := [1]) (by kernel_rfl) (by simp) ?_
      refine AllReadyH.cons (o := ⟨some 41, _, _, _, _, _⟩) rfl (fun Kr hKr => ?_) AllReadyH.nil
      -- operation 1: a call
      go_simp
      refine (ours_any b ⟨Ab, kb, cb, Bb, lb, db, eb⟩ _).mono ?_
      rintro e V1 ⟨rfl, hx⟩
      try replace HAL := Lib.hid (HAL.out.below hx)
      show Kr _ _
      refine hKr.out _ _ ?_ (fun _ => ?_)
      · exact since_trans hS hx
      clear hKr Kr
      replace hS : Since w5 V1 := since_trans hS hx
      try simp only [Act.put, List.setIfInBounds_toArray, List.set_cons_zero, List.set_cons_succ]
      refine wpAnyH_ready (rs := [3]) (by kernel_rfl) (by simp) ?_
      refine AllReadyH.cons (o := ⟨some 43, _, _, _, _, _⟩) rfl (fun Kr hKr => ?_) AllReadyH.nil
      -- operation 3: a call
      go_simp
      refine (ours_any c ⟨Ac, kc, cc, Bc, lc, dc, ec⟩ _).mono ?_
      rintro e V3 ⟨rfl, hx⟩
      try replace HAL := Lib.hid (HAL.out.below hx)
      show Kr _ _
      refine hKr.out _ _ ?_ (fun _ => ?_)
      · exact since_trans hS hx
      clear hKr Kr
      replace hS : Since w5 V3 := since_trans hS hx
      try simp only [Act.put, List.setIfInBounds_toArray, List.set_cons_zero, List.set_cons_succ]
      refine wpAnyH_ready (rs := [4]) (by kernel_rfl) (by simp) ?_
      refine AllReadyH.cons (o := ⟨some 44, _, _, _, _, _⟩) rfl (fun Kr hKr => ?_) AllReadyH.nil
      -- operation 4: a call
      go_simp
      refine (HMG.out _ hS).mono ?_
      rintro e V4 ho
      obtain ⟨p, rfl, hgt, hx⟩ := merged hS HNb.out HNc.out ho
      have HGT := Lib.hid hgt
      try have HOF := Lib.hid (HGT.out.off z HLE.out (.inl (Bk.lt HAL.out)))
      try replace HAL := Lib.hid (HAL.out.below hx)
      show Kr _ _
      refine hKr.out _ _ ?_ (fun _ => ?_)
      · exact since_trans hS hx
      clear hKr Kr
      replace hS : Since w5 V4 := since_trans hS hx
      try simp only [Act.put, List.setIfInBounds_toArray, List.set_cons_zero, List.set_cons_succ]
      refine wpAnyH_take (i := 5) (oi := ⟨some 39, _, _, _, _, _⟩) (v := ?_) rfl (by kernel_rfl) (by kernel_rfl) (by kernel_rfl) (fun _ _ _ h => h) (Or.inl ⟨by rfl, ?_⟩) hS ?_
      rotate_left
      · intro W hW; go_simp; with_reducible rfl
      try simp only [Act.put, List.setIfInBounds_toArray, List.set_cons_zero, List.set_cons_succ]
      refine wpAnyH_take (i := 6) (oi := ⟨some 45, _, _, _, _, _⟩) (v := ?_) rfl (by kernel_rfl) (by kernel_rfl) (by kernel_rfl) (fun _ _ _ h => h) (Or.inl ⟨by rfl, ?_⟩) hS ?_
      rotate_left
      · intro W hW; go_simp; with_reducible rfl
      try simp only [Act.put, List.setIfInBounds_toArray, List.set_cons_zero, List.set_cons_succ]
      refine wpAnyH_take (i := 7) (oi := ⟨some 46, _, _, _, _, _⟩) (v := ?_) rfl (by kernel_rfl) (by kernel_rfl) (by kernel_rfl) (fun _ _ _ h => h) (Or.inl ⟨by rfl, ?_⟩) hS ?_
      rotate_left
      · intro W hW; go_simp; with_reducible rfl
      try simp only [Act.put, List.setIfInBounds_toArray, List.set_cons_zero, List.set_cons_succ]
      refine wpAnyH_ready (rs := [9]) (by kernel_rfl) (by simp) ?_
      refine AllReadyH.cons (o := ⟨none, _, _, _, _, _⟩) rfl (fun Kr hKr => ?_) AllReadyH.nil
      -- operation 9: a step
      try rw [if_pos (by kernel_rfl)]
      refine wp_store_bk 32 _ _ rfl z (ntC m2 p) rfl rfl 32 ntZ HAL.out (by kernel_rfl) rfl (ntC_one _ _) ?_
      intro VS hbx hg9
      have HBX : Hid (NtB VS z 32 m2 p) := Lib.hid ⟨hbx⟩
      have HNP := Lib.hid (HGT.out.at_.off HOF.out hg9)
      show Kr _ _
      refine hKr.out _ _ ?_ (fun _ => ?_)
      · exact Below.grown hS hg9 hS.size (fun q e => by have := HLE.out; have e := Option.some.inj e; omega)
      clear hKr Kr
      replace hS : Since w5 VS := Below.grown hS hg9 hS.size (fun q e => by have := HLE.out; have e := Option.some.inj e; omega)
      try simp only [Act.put]
      refine wpAnyH_take (i := 10) (oi := ⟨some 11, _, _, _, _, _⟩) (v := ?_) rfl (by kernel_rfl) (by kernel_rfl) (by kernel_rfl) (fun _ _ _ h => h) (Or.inl ⟨by rfl, ?_⟩) hS ?_
      rotate_left
      · intro W hW; go_simp; with_reducible rfl
      try simp only [Act.put, List.setIfInBounds_toArray, List.set_cons_zero, List.set_cons_succ]
      refine wpAnyH_done (by kernel_rfl) ?_ _
      go_wp2_with fail
      go_meet
      case rel => exact ⟨z, p, rfl, rfl, Lib.hid hS, HBX, HNP⟩
  case rest =>
  obtain ⟨z2, ⟨pA2, pn2, pc2, pB2, pm2, pd2, pr2⟩, rfl, rfl, HW4, HB2, HN2⟩ := hcut
  obtain ⟨w6, hwc⟩ : ∃ u, u = wc := ⟨_, rfl⟩
  subst hwc
  clear x0 x1 x2 x3 y0 y1 y2 y3 HMG
  replace HBa := Lib.hid (HBa.out.below HW4.out)
  replace HNa := Lib.hid (HNa.out.below HW4.out)
  replace HBb := Lib.hid (HBb.out.below HW4.out)
  replace HNb := Lib.hid (HNb.out.below HW4.out)
  replace HBc := Lib.hid (HBc.out.below HW4.out)
  replace HNc := Lib.hid (HNc.out.below HW4.out)
  replace HB1 := Lib.hid (HB1.out.below HW4.out)
  replace HN1 := Lib.hid (HN1.out.below HW4.out)
  replace HB := Lib.hid (HB.out.trans (HW4.out.mono HB.out.size))
  clear HW4
  obtain ⟨m3, hm⟩ : ∃ m, m = merN m1 c := ⟨_, rfl⟩
  obtain ⟨E3, hE⟩ : ∃ E, E = merE m1 c := ⟨_, rfl⟩
  have HMG : Hid (∀ V, Since w6 V → Calls Try.prog 16 #[ntV m1 ⟨pA1, pn1, pc1, pB1, pm1, pd1, pr1⟩, ntV c ⟨Ac, kc, cc, Bc, lc, dc, ec⟩] V (MergeOut V m3 E3 ⟨pA1, pn1, pc1, pB1, pm1, pd1, pr1⟩ ⟨Ac, kc, cc, Bc, lc, dc, ec⟩)) := Lib.hid (fun V hV => by
    rw [hm, hE]
    exact HW.out.merge m1 c _ _ V (HN1.out.below hV) (HNc.out.below hV) HF1.out HFc.out)
  have HM3 := Lib.hid hm
  have HE3 := Lib.hid hE
  have HF3 : Hid (SmallN m3) := Lib.hid (by rw [hm]; exact small_mer _ _)
  clear hm hE
  have x0 : ∀ V, Since w6 V → V.cell? ⟨z1, 0, none⟩ = some (.int .i64 m1.kind) := fun V hV => (HB1.out.below hV).c0
  have x1 : ∀ V, Since w6 V → V.cell? ⟨z1, 1, none⟩ = some (.int .i64 m1.seq) := fun V hV => (HB1.out.below hV).c1
  have x2 : ∀ V, Since w6 V → V.cell? ⟨z1, 2, none⟩ = some (.slice pA1 pn1 pc1) := fun V hV => (HB1.out.below hV).c2
  have x3 : ∀ V, Since w6 V → V.cell? ⟨z1, 3, none⟩ = some (.slice pB1 pm1 pd1) := fun V hV => (HB1.out.below hV).c3
  have y0 : ∀ V, Since w6 V → V.cell? ⟨gc, 0, none⟩ = some (.int .i64 c.kind) := fun V hV => (HBc.out.below hV).c0
  have y1 : ∀ V, Since w6 V → V.cell? ⟨gc, 1, none⟩ = some (.int .i64 c.seq) := fun V hV => (HBc.out.below hV).c1
  have y2 : ∀ V, Since w6 V → V.cell? ⟨gc, 2, none⟩ = some (.slice Ac kc cc) := fun V hV => (HBc.out.below hV).c2
  have y3 : ∀ V, Since w6 V → V.cell? ⟨gc, 3, none⟩ = some (.slice Bc lc dc) := fun V hV => (HBc.out.below hV).c3
  go_upto_region 6 with fail
  go_cut [12, 13] from 47 to 53 (fun u v wc => ∃ (z : Nat) (p : Nr), u = .pointer (some ⟨z, 0, none⟩) ∧ v = .int .i64 E3 ∧ Hid (Since w6 wc) ∧ Hid (NtB wc z 32 m3 p) ∧ Hid (NtAt wc m3 p))
  case first =>
    refine wp_region_since (by kernel_rfl) ?_
    have hS : Since w6 (World.drew w6) := (Below.refl _ _).drew
    refine wpAnyH_take (i := 0) (oi := ⟨some 48, _, _, _, _, _⟩) (v := ?_) rfl (by kernel_rfl) (by kernel_rfl) (by kernel_rfl) (fun _ _ _ h => h) (Or.inl ⟨by rfl, ?_⟩) hS ?_
    rotate_left
    · intro W hW; go_simp; with_reducible rfl
    try simp only [Act.put, List.setIfInBounds_toArray, List.set_cons_zero, List.set_cons_succ]
    refine wpAnyH_take (i := 1) (oi := ⟨some 49, _, _, _, _, _⟩) (v := ?_) rfl (by kernel_rfl) (by kernel_rfl) (by kernel_rfl) (fun _ _ _ h => h) (Or.inl ⟨by rfl, ?_⟩) hS ?_
    rotate_left
    · intro W hW; go_simp; with_reducible rfl
    try simp only [Act.put, List.setIfInBounds_toArray, List.set_cons_zero, List.set_cons_succ]
    refine wpAnyH_ready (rs := [2, 7]) (by kernel_rfl) (by simp) ?_
    refine AllReadyH.cons (o := ⟨some 50, _, _, _, _, _⟩) rfl (fun Kr hKr => ?_) (AllReadyH.cons (o := ⟨some 12, _, _, _, _, _⟩) rfl (fun Kr hKr => ?_) AllReadyH.nil)
    · skip
      -- operation 2: a call
      go_simp
      refine (ours_any c ⟨Ac, kc, cc, Bc, lc, dc, ec⟩ _).mono ?_
      rintro e V2 ⟨rfl, hx⟩
      try replace HAL := Lib.hid (HAL.out.below hx)
      show Kr _ _
      refine hKr.out _ _ ?_ (fun _ => ?_)
      · exact since_trans hS hx
      clear hKr Kr
      replace hS : Since w6 V2 := since_trans hS hx
      try simp only [Act.put, List.setIfInBounds_toArray, List.set_cons_zero, List.set_cons_succ]
      refine wpAnyH_ready (rs := [3, 7]) (by kernel_rfl) (by simp) ?_
      refine AllReadyH.cons (o := ⟨some 51, _, _, _, _, _⟩) rfl (fun Kr hKr => ?_) (AllReadyH.cons (o := ⟨some 12, _, _, _, _, _⟩) rfl (fun Kr hKr => ?_) AllReadyH.nil)
      · skip
        -- operation 3: a call
        go_simp
        refine (HMG.out _ hS).mono ?_
        rintro e V3 ho
        obtain ⟨p, rfl, hgt, hx⟩ := merged hS HN1.out HNc.out ho
        have HGT := Lib.hid hgt
        try have HOF := Lib.hid (HGT.out.off z HLE.out (.inl (Bk.lt HAL.out)))
        try replace HAL := Lib.hid (HAL.out.below hx)
        show Kr _ _
        refine hKr.out _ _ ?_ (fun _ => ?_)
        · exact since_trans hS hx
        clear hKr Kr
        replace hS : Since w6 V3 := since_trans hS hx
        try simp only [Act.put, List.setIfInBounds_toArray, List.set_cons_zero, List.set_cons_succ]
        refine wpAnyH_take (i := 4) (oi := ⟨some 47, _, _, _, _, _⟩) (v := ?_) rfl (by kernel_rfl) (by kernel_rfl) (by kernel_rfl) (fun _ _ _ h => h) (Or.inl ⟨by rfl, ?_⟩) hS ?_
        rotate_left
        · intro W hW; go_simp; with_reducible rfl
        try simp only [Act.put, List.setIfInBounds_toArray, List.set_cons_zero, List.set_cons_succ]
        refine wpAnyH_take (i := 5) (oi := ⟨some 52, _, _, _, _, _⟩) (v := ?_) rfl (by kernel_rfl) (by kernel_rfl) (by kernel_rfl) (fun _ _ _ h => h) (Or.inl ⟨by rfl, ?_⟩) hS ?_
        rotate_left
        · intro W hW; go_simp; with_reducible rfl
        try simp only [Act.put, List.setIfInBounds_toArray, List.set_cons_zero, List.set_cons_succ]
        refine wpAnyH_take (i := 6) (oi := ⟨some 53, _, _, _, _, _⟩) (v := ?_) rfl (by kernel_rfl) (by kernel_rfl) (by kernel_rfl) (fun _ _ _ h => h) (Or.inl ⟨by rfl, ?_⟩) hS ?_
        rotate_left
        · intro W hW; go_simp; with_reducible rfl
        try simp only [Act.put, List.setIfInBounds_toArray, List.set_cons_zero, List.set_cons_succ]
        refine wpAnyH_ready (rs := [7]) (by kernel_rfl) (by simp) ?_
        refine AllReadyH.cons (o := ⟨some 12, _, _, _, _, _⟩) rfl (fun Kr hKr => ?_) AllReadyH.nil
        -- operation 7: a step
        try rw [if_pos (by kernel_rfl)]
        refine wp_alloc_bk 32 rfl ntZ (by kernel_rfl) ?_
        intro VA z hbx hx hle
        have HAL : Hid (Bk VA z ntZ 32) := Lib.hid hbx
        have HLE := Lib.hid (Nat.le_trans hS.size hle)
        try have HOF := Lib.hid (HGT.out.off z HLE.out (.inr (Nat.le_trans HGT.out.top hle)))
        try replace HGT := Lib.hid (HGT.out.below hx)
        show Kr _ _
        refine hKr.out _ _ ?_ (fun _ => ?_)
        · exact since_trans hS hx
        clear hKr Kr
        replace hS : Since w6 VA := since_trans hS hx
        try simp only [Act.put, List.setIfInBounds_toArray, List.set_cons_zero, List.set_cons_succ]
        refine wpAnyH_ready (rs := [8]) (by kernel_rfl) (by simp) ?_
        refine AllReadyH.cons (o := ⟨none, _, _, _, _, _⟩) rfl (fun Kr hKr => ?_) AllReadyH.nil
        -- operation 8: a step
        try rw [if_pos (by kernel_rfl)]
        refine wp_store_bk 32 _ _ rfl z (ntC m3 p) rfl rfl 32 ntZ HAL.out (by kernel_rfl) rfl (ntC_one _ _) ?_
        intro VS hbx hg9
        have HBX : Hid (NtB VS z 32 m3 p) := Lib.hid ⟨hbx⟩
        have HNP := Lib.hid (HGT.out.at_.off HOF.out hg9)
        show Kr _ _
        refine hKr.out _ _ ?_ (fun _ => ?_)
        · exact Below.grown hS hg9 hS.size (fun q e => by have := HLE.out; have e := Option.some.inj e; omega)
        clear hKr Kr
        replace hS : Since w6 VS := Below.grown hS hg9 hS.size (fun q e => by have := HLE.out; have e := Option.some.inj e; omega)
        try simp only [Act.put]
        refine wpAnyH_take (i := 9) (oi := ⟨some 13, _, _, _, _, _⟩) (v := ?_) rfl (by kernel_rfl) (by kernel_rfl) (by kernel_rfl) (fun _ _ _ h => h) (Or.inl ⟨by rfl, ?_⟩) hS ?_
        rotate_left
        · intro W hW; go_simp; with_reducible rfl
        try simp only [Act.put, List.setIfInBounds_toArray, List.set_cons_zero, List.set_cons_succ]
        refine wpAnyH_done (by kernel_rfl) ?_ _
        go_wp2_with fail
        go_meet
        case rel => exact ⟨z, p, rfl, rfl, Lib.hid hS, HBX, HNP⟩
      · skip
        -- operation 7: a step
        try rw [if_pos (by kernel_rfl)]
        refine wp_alloc_bk 32 rfl ntZ (by kernel_rfl) ?_
        intro VA z hbx hx hle
        have HAL : Hid (Bk VA z ntZ 32) := Lib.hid hbx
        have HLE := Lib.hid (Nat.le_trans hS.size hle)
        try have HOF := Lib.hid (HGT.out.off z HLE.out (.inr (Nat.le_trans HGT.out.top hle)))
        try replace HGT := Lib.hid (HGT.out.below hx)
        show Kr _ _
        refine hKr.out _ _ ?_ (fun _ => ?_)
        · exact since_trans hS hx
        clear hKr Kr
        replace hS : Since w6 VA := since_trans hS hx
        try simp only [Act.put, List.setIfInBounds_toArray, List.set_cons_zero, List.set_cons_succ]
        refine wpAnyH_ready (rs := [3]) (by kernel_rfl) (by simp) ?_
        refine AllReadyH.cons (o := ⟨some 51, _, _, _, _, _⟩) rfl (fun Kr hKr => ?_) AllReadyH.nil
        -- operation 3: a call
        go_simp
        refine (HMG.out _ hS).mono ?_
        rintro e V3 ho
        obtain ⟨p, rfl, hgt, hx⟩ := merged hS HN1.out HNc.out ho
        have HGT := Lib.hid hgt
        try have HOF := Lib.hid (HGT.out.off z HLE.out (.inl (Bk.lt HAL.out)))
        try replace HAL := Lib.hid (HAL.out.below hx)
        show Kr _ _
        refine hKr.out _ _ ?_ (fun _ => ?_)
        · exact since_trans hS hx
        clear hKr Kr
        replace hS : Since w6 V3 := since_trans hS hx
        try simp only [Act.put, List.setIfInBounds_toArray, List.set_cons_zero, List.set_cons_succ]
        refine wpAnyH_take (i := 4) (oi := ⟨some 47, _, _, _, _, _⟩) (v := ?_) rfl (by kernel_rfl) (by kernel_rfl) (by kernel_rfl) (fun _ _ _ h => h) (Or.inl ⟨by rfl, ?_⟩) hS ?_
        rotate_left
        · intro W hW; go_simp; with_reducible rfl
        try simp only [Act.put, List.setIfInBounds_toArray, List.set_cons_zero, List.set_cons_succ]
        refine wpAnyH_take (i := 5) (oi := ⟨some 52, _, _, _, _, _⟩) (v := ?_) rfl (by kernel_rfl) (by kernel_rfl) (by kernel_rfl) (fun _ _ _ h => h) (Or.inl ⟨by rfl, ?_⟩) hS ?_
        rotate_left
        · intro W hW; go_simp; with_reducible rfl
        try simp only [Act.put, List.setIfInBounds_toArray, List.set_cons_zero, List.set_cons_succ]
        refine wpAnyH_take (i := 6) (oi := ⟨some 53, _, _, _, _, _⟩) (v := ?_) rfl (by kernel_rfl) (by kernel_rfl) (by kernel_rfl) (fun _ _ _ h => h) (Or.inl ⟨by rfl, ?_⟩) hS ?_
        rotate_left
        · intro W hW; go_simp; with_reducible rfl
        try simp only [Act.put, List.setIfInBounds_toArray, List.set_cons_zero, List.set_cons_succ]
        refine wpAnyH_ready (rs := [8]) (by kernel_rfl) (by simp) ?_
        refine AllReadyH.cons (o := ⟨none, _, _, _, _, _⟩) rfl (fun Kr hKr => ?_) AllReadyH.nil
        -- operation 8: a step
        try rw [if_pos (by kernel_rfl)]
        refine wp_store_bk 32 _ _ rfl z (ntC m3 p) rfl rfl 32 ntZ HAL.out (by kernel_rfl) rfl (ntC_one _ _) ?_
        intro VS hbx hg9
        have HBX : Hid (NtB VS z 32 m3 p) := Lib.hid ⟨hbx⟩
        have HNP := Lib.hid (HGT.out.at_.off HOF.out hg9)
        show Kr _ _
        refine hKr.out _ _ ?_ (fun _ => ?_)
        · exact Below.grown hS hg9 hS.size (fun q e => by have := HLE.out; have e := Option.some.inj e; omega)
        clear hKr Kr
        replace hS : Since w6 VS := Below.grown hS hg9 hS.size (fun q e => by have := HLE.out; have e := Option.some.inj e; omega)
        try simp only [Act.put]
        refine wpAnyH_take (i := 9) (oi := ⟨some 13, _, _, _, _, _⟩) (v := ?_) rfl (by kernel_rfl) (by kernel_rfl) (by kernel_rfl) (fun _ _ _ h => h) (Or.inl ⟨by rfl, ?_⟩) hS ?_
        rotate_left
        · intro W hW; go_simp; with_reducible rfl
        try simp only [Act.put, List.setIfInBounds_toArray, List.set_cons_zero, List.set_cons_succ]
        refine wpAnyH_done (by kernel_rfl) ?_ _
        go_wp2_with fail
        go_meet
        case rel => exact ⟨z, p, rfl, rfl, Lib.hid hS, HBX, HNP⟩
    · skip
      -- operation 7: a step
      try rw [if_pos (by kernel_rfl)]
      refine wp_alloc_bk 32 rfl ntZ (by kernel_rfl) ?_
      intro VA z hbx hx hle
      have HAL : Hid (Bk VA z ntZ 32) := Lib.hid hbx
      have HLE := Lib.hid (Nat.le_trans hS.size hle)
      try have HOF := Lib.hid (HGT.out.off z HLE.out (.inr (Nat.le_trans HGT.out.top hle)))
      try replace HGT := Lib.hid (HGT.out.below hx)
      show Kr _ _
      refine hKr.out _ _ ?_ (fun _ => ?_)
      · exact since_trans hS hx
      clear hKr Kr
      replace hS : Since w6 VA := since_trans hS hx
      try simp only [Act.put, List.setIfInBounds_toArray, List.set_cons_zero, List.set_cons_succ]
      refine wpAnyH_ready (rs := [2]) (by kernel_rfl) (by simp) ?_
      refine AllReadyH.cons (o := ⟨some 50, _, _, _, _, _⟩) rfl (fun Kr hKr => ?_) AllReadyH.nil
      -- operation 2: a call
      go_simp
      refine (ours_any c ⟨Ac, kc, cc, Bc, lc, dc, ec⟩ _).mono ?_
      rintro e V2 ⟨rfl, hx⟩
      try replace HAL := Lib.hid (HAL.out.below hx)
      show Kr _ _
      refine hKr.out _ _ ?_ (fun _ => ?_)
      · exact since_trans hS hx
      clear hKr Kr
      replace hS : Since w6 V2 := since_trans hS hx
      try simp only [Act.put, List.setIfInBounds_toArray, List.set_cons_zero, List.set_cons_succ]
      refine wpAnyH_ready (rs := [3]) (by kernel_rfl) (by simp) ?_
      refine AllReadyH.cons (o := ⟨some 51, _, _, _, _, _⟩) rfl (fun Kr hKr => ?_) AllReadyH.nil
      -- operation 3: a call
      go_simp
      refine (HMG.out _ hS).mono ?_
      rintro e V3 ho
      obtain ⟨p, rfl, hgt, hx⟩ := merged hS HN1.out HNc.out ho
      have HGT := Lib.hid hgt
      try have HOF := Lib.hid (HGT.out.off z HLE.out (.inl (Bk.lt HAL.out)))
      try replace HAL := Lib.hid (HAL.out.below hx)
      show Kr _ _
      refine hKr.out _ _ ?_ (fun _ => ?_)
      · exact since_trans hS hx
      clear hKr Kr
      replace hS : Since w6 V3 := since_trans hS hx
      try simp only [Act.put, List.setIfInBounds_toArray, List.set_cons_zero, List.set_cons_succ]
      refine wpAnyH_take (i := 4) (oi := ⟨some 47, _, _, _, _, _⟩) (v := ?_) rfl (by kernel_rfl) (by kernel_rfl) (by kernel_rfl) (fun _ _ _ h => h) (Or.inl ⟨by rfl, ?_⟩) hS ?_
      rotate_left
      · intro W hW; go_simp; with_reducible rfl
      try simp only [Act.put, List.setIfInBounds_toArray, List.set_cons_zero, List.set_cons_succ]
      refine wpAnyH_take (i := 5) (oi := ⟨some 52, _, _, _, _, _⟩) (v := ?_) rfl (by kernel_rfl) (by kernel_rfl) (by kernel_rfl) (fun _ _ _ h => h) (Or.inl ⟨by rfl, ?_⟩) hS ?_
      rotate_left
      · intro W hW; go_simp; with_reducible rfl
      try simp only [Act.put, List.setIfInBounds_toArray, List.set_cons_zero, List.set_cons_succ]
      refine wpAnyH_take (i := 6) (oi := ⟨some 53, _, _, _, _, _⟩) (v := ?_) rfl (by kernel_rfl) (by kernel_rfl) (by kernel_rfl) (fun _ _ _ h => h) (Or.inl ⟨by rfl, ?_⟩) hS ?_
      rotate_left
      · intro W hW; go_simp; with_reducible rfl
      try simp only [Act.put, List.setIfInBounds_toArray, List.set_cons_zero, List.set_cons_succ]
      refine wpAnyH_ready (rs := [8]) (by kernel_rfl) (by simp) ?_
      refine AllReadyH.cons (o := ⟨none, _, _, _, _, _⟩) rfl (fun Kr hKr => ?_) AllReadyH.nil
      -- operation 8: a step
      try rw [if_pos (by kernel_rfl)]
      refine wp_store_bk 32 _ _ rfl z (ntC m3 p) rfl rfl 32 ntZ HAL.out (by kernel_rfl) rfl (ntC_one _ _) ?_
      intro VS hbx hg9
      have HBX : Hid (NtB VS z 32 m3 p) := Lib.hid ⟨hbx⟩
      have HNP := Lib.hid (HGT.out.at_.off HOF.out hg9)
      show Kr _ _
      refine hKr.out _ _ ?_ (fun _ => ?_)
      · exact Below.grown hS hg9 hS.size (fun q e => by have := HLE.out; have e := Option.some.inj e; omega)
      clear hKr Kr
      replace hS : Since w6 VS := Below.grown hS hg9 hS.size (fun q e => by have := HLE.out; have e := Option.some.inj e; omega)
      try simp only [Act.put]
      refine wpAnyH_take (i := 9) (oi := ⟨some 13, _, _, _, _, _⟩) (v := ?_) rfl (by kernel_rfl) (by kernel_rfl) (by kernel_rfl) (fun _ _ _ h => h) (Or.inl ⟨by rfl, ?_⟩) hS ?_
      rotate_left
      · intro W hW; go_simp; with_reducible rfl
      try simp only [Act.put, List.setIfInBounds_toArray, List.set_cons_zero, List.set_cons_succ]
      refine wpAnyH_done (by kernel_rfl) ?_ _
      go_wp2_with fail
      go_meet
      case rel => exact ⟨z, p, rfl, rfl, Lib.hid hS, HBX, HNP⟩
  case rest =>
  obtain ⟨z3, ⟨pA3, pn3, pc3, pB3, pm3, pd3, pr3⟩, rfl, rfl, HW4, HB3, HN3⟩ := hcut
  obtain ⟨w7, hwc⟩ : ∃ u, u = wc := ⟨_, rfl⟩
  subst hwc
  clear x0 x1 x2 x3 y0 y1 y2 y3 HMG
  replace HBa := Lib.hid (HBa.out.below HW4.out)
  replace HNa := Lib.hid (HNa.out.below HW4.out)
  replace HBb := Lib.hid (HBb.out.below HW4.out)
  replace HNb := Lib.hid (HNb.out.below HW4.out)
  replace HBc := Lib.hid (HBc.out.below HW4.out)
  replace HNc := Lib.hid (HNc.out.below HW4.out)
  replace HB1 := Lib.hid (HB1.out.below HW4.out)
  replace HN1 := Lib.hid (HN1.out.below HW4.out)
  replace HB2 := Lib.hid (HB2.out.below HW4.out)
  replace HN2 := Lib.hid (HN2.out.below HW4.out)
  replace HB := Lib.hid (HB.out.trans (HW4.out.mono HB.out.size))
  clear HW4
  obtain ⟨m4, hm⟩ : ∃ m, m = merN a m2 := ⟨_, rfl⟩
  obtain ⟨E4, hE⟩ : ∃ E, E = merE a m2 := ⟨_, rfl⟩
  have HMG : Hid (∀ V, Since w7 V → Calls Try.prog 16 #[ntV a ⟨Aa, ka, ca, Ba, la, da, ea⟩, ntV m2 ⟨pA2, pn2, pc2, pB2, pm2, pd2, pr2⟩] V (MergeOut V m4 E4 ⟨Aa, ka, ca, Ba, la, da, ea⟩ ⟨pA2, pn2, pc2, pB2, pm2, pd2, pr2⟩)) := Lib.hid (fun V hV => by
    rw [hm, hE]
    exact HW.out.merge a m2 _ _ V (HNa.out.below hV) (HN2.out.below hV) HFa.out HF2.out)
  have HM4 := Lib.hid hm
  have HE4 := Lib.hid hE
  have HF4 : Hid (SmallN m4) := Lib.hid (by rw [hm]; exact small_mer _ _)
  clear hm hE
  have x0 : ∀ V, Since w7 V → V.cell? ⟨w.heap.size, 0, none⟩ = some (.int .i64 a.kind) := fun V hV => (HBa.out.below hV).c0
  have x1 : ∀ V, Since w7 V → V.cell? ⟨w.heap.size, 1, none⟩ = some (.int .i64 a.seq) := fun V hV => (HBa.out.below hV).c1
  have x2 : ∀ V, Since w7 V → V.cell? ⟨w.heap.size, 2, none⟩ = some (.slice Aa ka ca) := fun V hV => (HBa.out.below hV).c2
  have x3 : ∀ V, Since w7 V → V.cell? ⟨w.heap.size, 3, none⟩ = some (.slice Ba la da) := fun V hV => (HBa.out.below hV).c3
  have y0 : ∀ V, Since w7 V → V.cell? ⟨z2, 0, none⟩ = some (.int .i64 m2.kind) := fun V hV => (HB2.out.below hV).c0
  have y1 : ∀ V, Since w7 V → V.cell? ⟨z2, 1, none⟩ = some (.int .i64 m2.seq) := fun V hV => (HB2.out.below hV).c1
  have y2 : ∀ V, Since w7 V → V.cell? ⟨z2, 2, none⟩ = some (.slice pA2 pn2 pc2) := fun V hV => (HB2.out.below hV).c2
  have y3 : ∀ V, Since w7 V → V.cell? ⟨z2, 3, none⟩ = some (.slice pB2 pm2 pd2) := fun V hV => (HB2.out.below hV).c3
  go_upto_region 7 with fail
  go_cut [14, 15] from 54 to 60 (fun u v wc => ∃ (z : Nat) (p : Nr), u = .pointer (some ⟨z, 0, none⟩) ∧ v = .int .i64 E4 ∧ Hid (Since w7 wc) ∧ Hid (NtB wc z 32 m4 p) ∧ Hid (NtAt wc m4 p))
  case first =>
    refine wp_region_since (by kernel_rfl) ?_
    have hS : Since w7 (World.drew w7) := (Below.refl _ _).drew
    refine wpAnyH_take (i := 0) (oi := ⟨some 55, _, _, _, _, _⟩) (v := ?_) rfl (by kernel_rfl) (by kernel_rfl) (by kernel_rfl) (fun _ _ _ h => h) (Or.inl ⟨by rfl, ?_⟩) hS ?_
    rotate_left
    · intro W hW; go_simp; with_reducible rfl
    try simp only [Act.put, List.setIfInBounds_toArray, List.set_cons_zero, List.set_cons_succ]
    refine wpAnyH_take (i := 2) (oi := ⟨some 57, _, _, _, _, _⟩) (v := ?_) rfl (by kernel_rfl) (by kernel_rfl) (by kernel_rfl) (fun _ _ _ h => h) (Or.inl ⟨by rfl, ?_⟩) hS ?_
    rotate_left
    · intro W hW; go_simp; with_reducible rfl
    try simp only [Act.put, List.setIfInBounds_toArray, List.set_cons_zero, List.set_cons_succ]
    refine wpAnyH_ready (rs := [1, 7]) (by kernel_rfl) (by simp) ?_
    refine AllReadyH.cons (o := ⟨some 56, _, _, _, _, _⟩) rfl (fun Kr hKr => ?_) (AllReadyH.cons (o := ⟨some 14, _, _, _, _, _⟩) rfl (fun Kr hKr => ?_) AllReadyH.nil)
    · skip
      -- operation 1: a call
      go_simp
      refine (ours_any a ⟨Aa, ka, ca, Ba, la, da, ea⟩ _).mono ?_
      rintro e V1 ⟨rfl, hx⟩
      try replace HAL := Lib.hid (HAL.out.below hx)
      show Kr _ _
      refine hKr.out _ _ ?_ (fun _ => ?_)
      · exact since_trans hS hx
      clear hKr Kr
      replace hS : Since w7 V1 := since_trans hS hx
      try simp only [Act.put, List.setIfInBounds_toArray, List.set_cons_zero, List.set_cons_succ]
      refine wpAnyH_ready (rs := [3, 7]) (by kernel_rfl) (by simp) ?_
      refine AllReadyH.cons (o := ⟨some 58, _, _, _, _, _⟩) rfl (fun Kr hKr => ?_) (AllReadyH.cons (o := ⟨some 14, _, _, _, _, _⟩) rfl (fun Kr hKr => ?_) AllReadyH.nil)
      · skip
        -- operation 3: a call
        go_simp
        refine (HMG.out _ hS).mono ?_
        rintro e V3 ho
        obtain ⟨p, rfl, hgt, hx⟩ := merged hS HNa.out HN2.out ho
        have HGT := Lib.hid hgt
        try have HOF := Lib.hid (HGT.out.off z HLE.out (.inl (Bk.lt HAL.out)))
        try replace HAL := Lib.hid (HAL.out.below hx)
        show Kr _ _
        refine hKr.out _ _ ?_ (fun _ => ?_)
        · exact since_trans hS hx
        clear hKr Kr
        replace hS : Since w7 V3 := since_trans hS hx
        try simp only [Act.put, List.setIfInBounds_toArray, List.set_cons_zero, List.set_cons_succ]
        refine wpAnyH_take (i := 4) (oi := ⟨some 54, _, _, _, _, _⟩) (v := ?_) rfl (by kernel_rfl) (by kernel_rfl) (by kernel_rfl) (fun _ _ _ h => h) (Or.inl ⟨by rfl, ?_⟩) hS ?_
        rotate_left
        · intro W hW; go_simp; with_reducible rfl
        try simp only [Act.put, List.setIfInBounds_toArray, List.set_cons_zero, List.set_cons_succ]
        refine wpAnyH_take (i := 5) (oi := ⟨some 59, _, _, _, _, _⟩) (v := ?_) rfl (by kernel_rfl) (by kernel_rfl) (by kernel_rfl) (fun _ _ _ h => h) (Or.inl ⟨by rfl, ?_⟩) hS ?_
        rotate_left
        · intro W hW; go_simp; with_reducible rfl
        try simp only [Act.put, List.setIfInBounds_toArray, List.set_cons_zero, List.set_cons_succ]
        refine wpAnyH_take (i := 6) (oi := ⟨some 60, _, _, _, _, _⟩) (v := ?_) rfl (by kernel_rfl) (by kernel_rfl) (by kernel_rfl) (fun _ _ _ h => h) (Or.inl ⟨by rfl, ?_⟩) hS ?_
        rotate_left
        · intro W hW; go_simp; with_reducible rfl
        try simp only [Act.put, List.setIfInBounds_toArray, List.set_cons_zero, List.set_cons_succ]
        refine wpAnyH_ready (rs := [7]) (by kernel_rfl) (by simp) ?_
        refine AllReadyH.cons (o := ⟨some 14, _, _, _, _, _⟩) rfl (fun Kr hKr => ?_) AllReadyH.nil
        -- operation 7: a step
        try rw [if_pos (by kernel_rfl)]
        refine wp_alloc_bk 32 rfl ntZ (by kernel_rfl) ?_
        intro VA z hbx hx hle
        have HAL : Hid (Bk VA z ntZ 32) := Lib.hid hbx
        have HLE := Lib.hid (Nat.le_trans hS.size hle)
        try have HOF := Lib.hid (HGT.out.off z HLE.out (.inr (Nat.le_trans HGT.out.top hle)))
        try replace HGT := Lib.hid (HGT.out.below hx)
        show Kr _ _
        refine hKr.out _ _ ?_ (fun _ => ?_)
        · exact since_trans hS hx
        clear hKr Kr
        replace hS : Since w7 VA := since_trans hS hx
        try simp only [Act.put, List.setIfInBounds_toArray, List.set_cons_zero, List.set_cons_succ]
        refine wpAnyH_ready (rs := [8]) (by kernel_rfl) (by simp) ?_
        refine AllReadyH.cons (o := ⟨none, _, _, _, _, _⟩) rfl (fun Kr hKr => ?_) AllReadyH.nil
        -- operation 8: a step
        try rw [if_pos (by kernel_rfl)]
        refine wp_store_bk 32 _ _ rfl z (ntC m4 p) rfl rfl 32 ntZ HAL.out (by kernel_rfl) rfl (ntC_one _ _) ?_
        intro VS hbx hg9
        have HBX : Hid (NtB VS z 32 m4 p) := Lib.hid ⟨hbx⟩
        have HNP := Lib.hid (HGT.out.at_.off HOF.out hg9)
        show Kr _ _
        refine hKr.out _ _ ?_ (fun _ => ?_)
        · exact Below.grown hS hg9 hS.size (fun q e => by have := HLE.out; have e := Option.some.inj e; omega)
        clear hKr Kr
        replace hS : Since w7 VS := Below.grown hS hg9 hS.size (fun q e => by have := HLE.out; have e := Option.some.inj e; omega)
        try simp only [Act.put]
        refine wpAnyH_take (i := 9) (oi := ⟨some 15, _, _, _, _, _⟩) (v := ?_) rfl (by kernel_rfl) (by kernel_rfl) (by kernel_rfl) (fun _ _ _ h => h) (Or.inl ⟨by rfl, ?_⟩) hS ?_
        rotate_left
        · intro W hW; go_simp; with_reducible rfl
        try simp only [Act.put, List.setIfInBounds_toArray, List.set_cons_zero, List.set_cons_succ]
        refine wpAnyH_done (by kernel_rfl) ?_ _
        go_wp2_with fail
        go_meet
        case rel => exact ⟨z, p, rfl, rfl, Lib.hid hS, HBX, HNP⟩
      · skip
        -- operation 7: a step
        try rw [if_pos (by kernel_rfl)]
        refine wp_alloc_bk 32 rfl ntZ (by kernel_rfl) ?_
        intro VA z hbx hx hle
        have HAL : Hid (Bk VA z ntZ 32) := Lib.hid hbx
        have HLE := Lib.hid (Nat.le_trans hS.size hle)
        try have HOF := Lib.hid (HGT.out.off z HLE.out (.inr (Nat.le_trans HGT.out.top hle)))
        try replace HGT := Lib.hid (HGT.out.below hx)
        show Kr _ _
        refine hKr.out _ _ ?_ (fun _ => ?_)
        · exact since_trans hS hx
        clear hKr Kr
        replace hS : Since w7 VA := since_trans hS hx
        try simp only [Act.put, List.setIfInBounds_toArray, List.set_cons_zero, List.set_cons_succ]
        refine wpAnyH_ready (rs := [3]) (by kernel_rfl) (by simp) ?_
        refine AllReadyH.cons (o := ⟨some 58, _, _, _, _, _⟩) rfl (fun Kr hKr => ?_) AllReadyH.nil
        -- operation 3: a call
        go_simp
        refine (HMG.out _ hS).mono ?_
        rintro e V3 ho
        obtain ⟨p, rfl, hgt, hx⟩ := merged hS HNa.out HN2.out ho
        have HGT := Lib.hid hgt
        try have HOF := Lib.hid (HGT.out.off z HLE.out (.inl (Bk.lt HAL.out)))
        try replace HAL := Lib.hid (HAL.out.below hx)
        show Kr _ _
        refine hKr.out _ _ ?_ (fun _ => ?_)
        · exact since_trans hS hx
        clear hKr Kr
        replace hS : Since w7 V3 := since_trans hS hx
        try simp only [Act.put, List.setIfInBounds_toArray, List.set_cons_zero, List.set_cons_succ]
        refine wpAnyH_take (i := 4) (oi := ⟨some 54, _, _, _, _, _⟩) (v := ?_) rfl (by kernel_rfl) (by kernel_rfl) (by kernel_rfl) (fun _ _ _ h => h) (Or.inl ⟨by rfl, ?_⟩) hS ?_
        rotate_left
        · intro W hW; go_simp; with_reducible rfl
        try simp only [Act.put, List.setIfInBounds_toArray, List.set_cons_zero, List.set_cons_succ]
        refine wpAnyH_take (i := 5) (oi := ⟨some 59, _, _, _, _, _⟩) (v := ?_) rfl (by kernel_rfl) (by kernel_rfl) (by kernel_rfl) (fun _ _ _ h => h) (Or.inl ⟨by rfl, ?_⟩) hS ?_
        rotate_left
        · intro W hW; go_simp; with_reducible rfl
        try simp only [Act.put, List.setIfInBounds_toArray, List.set_cons_zero, List.set_cons_succ]
        refine wpAnyH_take (i := 6) (oi := ⟨some 60, _, _, _, _, _⟩) (v := ?_) rfl (by kernel_rfl) (by kernel_rfl) (by kernel_rfl) (fun _ _ _ h => h) (Or.inl ⟨by rfl, ?_⟩) hS ?_
        rotate_left
        · intro W hW; go_simp; with_reducible rfl
        try simp only [Act.put, List.setIfInBounds_toArray, List.set_cons_zero, List.set_cons_succ]
        refine wpAnyH_ready (rs := [8]) (by kernel_rfl) (by simp) ?_
        refine AllReadyH.cons (o := ⟨none, _, _, _, _, _⟩) rfl (fun Kr hKr => ?_) AllReadyH.nil
        -- operation 8: a step
        try rw [if_pos (by kernel_rfl)]
        refine wp_store_bk 32 _ _ rfl z (ntC m4 p) rfl rfl 32 ntZ HAL.out (by kernel_rfl) rfl (ntC_one _ _) ?_
        intro VS hbx hg9
        have HBX : Hid (NtB VS z 32 m4 p) := Lib.hid ⟨hbx⟩
        have HNP := Lib.hid (HGT.out.at_.off HOF.out hg9)
        show Kr _ _
        refine hKr.out _ _ ?_ (fun _ => ?_)
        · exact Below.grown hS hg9 hS.size (fun q e => by have := HLE.out; have e := Option.some.inj e; omega)
        clear hKr Kr
        replace hS : Since w7 VS := Below.grown hS hg9 hS.size (fun q e => by have := HLE.out; have e := Option.some.inj e; omega)
        try simp only [Act.put]
        refine wpAnyH_take (i := 9) (oi := ⟨some 15, _, _, _, _, _⟩) (v := ?_) rfl (by kernel_rfl) (by kernel_rfl) (by kernel_rfl) (fun _ _ _ h => h) (Or.inl ⟨by rfl, ?_⟩) hS ?_
        rotate_left
        · intro W hW; go_simp; with_reducible rfl
        try simp only [Act.put, List.setIfInBounds_toArray, List.set_cons_zero, List.set_cons_succ]
        refine wpAnyH_done (by kernel_rfl) ?_ _
        go_wp2_with fail
        go_meet
        case rel => exact ⟨z, p, rfl, rfl, Lib.hid hS, HBX, HNP⟩
    · skip
      -- operation 7: a step
      try rw [if_pos (by kernel_rfl)]
      refine wp_alloc_bk 32 rfl ntZ (by kernel_rfl) ?_
      intro VA z hbx hx hle
      have HAL : Hid (Bk VA z ntZ 32) := Lib.hid hbx
      have HLE := Lib.hid (Nat.le_trans hS.size hle)
      try have HOF := Lib.hid (HGT.out.off z HLE.out (.inr (Nat.le_trans HGT.out.top hle)))
      try replace HGT := Lib.hid (HGT.out.below hx)
      show Kr _ _
      refine hKr.out _ _ ?_ (fun _ => ?_)
      · exact since_trans hS hx
      clear hKr Kr
      replace hS : Since w7 VA := since_trans hS hx
      try simp only [Act.put, List.setIfInBounds_toArray, List.set_cons_zero, List.set_cons_succ]
      refine wpAnyH_ready (rs := [1]) (by kernel_rfl) (by simp) ?_
      refine AllReadyH.cons (o := ⟨some 56, _, _, _, _, _⟩) rfl (fun Kr hKr => ?_) AllReadyH.nil
      -- operation 1: a call
      go_simp
      refine (ours_any a ⟨Aa, ka, ca, Ba, la, da, ea⟩ _).mono ?_
      rintro e V1 ⟨rfl, hx⟩
      try replace HAL := Lib.hid (HAL.out.below hx)
      show Kr _ _
      refine hKr.out _ _ ?_ (fun _ => ?_)
      · exact since_trans hS hx
      clear hKr Kr
      replace hS : Since w7 V1 := since_trans hS hx
      try simp only [Act.put, List.setIfInBounds_toArray, List.set_cons_zero, List.set_cons_succ]
      refine wpAnyH_ready (rs := [3]) (by kernel_rfl) (by simp) ?_
      refine AllReadyH.cons (o := ⟨some 58, _, _, _, _, _⟩) rfl (fun Kr hKr => ?_) AllReadyH.nil
      -- operation 3: a call
      go_simp
      refine (HMG.out _ hS).mono ?_
      rintro e V3 ho
      obtain ⟨p, rfl, hgt, hx⟩ := merged hS HNa.out HN2.out ho
      have HGT := Lib.hid hgt
      try have HOF := Lib.hid (HGT.out.off z HLE.out (.inl (Bk.lt HAL.out)))
      try replace HAL := Lib.hid (HAL.out.below hx)
      show Kr _ _
      refine hKr.out _ _ ?_ (fun _ => ?_)
      · exact since_trans hS hx
      clear hKr Kr
      replace hS : Since w7 V3 := since_trans hS hx
      try simp only [Act.put, List.setIfInBounds_toArray, List.set_cons_zero, List.set_cons_succ]
      refine wpAnyH_take (i := 4) (oi := ⟨some 54, _, _, _, _, _⟩) (v := ?_) rfl (by kernel_rfl) (by kernel_rfl) (by kernel_rfl) (fun _ _ _ h => h) (Or.inl ⟨by rfl, ?_⟩) hS ?_
      rotate_left
      · intro W hW; go_simp; with_reducible rfl
      try simp only [Act.put, List.setIfInBounds_toArray, List.set_cons_zero, List.set_cons_succ]
      refine wpAnyH_take (i := 5) (oi := ⟨some 59, _, _, _, _, _⟩) (v := ?_) rfl (by kernel_rfl) (by kernel_rfl) (by kernel_rfl) (fun _ _ _ h => h) (Or.inl ⟨by rfl, ?_⟩) hS ?_
      rotate_left
      · intro W hW; go_simp; with_reducible rfl
      try simp only [Act.put, List.setIfInBounds_toArray, List.set_cons_zero, List.set_cons_succ]
      refine wpAnyH_take (i := 6) (oi := ⟨some 60, _, _, _, _, _⟩) (v := ?_) rfl (by kernel_rfl) (by kernel_rfl) (by kernel_rfl) (fun _ _ _ h => h) (Or.inl ⟨by rfl, ?_⟩) hS ?_
      rotate_left
      · intro W hW; go_simp; with_reducible rfl
      try simp only [Act.put, List.setIfInBounds_toArray, List.set_cons_zero, List.set_cons_succ]
      refine wpAnyH_ready (rs := [8]) (by kernel_rfl) (by simp) ?_
      refine AllReadyH.cons (o := ⟨none, _, _, _, _, _⟩) rfl (fun Kr hKr => ?_) AllReadyH.nil
      -- operation 8: a step
      try rw [if_pos (by kernel_rfl)]
      refine wp_store_bk 32 _ _ rfl z (ntC m4 p) rfl rfl 32 ntZ HAL.out (by kernel_rfl) rfl (ntC_one _ _) ?_
      intro VS hbx hg9
      have HBX : Hid (NtB VS z 32 m4 p) := Lib.hid ⟨hbx⟩
      have HNP := Lib.hid (HGT.out.at_.off HOF.out hg9)
      show Kr _ _
      refine hKr.out _ _ ?_ (fun _ => ?_)
      · exact Below.grown hS hg9 hS.size (fun q e => by have := HLE.out; have e := Option.some.inj e; omega)
      clear hKr Kr
      replace hS : Since w7 VS := Below.grown hS hg9 hS.size (fun q e => by have := HLE.out; have e := Option.some.inj e; omega)
      try simp only [Act.put]
      refine wpAnyH_take (i := 9) (oi := ⟨some 15, _, _, _, _, _⟩) (v := ?_) rfl (by kernel_rfl) (by kernel_rfl) (by kernel_rfl) (fun _ _ _ h => h) (Or.inl ⟨by rfl, ?_⟩) hS ?_
      rotate_left
      · intro W hW; go_simp; with_reducible rfl
      try simp only [Act.put, List.setIfInBounds_toArray, List.set_cons_zero, List.set_cons_succ]
      refine wpAnyH_done (by kernel_rfl) ?_ _
      go_wp2_with fail
      go_meet
      case rel => exact ⟨z, p, rfl, rfl, Lib.hid hS, HBX, HNP⟩
  case rest =>
  obtain ⟨z4, ⟨pA4, pn4, pc4, pB4, pm4, pd4, pr4⟩, rfl, rfl, HW4, HB4, HN4⟩ := hcut
  obtain ⟨w8, hwc⟩ : ∃ u, u = wc := ⟨_, rfl⟩
  subst hwc
  clear x0 x1 x2 x3 y0 y1 y2 y3 HMG
  replace HBa := Lib.hid (HBa.out.below HW4.out)
  replace HNa := Lib.hid (HNa.out.below HW4.out)
  replace HBb := Lib.hid (HBb.out.below HW4.out)
  replace HNb := Lib.hid (HNb.out.below HW4.out)
  replace HBc := Lib.hid (HBc.out.below HW4.out)
  replace HNc := Lib.hid (HNc.out.below HW4.out)
  replace HB1 := Lib.hid (HB1.out.below HW4.out)
  replace HN1 := Lib.hid (HN1.out.below HW4.out)
  replace HB2 := Lib.hid (HB2.out.below HW4.out)
  replace HN2 := Lib.hid (HN2.out.below HW4.out)
  replace HB3 := Lib.hid (HB3.out.below HW4.out)
  replace HN3 := Lib.hid (HN3.out.below HW4.out)
  replace HB := Lib.hid (HB.out.trans (HW4.out.mono HB.out.size))
  clear HW4
  by_cases he : E1 = 0
  rotate_left
  · obtain ⟨f1, f2⟩ := ne_no he
    clear he
    go_wp2_with fail
    go_ret
    exact ⟨rfl, HB.out⟩
  obtain ⟨f1, f2⟩ := ne_yes he
  by_cases hf : E2 = 0
  rotate_left
  · obtain ⟨f3, f4⟩ := ne_no hf
    clear he hf
    go_wp2_with fail
    go_ret
    exact ⟨rfl, HB.out⟩
  obtain ⟨f3, f4⟩ := ne_yes hf
  have hall := order_all (by rw [← HE1.out]; exact he) (by rw [← HE2.out]; exact hf)
  rw [← HM1.out, ← HM2.out] at hall
  have h34 : E3 = E4 := by rw [HE3.out, HE4.out]; exact hall.1
  have hm34 : m3 = m4 := by rw [HM3.out, HM4.out]; exact hall.2
  have HSB := Lib.hid (show sameB m3 m4 = true by rw [hm34]; unfold sameB; simp)
  have f5 : (E3 == E4) = true := by rw [h34]; simp
  have HSM : Hid (∀ V, Since w8 V → Calls Try.prog 22 #[ntV m3 ⟨pA3, pn3, pc3, pB3, pm3, pd3, pr3⟩, ntV m4 ⟨pA4, pn4, pc4, pB4, pm4, pd4, pr4⟩] V fun e w' => e = .returned (.bool true) ∧ Below V.heap.size V w') := Lib.hid (fun V hV => by
    have := same_any m3 m4 _ _ V (HN3.out.below hV) (HN4.out.below hV) ⟨by have := HF3.out.1; omega, by have := HF3.out.2.1; omega⟩
    rw [HSB.out] at this
    exact this)
  clear he hf hall h34 hm34
  have x0 : ∀ V, Since w8 V → V.cell? ⟨z3, 0, none⟩ = some (.int .i64 m3.kind) := fun V hV => (HB3.out.below hV).c0
  have x1 : ∀ V, Since w8 V → V.cell? ⟨z3, 1, none⟩ = some (.int .i64 m3.seq) := fun V hV => (HB3.out.below hV).c1
  have x2 : ∀ V, Since w8 V → V.cell? ⟨z3, 2, none⟩ = some (.slice pA3 pn3 pc3) := fun V hV => (HB3.out.below hV).c2
  have x3 : ∀ V, Since w8 V → V.cell? ⟨z3, 3, none⟩ = some (.slice pB3 pm3 pd3) := fun V hV => (HB3.out.below hV).c3
  have y0 : ∀ V, Since w8 V → V.cell? ⟨z4, 0, none⟩ = some (.int .i64 m4.kind) := fun V hV => (HB4.out.below hV).c0
  have y1 : ∀ V, Since w8 V → V.cell? ⟨z4, 1, none⟩ = some (.int .i64 m4.seq) := fun V hV => (HB4.out.below hV).c1
  have y2 : ∀ V, Since w8 V → V.cell? ⟨z4, 2, none⟩ = some (.slice pA4 pn4 pc4) := fun V hV => (HB4.out.below hV).c2
  have y3 : ∀ V, Since w8 V → V.cell? ⟨z4, 3, none⟩ = some (.slice pB4 pm4 pd4) := fun V hV => (HB4.out.below hV).c3
  go_upto_region 10 with fail
  refine wp_region_since (by kernel_rfl) ?_
  have hS : Since w8 (World.drew w8) := (Below.refl _ _).drew
  refine wpAnyH_take (i := 0) (oi := ⟨some 68, _, _, _, _, _⟩) (v := ?_) rfl (by kernel_rfl) (by kernel_rfl) (by kernel_rfl) (fun _ _ _ h => h) (Or.inl ⟨by rfl, ?_⟩) hS ?_
  rotate_left
  · intro W hW; go_simp; with_reducible rfl
  try simp only [Act.put, List.setIfInBounds_toArray, List.set_cons_zero, List.set_cons_succ]
  refine wpAnyH_take (i := 1) (oi := ⟨some 69, _, _, _, _, _⟩) (v := ?_) rfl (by kernel_rfl) (by kernel_rfl) (by kernel_rfl) (fun _ _ _ h => h) (Or.inl ⟨by rfl, ?_⟩) hS ?_
  rotate_left
  · intro W hW; go_simp; with_reducible rfl
  try simp only [Act.put, List.setIfInBounds_toArray, List.set_cons_zero, List.set_cons_succ]
  refine wpAnyH_take (i := 2) (oi := ⟨some 70, _, _, _, _, _⟩) (v := ?_) rfl (by kernel_rfl) (by kernel_rfl) (by kernel_rfl) (fun _ _ _ h => h) (Or.inl ⟨by rfl, ?_⟩) hS ?_
  rotate_left
  · intro W hW; go_simp; with_reducible rfl
  try simp only [Act.put, List.setIfInBounds_toArray, List.set_cons_zero, List.set_cons_succ]
  refine wpAnyH_take (i := 3) (oi := ⟨some 71, _, _, _, _, _⟩) (v := ?_) rfl (by kernel_rfl) (by kernel_rfl) (by kernel_rfl) (fun _ _ _ h => h) (Or.inl ⟨by rfl, ?_⟩) hS ?_
  rotate_left
  · intro W hW; go_simp; with_reducible rfl
  try simp only [Act.put, List.setIfInBounds_toArray, List.set_cons_zero, List.set_cons_succ]
  refine wpAnyH_take (i := 4) (oi := ⟨some 72, _, _, _, _, _⟩) (v := ?_) rfl (by kernel_rfl) (by kernel_rfl) (by kernel_rfl) (fun _ _ _ h => h) (Or.inl ⟨by rfl, ?_⟩) hS ?_
  rotate_left
  · intro W hW; go_simp; with_reducible rfl
  try simp only [Act.put, List.setIfInBounds_toArray, List.set_cons_zero, List.set_cons_succ]
  refine wpAnyH_take (i := 5) (oi := ⟨some 73, _, _, _, _, _⟩) (v := ?_) rfl (by kernel_rfl) (by kernel_rfl) (by kernel_rfl) (fun _ _ _ h => h) (Or.inl ⟨by rfl, ?_⟩) hS ?_
  rotate_left
  · intro W hW; go_simp; with_reducible rfl
  try simp only [Act.put, List.setIfInBounds_toArray, List.set_cons_zero, List.set_cons_succ]
  refine wpAnyH_take (i := 6) (oi := ⟨some 74, _, _, _, _, _⟩) (v := ?_) rfl (by kernel_rfl) (by kernel_rfl) (by kernel_rfl) (fun _ _ _ h => h) (Or.inl ⟨by rfl, ?_⟩) hS ?_
  rotate_left
  · intro W hW; go_simp; with_reducible rfl
  try simp only [Act.put, List.setIfInBounds_toArray, List.set_cons_zero, List.set_cons_succ]
  refine wpAnyH_take (i := 7) (oi := ⟨some 75, _, _, _, _, _⟩) (v := ?_) rfl (by kernel_rfl) (by kernel_rfl) (by kernel_rfl) (fun _ _ _ h => h) (Or.inl ⟨by rfl, ?_⟩) hS ?_
  rotate_left
  · intro W hW; go_simp; with_reducible rfl
  try simp only [Act.put, List.setIfInBounds_toArray, List.set_cons_zero, List.set_cons_succ]
  refine wpAnyH_take (i := 9) (oi := ⟨some 77, _, _, _, _, _⟩) (v := ?_) rfl (by kernel_rfl) (by kernel_rfl) (by kernel_rfl) (fun _ _ _ h => h) (Or.inl ⟨by rfl, ?_⟩) hS ?_
  rotate_left
  · intro W hW; go_simp; with_reducible rfl
  try simp only [Act.put, List.setIfInBounds_toArray, List.set_cons_zero, List.set_cons_succ]
  refine wpAnyH_ready (rs := [8]) (by kernel_rfl) (by simp) ?_
  refine AllReadyH.cons (o := ⟨some 76, _, _, _, _, _⟩) rfl (fun Kr hKr => ?_) AllReadyH.nil
  -- operation 8: a call
  go_simp
  refine (theirs_any m3 ⟨pA3, pn3, pc3, pB3, pm3, pd3, pr3⟩ _).mono ?_
  rintro e V8 ⟨rfl, hx⟩
  show Kr _ _
  refine hKr.out _ _ ?_ (fun _ => ?_)
  · exact since_trans hS hx
  clear hKr Kr
  replace hS : Since w8 V8 := since_trans hS hx
  try simp only [Act.put, List.setIfInBounds_toArray, List.set_cons_zero, List.set_cons_succ]
  refine wpAnyH_ready (rs := [10]) (by kernel_rfl) (by simp) ?_
  refine AllReadyH.cons (o := ⟨some 78, _, _, _, _, _⟩) rfl (fun Kr hKr => ?_) AllReadyH.nil
  -- operation 10: a call
  go_simp
  refine (theirs_any m4 ⟨pA4, pn4, pc4, pB4, pm4, pd4, pr4⟩ _).mono ?_
  rintro e V10 ⟨rfl, hx⟩
  show Kr _ _
  refine hKr.out _ _ ?_ (fun _ => ?_)
  · exact since_trans hS hx
  clear hKr Kr
  replace hS : Since w8 V10 := since_trans hS hx
  try simp only [Act.put, List.setIfInBounds_toArray, List.set_cons_zero, List.set_cons_succ]
  refine wpAnyH_ready (rs := [11]) (by kernel_rfl) (by simp) ?_
  refine AllReadyH.cons (o := ⟨some 79, _, _, _, _, _⟩) rfl (fun Kr hKr => ?_) AllReadyH.nil
  -- operation 11: a call
  go_simp
  refine (HSM.out _ hS).mono ?_
  rintro e V11 ⟨rfl, hx⟩
  show Kr _ _
  refine hKr.out _ _ ?_ (fun _ => ?_)
  · exact since_trans hS hx
  clear hKr Kr
  replace hS : Since w8 V11 := since_trans hS hx
  try simp only [Act.put, List.setIfInBounds_toArray, List.set_cons_zero, List.set_cons_succ]
  refine wpAnyH_take (i := 12) (oi := ⟨some 80, _, _, _, _, _⟩) (v := ?_) rfl (by kernel_rfl) (by kernel_rfl) (by kernel_rfl) (fun _ _ _ h => h) (Or.inl ⟨by rfl, ?_⟩) hS ?_
  rotate_left
  · intro W hW; go_simp; with_reducible rfl
  try simp only [Act.put, List.setIfInBounds_toArray, List.set_cons_zero, List.set_cons_succ]
  refine wpAnyH_take (i := 13) (oi := ⟨some 6, _, _, _, _, _⟩) (v := ?_) rfl (by kernel_rfl) (by kernel_rfl) (by kernel_rfl) (fun _ _ _ h => h) (Or.inl ⟨by rfl, ?_⟩) hS ?_
  rotate_left
  · intro W hW; go_simp; with_reducible rfl
  try simp only [Act.put, List.setIfInBounds_toArray, List.set_cons_zero, List.set_cons_succ]
  refine wpAnyH_done (by kernel_rfl) ?_ _
  have HSF := Lib.hid hS
  clear hS
  go_wp2_with fail
  go_ret
  exact ⟨rfl, HB.out.trans (HSF.out.mono HB.out.size)⟩
end Go.Proofs.Ytjpnihmijnpjcaa
