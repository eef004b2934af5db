/-
  How far a counter may go: the document's Reach.
-/
import Derived.Test.YtogngghfdcpeaaaRj
namespace Go.Proofs.Ytogngghfdcpeaaa
set_option maxRecDepth 100000
set_option linter.unusedVariables false
set_option linter.unusedSimpArgs false
open Go.RowKit

set_option maxHeartbeats 2000000 in
theorem reftreach_any (A B : Option Addr) (n a m b : Nat) (t : Tb) (k : Int) (hm : m ≤ 1000) (w : World) (ht : TbAt w A n B m t) :
    Calls Try.prog 26 #[tbV A n a B m b, .int .i64 k] w fun e w' => e = .returned (spV (t.reach k).1 (t.reach k).2) ∧ Below w.heap.size w w' := by
  have HT := Lib.hid ht
  have HX := Lib.hid ((Bk.new w (tbC A n a B m b) 25).al (.cells (spC 0 0) 63))
  have HZ := Bk.new (w.alloc (.cells (tbC A n a B m b) 25)) (spC 0 0) 63
  rw [size_al] at HZ
  have HZ := Lib.hid HZ
  have HB := Lib.hid (below_two (below_new w (.cells (tbC A n a B m b) 25)) (below_new _ (.cells (spC 0 0) 63)))
  have hs := fun V hV => refsums_any A B n a m b t k hm V (HT.out.below hV)
  have HSO := Lib.hid (sumsOf_ok ht.okP k)
  have HRE : Hid (t.reach k = if k < 0 ∨ (t.C.length : Int) ≤ k then (0, 0) else (reachL (t.C.getD k.toNat ctD).v (sumsOf t.P k), reachH (t.C.getD k.toNat ctD).v (sumsOf t.P k))) := rfl
  clear ht
  generalize t.reach k = re at *
  have x0 := HX.out.t0
  have z0 := HZ.out.s0
  have z1 := HZ.out.s1
  have f0 := HZ.out.fr 0
  have f1 := HZ.out.fr 1
  rcases (show k < 0 ∨ ¬ k < 0 from by omega) with hk | hk
  · have q1 : decide (k < 0) = true := decide_eq_true hk
    have HE := Lib.hid (show re = (0, 0) from by rw [HRE.out, if_pos (.inl hk)])
    clear hk
    go_enter Try.func26, Try.ntmps26
    go_wp2_with fail
    refine bodyPost_ret (v := spV 0 0) (by rw [results_cell_one rfl]; go_simp; first | done | exact ⟨rfl, rfl⟩) rfl ⟨by rw [HE.out], HB.out⟩
  have q1 : decide (k < 0) = false := decide_eq_false hk
  rcases (show (n : Int) ≤ k ∨ k < (n : Int) from by omega) with hn | hn
  · have q2 : decide (k ≥ (n : Int)) = true := decide_eq_true hn
    have q3 : decide ((n : Int) ≤ k) = true := decide_eq_true hn
    have HE := Lib.hid (show re = (0, 0) from by rw [HRE.out, if_pos (.inr (by rw [HT.out.cl]; exact hn))])
    clear hk hn
    go_enter Try.func26, Try.ntmps26
    go_wp2_with fail
    refine bodyPost_ret (v := spV 0 0) (by rw [results_cell_one rfl]; go_simp; first | done | exact ⟨rfl, rfl⟩) rfl ⟨by rw [HE.out], HB.out⟩
  have q2 : decide (k ≥ (n : Int)) = false := decide_eq_false (by omega)
  have q3 : decide ((n : Int) ≤ k) = false := decide_eq_false (by omega)
  obtain ⟨kn, rfl⟩ : ∃ kn : Nat, k = kn := ⟨k.toNat, by omega⟩
  have hkn : kn < n := by omega
  have HE := Lib.hid (show re = (reachL (t.C.getD kn ctD).v (sumsOf t.P (kn : Int)), reachH (t.C.getD kn ctD).v (sumsOf t.P (kn : Int))) from by rw [HRE.out, if_neg (by rw [HT.out.cl]; omega), Int.toNat_natCast])
  obtain ⟨b1, o1, hA, hbl, hok, h0, h1, h2⟩ := HT.out.c hkn
  subst hA
  have HBL := Lib.hid hbl
  have HC2 := Lib.hid h2
  have HV := Lib.hid hok.v
  generalize (t.C.getD kn ctD).v = vv at *
  have hd1 : decide (kn < n) = true := decide_eq_true hkn
  clear h0 h1 h2 hbl hok hk HRE
  have hr := fun A4 n4 c4 V (hV : Ls V A4 n4 (sumsOf t.P (kn : Int))) => refreach_any vv HV.out A4 n4 c4 _ V hV
  unfold reV at hr
  generalize reachL vv (sumsOf t.P (kn : Int)) = rl at *
  generalize reachH vv (sumsOf t.P (kn : Int)) = rh at *
  generalize reachE vv (sumsOf t.P (kn : Int)) = rx at *
  generalize sumsOf t.P (kn : Int) = l at *
  go_enter Try.func26, Try.ntmps26
  go_upto_region 3 with fail
  have HZL := Lib.hid HZ.out.lt
  clear x0 z0 z1 f0 f1 q1 q2 q3
  generalize (w.alloc (.cells (tbC (some ⟨b1, o1, none⟩) n a B m b) 25)).alloc (.cells (spC 0 0) 63) = wz at *
  have X0 : ∀ V, Since wz V → V.cell? ⟨w.heap.size, 0, none⟩ = some (.slice (some ⟨b1, o1, none⟩) n a) := fun V hV => (HX.out.below hV).t0
  have X1 : ∀ V, Since wz V → V.cell? ⟨w.heap.size, 1, none⟩ = some (.slice B m b) := fun V hV => (HX.out.below hV).t1
  have X2 : ∀ V, Since wz V → V.cell? ⟨b1, o1 + kn * 3 + 2, none⟩ = some (.int .i64 vv) := fun V hV => (hV.cell (p := ⟨b1, o1 + kn * 3 + 2, none⟩) (Nat.lt_of_lt_of_le HBL.out HB.out.size)).trans ((HB.out.cell (p := ⟨b1, o1 + kn * 3 + 2, none⟩) HBL.out).trans HC2.out)
  have hs2 := fun V (hV : Since wz V) => hs V (HB.out.trans (hV.mono HB.out.size))
  refine wp_region_since (by kernel_rfl) ?_
  have hS : Since wz (World.drew wz) := (Below.refl _ _).drew
  refine wpAnyH_take (i := 0) (oi := ⟨some 18, _, _, _, _, _⟩) (v := ?_) rfl (by kernel_rfl) (by kernel_rfl) (by kernel_rfl) (fun _ _ _ h => h) (Or.inl ⟨by rfl, ?_⟩) hS ?_
  rotate_left
  · intro W hW; go_simp; with_reducible rfl
  try simp only [Act.put, List.setIfInBounds_toArray, List.set_cons_zero, List.set_cons_succ]
  refine wpAnyH_take (i := 1) (oi := ⟨some 19, _, _, _, _, _⟩) (v := ?_) rfl (by kernel_rfl) (by kernel_rfl) (by kernel_rfl) (fun _ _ _ h => h) (Or.inl ⟨by rfl, ?_⟩) hS ?_
  rotate_left
  · intro W hW; go_simp; with_reducible rfl
  try simp only [Act.put, List.setIfInBounds_toArray, List.set_cons_zero, List.set_cons_succ]
  refine wpAnyH_take (i := 2) (oi := ⟨some 20, _, _, _, _, _⟩) (v := ?_) rfl (by kernel_rfl) (by kernel_rfl) (by kernel_rfl) (fun _ _ _ h => h) (Or.inl ⟨by rfl, ?_⟩) hS ?_
  rotate_left
  · intro W hW; go_simp; with_reducible rfl
  try simp only [Act.put, List.setIfInBounds_toArray, List.set_cons_zero, List.set_cons_succ]
  refine wpAnyH_take (i := 3) (oi := ⟨some 21, _, _, _, _, _⟩) (v := ?_) rfl (by kernel_rfl) (by kernel_rfl) (by kernel_rfl) (fun _ _ _ h => h) (Or.inl ⟨by rfl, ?_⟩) hS ?_
  rotate_left
  · intro W hW; go_simp; with_reducible rfl
  try simp only [Act.put, List.setIfInBounds_toArray, List.set_cons_zero, List.set_cons_succ]
  refine wpAnyH_take (i := 4) (oi := ⟨some 22, _, _, _, _, _⟩) (v := ?_) rfl (by kernel_rfl) (by kernel_rfl) (by kernel_rfl) (fun _ _ _ h => h) (Or.inl ⟨by rfl, ?_⟩) hS ?_
  rotate_left
  · intro W hW; go_simp; with_reducible rfl
  try simp only [Act.put, List.setIfInBounds_toArray, List.set_cons_zero, List.set_cons_succ]
  refine wpAnyH_take (i := 5) (oi := ⟨some 23, _, _, _, _, _⟩) (v := ?_) rfl (by kernel_rfl) (by kernel_rfl) (by kernel_rfl) (fun _ _ _ h => h) (Or.inl ⟨by rfl, ?_⟩) hS ?_
  rotate_left
  · intro W hW; go_simp; with_reducible rfl
  try simp only [Act.put, List.setIfInBounds_toArray, List.set_cons_zero, List.set_cons_succ]
  refine wpAnyH_take (i := 6) (oi := ⟨some 24, _, _, _, _, _⟩) (v := ?_) rfl (by kernel_rfl) (by kernel_rfl) (by kernel_rfl) (fun _ _ _ h => h) (Or.inl ⟨by rfl, ?_⟩) hS ?_
  rotate_left
  · intro W hW; go_simp; with_reducible rfl
  try simp only [Act.put, List.setIfInBounds_toArray, List.set_cons_zero, List.set_cons_succ]
  refine wpAnyH_take (i := 7) (oi := ⟨some 25, _, _, _, _, _⟩) (v := ?_) rfl (by kernel_rfl) (by kernel_rfl) (by kernel_rfl) (fun _ _ _ h => h) (Or.inl ⟨by rfl, ?_⟩) hS ?_
  rotate_left
  · intro W hW; go_simp; with_reducible rfl
  try simp only [Act.put, List.setIfInBounds_toArray, List.set_cons_zero, List.set_cons_succ]
  refine wpAnyH_ready (rs := [8, 13]) (by kernel_rfl) (by simp) ?_
  refine AllReadyH.cons (o := ⟨some 26, _, _, _, _, _⟩) rfl (fun Kr hKr => ?_) (AllReadyH.cons (o := ⟨some 5, _, _, _, _, _⟩) rfl (fun Kr hKr => ?_) AllReadyH.nil)
  · skip
    -- operation 8: a call
    go_simp
    refine (hs2 _ hS).mono ?_
    rintro e V8 ⟨lv, rfl, hown, hx, hsz⟩
    obtain ⟨A4, n4, c4, e4, en4, hl4⟩ := own_ls hown HSO.out
    subst e4
    have HL4 := Lib.hid hl4
    clear hown en4 hl4 hsz
    try replace HAL := Lib.hid (HAL.out.below hx)
    show Kr _ _
    refine hKr.out _ _ ?_ (fun _ => ?_)
    · exact since_trans hS hx
    clear hKr Kr
    replace hS : Since wz V8 := since_trans hS hx
    try simp only [Act.put, List.setIfInBounds_toArray, List.set_cons_zero, List.set_cons_succ]
    refine wpAnyH_ready (rs := [9, 13]) (by kernel_rfl) (by simp) ?_
    refine AllReadyH.cons (o := ⟨some 27, _, _, _, _, _⟩) rfl (fun Kr hKr => ?_) (AllReadyH.cons (o := ⟨some 5, _, _, _, _, _⟩) rfl (fun Kr hKr => ?_) AllReadyH.nil)
    · skip
      -- operation 9: a call
      go_simp
      refine (hr A4 n4 c4 _ HL4.out).mono ?_
      rintro e V9 ⟨rfl, hx⟩
      try replace HAL := Lib.hid (HAL.out.below hx)
      show Kr _ _
      refine hKr.out _ _ ?_ (fun _ => ?_)
      · exact since_trans hS hx
      clear hKr Kr
      replace hS : Since wz V9 := since_trans hS hx
      try simp only [Act.put, List.setIfInBounds_toArray, List.set_cons_zero, List.set_cons_succ]
      refine wpAnyH_take (i := 10) (oi := ⟨some 17, _, _, _, _, _⟩) (v := ?_) rfl (by kernel_rfl) (by kernel_rfl) (by kernel_rfl) (fun _ _ _ h => h) (Or.inl ⟨by rfl, ?_⟩) hS ?_
      rotate_left
      · intro W hW; go_simp; with_reducible rfl
      try simp only [Act.put, List.setIfInBounds_toArray, List.set_cons_zero, List.set_cons_succ]
      refine wpAnyH_take (i := 11) (oi := ⟨some 28, _, _, _, _, _⟩) (v := ?_) rfl (by kernel_rfl) (by kernel_rfl) (by kernel_rfl) (fun _ _ _ h => h) (Or.inl ⟨by rfl, ?_⟩) hS ?_
      rotate_left
      · intro W hW; go_simp; with_reducible rfl
      try simp only [Act.put, List.setIfInBounds_toArray, List.set_cons_zero, List.set_cons_succ]
      refine wpAnyH_take (i := 12) (oi := ⟨some 29, _, _, _, _, _⟩) (v := ?_) rfl (by kernel_rfl) (by kernel_rfl) (by kernel_rfl) (fun _ _ _ h => h) (Or.inl ⟨by rfl, ?_⟩) hS ?_
      rotate_left
      · intro W hW; go_simp; with_reducible rfl
      try simp only [Act.put, List.setIfInBounds_toArray, List.set_cons_zero, List.set_cons_succ]
      refine wpAnyH_ready (rs := [13]) (by kernel_rfl) (by simp) ?_
      refine AllReadyH.cons (o := ⟨some 5, _, _, _, _, _⟩) rfl (fun Kr hKr => ?_) AllReadyH.nil
      -- operation 13: a step
      try rw [if_pos (by kernel_rfl)]
      refine wp_alloc_bk 63 rfl (spC 0 0) (by kernel_rfl) ?_
      intro VA gb hbx hx hle
      have HAL : Hid (Bk VA gb (spC 0 0) 63) := hbx
      have HLE := Lib.hid (Nat.le_trans hS.size hle)
      try replace HL4 := Lib.hid (HL4.out.below hx)
      show Kr _ _
      refine hKr.out _ _ ?_ (fun _ => ?_)
      · exact since_trans hS hx
      clear hKr Kr
      replace hS : Since wz VA := since_trans hS hx
      try simp only [Act.put, List.setIfInBounds_toArray, List.set_cons_zero, List.set_cons_succ]
      refine wpAnyH_ready (rs := [14]) (by kernel_rfl) (by simp) ?_
      refine AllReadyH.cons (o := ⟨none, _, _, _, _, _⟩) rfl (fun Kr hKr => ?_) AllReadyH.nil
      -- operation 14: a step
      try rw [if_pos (by kernel_rfl)]
      refine wp_store_bk 63 _ _ rfl gb (spC rl rh) rfl rfl 63 (spC 0 0) HAL.out (by kernel_rfl) rfl (by simp [Value.oneCell']) ?_
      intro VS hbx hg9
      have HBX : Hid (Bk VS gb (spC rl rh) 63) := hbx
      show Kr _ _
      refine hKr.out _ _ ?_ (fun _ => ?_)
      · exact Below.grown hS hg9 hS.size (fun q e => by injection e with e; have := HLE.out; omega)
      clear hKr Kr
      replace hS : Since wz VS := Below.grown hS hg9 hS.size (fun q e => by injection e with e; have := HLE.out; omega)
      try simp only [Act.put]
      refine wpAnyH_take (i := 15) (oi := ⟨some 6, _, _, _, _, _⟩) (v := ?_) rfl (by kernel_rfl) (by kernel_rfl) (by kernel_rfl) (fun _ _ _ h => h) (Or.inl ⟨by rfl, ?_⟩) hS ?_
      rotate_left
      · intro W hW; go_simp; with_reducible rfl
      try simp only [Act.put, List.setIfInBounds_toArray, List.set_cons_zero, List.set_cons_succ]
      refine wpAnyH_done (by kernel_rfl) ?_ _
      have HS := Lib.hid hS
      have HZS := Lib.hid (HZ.out.below hS)
      clear hS hs hs2 hr X0 X1 X2
      have y0 := HBX.out.s0
      have y1 := HBX.out.s1
      have z0 := HZS.out.s0
      have z1 := HZS.out.s1
      have f0 := HZS.out.fr 0
      have f1 := HZS.out.fr 1
      go_wp2_with fail
      refine bodyPost_ret (v := spV rl rh) (by rw [results_cell_one rfl]; go_simp; first | done | exact ⟨rfl, rfl⟩) rfl ⟨by rw [HE.out], (((HB.out.trans (HS.out.mono HB.out.size)).setCell (show w.heap.size ≤ w.heap.size + 1 from by omega) _).setCell (show w.heap.size ≤ w.heap.size + 1 from by omega) _)⟩
    · skip
      -- operation 13: a step
      try rw [if_pos (by kernel_rfl)]
      refine wp_alloc_bk 63 rfl (spC 0 0) (by kernel_rfl) ?_
      intro VA gb hbx hx hle
      have HAL : Hid (Bk VA gb (spC 0 0) 63) := hbx
      have HLE := Lib.hid (Nat.le_trans hS.size hle)
      try replace HL4 := Lib.hid (HL4.out.below hx)
      show Kr _ _
      refine hKr.out _ _ ?_ (fun _ => ?_)
      · exact since_trans hS hx
      clear hKr Kr
      replace hS : Since wz VA := since_trans hS hx
      try simp only [Act.put, List.setIfInBounds_toArray, List.set_cons_zero, List.set_cons_succ]
      refine wpAnyH_ready (rs := [9]) (by kernel_rfl) (by simp) ?_
      refine AllReadyH.cons (o := ⟨some 27, _, _, _, _, _⟩) rfl (fun Kr hKr => ?_) AllReadyH.nil
      -- operation 9: a call
      go_simp
      refine (hr A4 n4 c4 _ HL4.out).mono ?_
      rintro e V9 ⟨rfl, hx⟩
      try replace HAL := Lib.hid (HAL.out.below hx)
      show Kr _ _
      refine hKr.out _ _ ?_ (fun _ => ?_)
      · exact since_trans hS hx
      clear hKr Kr
      replace hS : Since wz V9 := since_trans hS hx
      try simp only [Act.put, List.setIfInBounds_toArray, List.set_cons_zero, List.set_cons_succ]
      refine wpAnyH_take (i := 10) (oi := ⟨some 17, _, _, _, _, _⟩) (v := ?_) rfl (by kernel_rfl) (by kernel_rfl) (by kernel_rfl) (fun _ _ _ h => h) (Or.inl ⟨by rfl, ?_⟩) hS ?_
      rotate_left
      · intro W hW; go_simp; with_reducible rfl
      try simp only [Act.put, List.setIfInBounds_toArray, List.set_cons_zero, List.set_cons_succ]
      refine wpAnyH_take (i := 11) (oi := ⟨some 28, _, _, _, _, _⟩) (v := ?_) rfl (by kernel_rfl) (by kernel_rfl) (by kernel_rfl) (fun _ _ _ h => h) (Or.inl ⟨by rfl, ?_⟩) hS ?_
      rotate_left
      · intro W hW; go_simp; with_reducible rfl
      try simp only [Act.put, List.setIfInBounds_toArray, List.set_cons_zero, List.set_cons_succ]
      refine wpAnyH_take (i := 12) (oi := ⟨some 29, _, _, _, _, _⟩) (v := ?_) rfl (by kernel_rfl) (by kernel_rfl) (by kernel_rfl) (fun _ _ _ h => h) (Or.inl ⟨by rfl, ?_⟩) hS ?_
      rotate_left
      · intro W hW; go_simp; with_reducible rfl
      try simp only [Act.put, List.setIfInBounds_toArray, List.set_cons_zero, List.set_cons_succ]
      refine wpAnyH_ready (rs := [14]) (by kernel_rfl) (by simp) ?_
      refine AllReadyH.cons (o := ⟨none, _, _, _, _, _⟩) rfl (fun Kr hKr => ?_) AllReadyH.nil
      -- operation 14: a step
      try rw [if_pos (by kernel_rfl)]
      refine wp_store_bk 63 _ _ rfl gb (spC rl rh) rfl rfl 63 (spC 0 0) HAL.out (by kernel_rfl) rfl (by simp [Value.oneCell']) ?_
      intro VS hbx hg9
      have HBX : Hid (Bk VS gb (spC rl rh) 63) := hbx
      show Kr _ _
      refine hKr.out _ _ ?_ (fun _ => ?_)
      · exact Below.grown hS hg9 hS.size (fun q e => by injection e with e; have := HLE.out; omega)
      clear hKr Kr
      replace hS : Since wz VS := Below.grown hS hg9 hS.size (fun q e => by injection e with e; have := HLE.out; omega)
      try simp only [Act.put]
      refine wpAnyH_take (i := 15) (oi := ⟨some 6, _, _, _, _, _⟩) (v := ?_) rfl (by kernel_rfl) (by kernel_rfl) (by kernel_rfl) (fun _ _ _ h => h) (Or.inl ⟨by rfl, ?_⟩) hS ?_
      rotate_left
      · intro W hW; go_simp; with_reducible rfl
      try simp only [Act.put, List.setIfInBounds_toArray, List.set_cons_zero, List.set_cons_succ]
      refine wpAnyH_done (by kernel_rfl) ?_ _
      have HS := Lib.hid hS
      have HZS := Lib.hid (HZ.out.below hS)
      clear hS hs hs2 hr X0 X1 X2
      have y0 := HBX.out.s0
      have y1 := HBX.out.s1
      have z0 := HZS.out.s0
      have z1 := HZS.out.s1
      have f0 := HZS.out.fr 0
      have f1 := HZS.out.fr 1
      go_wp2_with fail
      refine bodyPost_ret (v := spV rl rh) (by rw [results_cell_one rfl]; go_simp; first | done | exact ⟨rfl, rfl⟩) rfl ⟨by rw [HE.out], (((HB.out.trans (HS.out.mono HB.out.size)).setCell (show w.heap.size ≤ w.heap.size + 1 from by omega) _).setCell (show w.heap.size ≤ w.heap.size + 1 from by omega) _)⟩
  · skip
    -- operation 13: a step
    try rw [if_pos (by kernel_rfl)]
    refine wp_alloc_bk 63 rfl (spC 0 0) (by kernel_rfl) ?_
    intro VA gb hbx hx hle
    have HAL : Hid (Bk VA gb (spC 0 0) 63) := hbx
    have HLE := Lib.hid (Nat.le_trans hS.size hle)
    try replace HL4 := Lib.hid (HL4.out.below hx)
    show Kr _ _
    refine hKr.out _ _ ?_ (fun _ => ?_)
    · exact since_trans hS hx
    clear hKr Kr
    replace hS : Since wz VA := since_trans hS hx
    try simp only [Act.put, List.setIfInBounds_toArray, List.set_cons_zero, List.set_cons_succ]
    refine wpAnyH_ready (rs := [8]) (by kernel_rfl) (by simp) ?_
    refine AllReadyH.cons (o := ⟨some 26, _, _, _, _, _⟩) rfl (fun Kr hKr => ?_) AllReadyH.nil
    -- operation 8: a call
    go_simp
    refine (hs2 _ hS).mono ?_
    rintro e V8 ⟨lv, rfl, hown, hx, hsz⟩
    obtain ⟨A4, n4, c4, e4, en4, hl4⟩ := own_ls hown HSO.out
    subst e4
    have HL4 := Lib.hid hl4
    clear hown en4 hl4 hsz
    try replace HAL := Lib.hid (HAL.out.below hx)
    show Kr _ _
    refine hKr.out _ _ ?_ (fun _ => ?_)
    · exact since_trans hS hx
    clear hKr Kr
    replace hS : Since wz V8 := since_trans hS hx
    try simp only [Act.put, List.setIfInBounds_toArray, List.set_cons_zero, List.set_cons_succ]
    refine wpAnyH_ready (rs := [9]) (by kernel_rfl) (by simp) ?_
    refine AllReadyH.cons (o := ⟨some 27, _, _, _, _, _⟩) rfl (fun Kr hKr => ?_) AllReadyH.nil
    -- operation 9: a call
    go_simp
    refine (hr A4 n4 c4 _ HL4.out).mono ?_
    rintro e V9 ⟨rfl, hx⟩
    try replace HAL := Lib.hid (HAL.out.below hx)
    show Kr _ _
    refine hKr.out _ _ ?_ (fun _ => ?_)
    · exact since_trans hS hx
    clear hKr Kr
    replace hS : Since wz V9 := since_trans hS hx
    try simp only [Act.put, List.setIfInBounds_toArray, List.set_cons_zero, List.set_cons_succ]
    refine wpAnyH_take (i := 10) (oi := ⟨some 17, _, _, _, _, _⟩) (v := ?_) rfl (by kernel_rfl) (by kernel_rfl) (by kernel_rfl) (fun _ _ _ h => h) (Or.inl ⟨by rfl, ?_⟩) hS ?_
    rotate_left
    · intro W hW; go_simp; with_reducible rfl
    try simp only [Act.put, List.setIfInBounds_toArray, List.set_cons_zero, List.set_cons_succ]
    refine wpAnyH_take (i := 11) (oi := ⟨some 28, _, _, _, _, _⟩) (v := ?_) rfl (by kernel_rfl) (by kernel_rfl) (by kernel_rfl) (fun _ _ _ h => h) (Or.inl ⟨by rfl, ?_⟩) hS ?_
    rotate_left
    · intro W hW; go_simp; with_reducible rfl
    try simp only [Act.put, List.setIfInBounds_toArray, List.set_cons_zero, List.set_cons_succ]
    refine wpAnyH_take (i := 12) (oi := ⟨some 29, _, _, _, _, _⟩) (v := ?_) rfl (by kernel_rfl) (by kernel_rfl) (by kernel_rfl) (fun _ _ _ h => h) (Or.inl ⟨by rfl, ?_⟩) hS ?_
    rotate_left
    · intro W hW; go_simp; with_reducible rfl
    try simp only [Act.put, List.setIfInBounds_toArray, List.set_cons_zero, List.set_cons_succ]
    refine wpAnyH_ready (rs := [14]) (by kernel_rfl) (by simp) ?_
    refine AllReadyH.cons (o := ⟨none, _, _, _, _, _⟩) rfl (fun Kr hKr => ?_) AllReadyH.nil
    -- operation 14: a step
    try rw [if_pos (by kernel_rfl)]
    refine wp_store_bk 63 _ _ rfl gb (spC rl rh) rfl rfl 63 (spC 0 0) HAL.out (by kernel_rfl) rfl (by simp [Value.oneCell']) ?_
    intro VS hbx hg9
    have HBX : Hid (Bk VS gb (spC rl rh) 63) := hbx
    show Kr _ _
    refine hKr.out _ _ ?_ (fun _ => ?_)
    · exact Below.grown hS hg9 hS.size (fun q e => by injection e with e; have := HLE.out; omega)
    clear hKr Kr
    replace hS : Since wz VS := Below.grown hS hg9 hS.size (fun q e => by injection e with e; have := HLE.out; omega)
    try simp only [Act.put]
    refine wpAnyH_take (i := 15) (oi := ⟨some 6, _, _, _, _, _⟩) (v := ?_) rfl (by kernel_rfl) (by kernel_rfl) (by kernel_rfl) (fun _ _ _ h => h) (Or.inl ⟨by rfl, ?_⟩) hS ?_
    rotate_left
    · intro W hW; go_simp; with_reducible rfl
    try simp only [Act.put, List.setIfInBounds_toArray, List.set_cons_zero, List.set_cons_succ]
    refine wpAnyH_done (by kernel_rfl) ?_ _
    have HS := Lib.hid hS
    have HZS := Lib.hid (HZ.out.below hS)
    clear hS hs hs2 hr X0 X1 X2
    have y0 := HBX.out.s0
    have y1 := HBX.out.s1
    have z0 := HZS.out.s0
    have z1 := HZS.out.s1
    have f0 := HZS.out.fr 0
    have f1 := HZS.out.fr 1
    go_wp2_with fail
    refine bodyPost_ret (v := spV rl rh) (by rw [results_cell_one rfl]; go_simp; first | done | exact ⟨rfl, rfl⟩) rfl ⟨by rw [HE.out], (((HB.out.trans (HS.out.mono HB.out.size)).setCell (show w.heap.size ≤ w.heap.size + 1 from by omega) _).setCell (show w.heap.size ≤ w.heap.size + 1 from by omega) _)⟩
end Go.Proofs.Ytogngghfdcpeaaa
