/-
  stays, Fits and Room: what the program answers of any span, number and ints.
-/
import Derived.Test.YtogngghfdcpeaaaSr
namespace Go.Proofs.Ytogngghfdcpeaaa
set_option maxRecDepth 100000
set_option linter.unusedVariables false
set_option linter.unusedSimpArgs false
open Go.RowKit

theorem fits_eq (a b v : Int) (l : List Int) : fitsB a b v l = (decide (reachE v l = 0) && (holdsB a b (reachL v l) && holdsB a b (reachH v l))) := by
  unfold fitsB holdsB
  by_cases h : reachE v l = 0
  · obtain ⟨h1, h2⟩ := reachLH_yes h
    rw [h1, h2]
    have h3 := lo_le v l
    have h4 := le_hi v l
    rw [Bool.eq_iff_iff]
    simp only [decide_eq_true_eq, Bool.and_eq_true]
    omega
  · simp [h]
abbrev stV (a b v : Int) (l : List Int) : Value := .tuple #[spV (reachL v l) (reachH v l), .bool (fitsB a b v l)]

set_option maxHeartbeats 1000000 in
theorem stays_any (a b v : Int) (hv : okI v) (A : Option Addr) (n c : Nat) (l : List Int) (w : World) (hl : Ls w A n l) :
    Calls Try.prog 75 #[spV a b, .int .i64 v, .slice A n c] w fun e w' => e = .returned (stV a b v l) ∧ Below w.heap.size w w' := by
  have HF := Lib.hid (fits_eq a b v l)
  have HRC := Lib.hid (reach_cases v l)
  have HX := Lib.hid ((Bk.new w (spC a b) 53).al (.cells (spC 0 0) 53))
  have HY := Bk.new (w.alloc (.cells (spC a b) 53)) (spC 0 0) 53
  rw [size_al] at HY
  have HY := Lib.hid HY
  have HB := Lib.hid (below_two (below_new w (.cells (spC a b) 53)) (below_new _ (.cells (spC 0 0) 53)))
  have HL := Lib.hid hl
  have hr := fun V hV => reach_any v hv A n c l V (HL.out.below hV)
  have hh1 := holds_any a b (reachL v l)
  have hh2 := holds_any a b (reachH v l)
  clear hl hv
  unfold stV
  unfold reV at hr
  generalize reachE v l = re at *
  generalize reachL v l = rl at *
  generalize reachH v l = rh at *
  generalize fitsB a b v l = fb at *
  generalize holdsB a b rl = hb1 at *
  generalize holdsB a b rh = hb2 at *
  go_enter Try.func75, Try.ntmps75
  go_wp2_with fail
  refine (hr _ HB.out).mono ?_
  rintro e w1 ⟨rfl, hbb1⟩
  have HX1 := Lib.hid (HX.out.below hbb1)
  have HY1 := Lib.hid (HY.out.below hbb1)
  have HB1 := Lib.hid (below_two HB.out hbb1)
  have HZ2 := Lib.hid (Bk.new w1 (spC rl rh) 53)
  have HX2 := Lib.hid (HX1.out.al (.cells (spC rl rh) 53))
  have HY2 := Lib.hid (HY1.out.al (.cells (spC rl rh) 53))
  have HB2 := Lib.hid (below_two HB1.out (below_new w1 (.cells (spC rl rh) 53)))
  have HS2 := Lib.hid (show w.heap.size + 1 < w1.heap.size from HY1.out.lt)
  clear hbb1 HX HY HB HX1 HY1 HB1 hr
  go_upto_region 2 with fail
  generalize w1.heap.size = gz at *
  generalize w1.alloc (.cells #[.int .i64 rl, .int .i64 rh] 53) = wz at *
  have HYd := Lib.hid (HY2.out.below (V := World.drew wz) ((Below.refl _ _).drew))
  have HBd := Lib.hid (HB2.out.drew)
  have x0 : ∀ V, Turn (fun q => q = w.heap.size + 1) wz V → V.cell? ⟨w.heap.size, 0, none⟩ = some (.int .i64 a) := fun V hV => (HX2.out.turn hV (by omega)).s0
  have x1 : ∀ V, Turn (fun q => q = w.heap.size + 1) wz V → V.cell? ⟨w.heap.size, 1, none⟩ = some (.int .i64 b) := fun V hV => (HX2.out.turn hV (by omega)).s1
  have z0 : ∀ V, Turn (fun q => q = w.heap.size + 1) wz V → V.cell? ⟨gz, 0, none⟩ = some (.int .i64 rl) := fun V hV => (HZ2.out.turn hV (by have := HS2.out; omega)).s0
  have z1 : ∀ V, Turn (fun q => q = w.heap.size + 1) wz V → V.cell? ⟨gz, 1, none⟩ = some (.int .i64 rh) := fun V hV => (HZ2.out.turn hV (by have := HS2.out; omega)).s1
  rcases Classical.em (re = 0) with h0 | h0
  · subst h0
    cases hb1
    · skip
      refine wp_region_turn (X := (fun q => q = w.heap.size + 1)) (by kernel_rfl) ?_
      have hS : Turn (fun q => q = w.heap.size + 1) wz (World.drew wz) := (Turn.refl _ _).drew
      refine wpAnyH_take (i := 0) (oi := ⟨some 16, _, _, _, _, _⟩) (v := ?_) rfl (by kernel_rfl) (by kernel_rfl) (by kernel_rfl) (fun _ _ _ h => h) (Or.inl ⟨by rfl, ?_⟩) hS ?_
      rotate_left
      · intro W hW; go_simp; with_reducible rfl
      try simp only [Act.put, List.setIfInBounds_toArray, List.set_cons_zero, List.set_cons_succ]
      refine wpAnyH_take (i := 1) (oi := ⟨some 17, _, _, _, _, _⟩) (v := ?_) rfl (by kernel_rfl) (by kernel_rfl) (by kernel_rfl) (fun _ _ _ h => h) (Or.inl ⟨by rfl, ?_⟩) hS ?_
      rotate_left
      · intro W hW; go_simp; with_reducible rfl
      try simp only [Act.put, List.setIfInBounds_toArray, List.set_cons_zero, List.set_cons_succ]
      refine wpAnyH_take (i := 2) (oi := ⟨some 18, _, _, _, _, _⟩) (v := ?_) rfl (by kernel_rfl) (by kernel_rfl) (by kernel_rfl) (fun _ _ _ h => h) (Or.inl ⟨by rfl, ?_⟩) hS ?_
      rotate_left
      · intro W hW; go_simp; with_reducible rfl
      try simp only [Act.put, List.setIfInBounds_toArray, List.set_cons_zero, List.set_cons_succ]
      refine wpAnyH_take (i := 3) (oi := ⟨some 19, _, _, _, _, _⟩) (v := ?_) rfl (by kernel_rfl) (by kernel_rfl) (by kernel_rfl) (fun _ _ _ h => h) (Or.inl ⟨by rfl, ?_⟩) hS ?_
      rotate_left
      · intro W hW; go_simp; with_reducible rfl
      try simp only [Act.put, List.setIfInBounds_toArray, List.set_cons_zero, List.set_cons_succ]
      refine wpAnyH_take (i := 4) (oi := ⟨some 20, _, _, _, _, _⟩) (v := ?_) rfl (by kernel_rfl) (by kernel_rfl) (by kernel_rfl) (fun _ _ _ h => h) (Or.inl ⟨by rfl, ?_⟩) hS ?_
      rotate_left
      · intro W hW; go_simp; with_reducible rfl
      try simp only [Act.put, List.setIfInBounds_toArray, List.set_cons_zero, List.set_cons_succ]
      refine wpAnyH_take (i := 5) (oi := ⟨some 21, _, _, _, _, _⟩) (v := ?_) rfl (by kernel_rfl) (by kernel_rfl) (by kernel_rfl) (fun _ _ _ h => h) (Or.inl ⟨by rfl, ?_⟩) hS ?_
      rotate_left
      · intro W hW; go_simp; with_reducible rfl
      try simp only [Act.put, List.setIfInBounds_toArray, List.set_cons_zero, List.set_cons_succ]
      refine wpAnyH_take (i := 6) (oi := ⟨some 22, _, _, _, _, _⟩) (v := ?_) rfl (by kernel_rfl) (by kernel_rfl) (by kernel_rfl) (fun _ _ _ h => h) (Or.inl ⟨by rfl, ?_⟩) hS ?_
      rotate_left
      · intro W hW; go_simp; with_reducible rfl
      try simp only [Act.put, List.setIfInBounds_toArray, List.set_cons_zero, List.set_cons_succ]
      refine wpAnyH_ready (rs := [7]) (by kernel_rfl) (by simp) ?_
      refine AllReadyH.cons (o := ⟨some 23, _, _, _, _, _⟩) rfl (fun Kr hKr => ?_) AllReadyH.nil
      -- operation 7: a call
      go_simp
      refine (hh1 _).mono ?_
      rintro e w3 ⟨rfl, hb3⟩
      show Kr _ _
      refine hKr.out _ _ ?_ (fun _ => ?_)
      · exact Turn.trans hS (Turn.ofBelow hb3)
      clear hKr Kr
      replace hS : Turn (fun q => q = w.heap.size + 1) wz w3 := Turn.trans hS (Turn.ofBelow hb3)
      try simp only [Act.put, List.setIfInBounds_toArray, List.set_cons_zero, List.set_cons_succ]
      refine wpAnyH_take (i := 8) (oi := ⟨some 24, _, _, _, _, _⟩) (v := ?_) rfl (by kernel_rfl) (by kernel_rfl) (by kernel_rfl) (fun _ _ _ h => h) (Or.inl ⟨by rfl, ?_⟩) hS ?_
      rotate_left
      · intro W hW; go_simp; with_reducible rfl
      try simp only [Act.put, List.setIfInBounds_toArray, List.set_cons_zero, List.set_cons_succ]
      refine wpAnyH_take (i := 9) (oi := ⟨some 25, _, _, _, _, _⟩) (v := ?_) rfl (by kernel_rfl) (by kernel_rfl) (by kernel_rfl) (fun _ _ _ h => h) (Or.inl ⟨by rfl, ?_⟩) hS ?_
      rotate_left
      · intro W hW; go_simp; with_reducible rfl
      try simp only [Act.put, List.setIfInBounds_toArray, List.set_cons_zero, List.set_cons_succ]
      refine wpAnyH_take (i := 10) (oi := ⟨some 26, _, _, _, _, _⟩) (v := undef) rfl (by kernel_rfl) (by kernel_rfl) (by kernel_rfl) (fun _ _ _ h => h) (Or.inr ⟨by rfl, rfl⟩) hS ?_
      try simp only [Act.put, List.setIfInBounds_toArray, List.set_cons_zero, List.set_cons_succ]
      refine wpAnyH_take (i := 11) (oi := ⟨some 27, _, _, _, _, _⟩) (v := undef) rfl (by kernel_rfl) (by kernel_rfl) (by kernel_rfl) (fun _ _ _ h => h) (Or.inr ⟨by rfl, rfl⟩) hS ?_
      try simp only [Act.put, List.setIfInBounds_toArray, List.set_cons_zero, List.set_cons_succ]
      refine wpAnyH_take (i := 12) (oi := ⟨some 28, _, _, _, _, _⟩) (v := undef) rfl (by kernel_rfl) (by kernel_rfl) (by kernel_rfl) (fun _ _ _ h => h) (Or.inr ⟨by rfl, rfl⟩) hS ?_
      try simp only [Act.put, List.setIfInBounds_toArray, List.set_cons_zero, List.set_cons_succ]
      refine wpAnyH_take (i := 13) (oi := ⟨some 29, _, _, _, _, _⟩) (v := undef) rfl (by kernel_rfl) (by kernel_rfl) (by kernel_rfl) (fun _ _ _ h => h) (Or.inr ⟨by rfl, rfl⟩) hS ?_
      try simp only [Act.put, List.setIfInBounds_toArray, List.set_cons_zero, List.set_cons_succ]
      refine wpAnyH_take (i := 14) (oi := ⟨some 30, _, _, _, _, _⟩) (v := ?_) rfl (by kernel_rfl) (by kernel_rfl) (by kernel_rfl) (fun _ _ _ h => h) (Or.inl ⟨by rfl, ?_⟩) hS ?_
      rotate_left
      · intro W hW; go_simp; with_reducible rfl
      try simp only [Act.put, List.setIfInBounds_toArray, List.set_cons_zero, List.set_cons_succ]
      refine wpAnyH_ready (rs := [15]) (by kernel_rfl) (by simp) ?_
      refine AllReadyH.cons (o := ⟨none, _, _, _, _, _⟩) rfl (fun Kr hKr => ?_) AllReadyH.nil
      -- operation 15: a step
      refine wp_store_bk 53 _ _ rfl (w.heap.size + 1) (spC rl rh) rfl rfl 53 (spC 0 0) (HYd.out.below hb3) (by kernel_rfl) rfl (by simp [Value.oneCell']) ?_
      intro w9 hk9 hg9
      show Kr _ _
      refine hKr.out _ _ ?_ (fun _ => ?_)
      · exact Turn.trans hS (Turn.grown (Turn.refl _ _) hg9 (fun j e => by injection e with e; exact .inl e.symm))
      clear hKr Kr
      replace hS : Turn (fun q => q = w.heap.size + 1) wz w9 := Turn.trans hS (Turn.grown (Turn.refl _ _) hg9 (fun j e => by injection e with e; exact .inl e.symm))
      try simp only [Act.put, List.setIfInBounds_toArray, List.set_cons_zero, List.set_cons_succ]
      refine wpAnyH_take (i := 16) (oi := ⟨some 7, _, _, _, _, _⟩) (v := ?_) rfl (by kernel_rfl) (by kernel_rfl) (by kernel_rfl) (fun _ _ _ h => h) (Or.inl ⟨by rfl, ?_⟩) hS ?_
      rotate_left
      · intro W hW; go_simp; with_reducible rfl
      try simp only [Act.put, List.setIfInBounds_toArray, List.set_cons_zero, List.set_cons_succ]
      refine wpAnyH_done (by kernel_rfl) ?_ _
      have HB9 := Lib.hid (Below.grown (HBd.out.trans (hb3.mono HBd.out.size)) hg9 (HBd.out.trans (hb3.mono HBd.out.size)).size (fun q e => by injection e with e; omega))
      have y0 := Bk.s0 hk9
      have y1 := Bk.s1 hk9
      have HFB := Lib.hid (show fb = false from by rw [HF.out]; rfl)
      clear hk9 hg9
      go_wp2_with fail
      exact bodyPost_ret (v := .tuple #[spV rl rh, .bool false]) (by rw [results_cell_tmp rfl]; go_simp; first | done | exact ⟨rfl, rfl⟩) rfl ⟨by rw [HFB.out], HB9.out⟩
    · skip
      refine wp_region_turn (X := (fun q => q = w.heap.size + 1)) (by kernel_rfl) ?_
      have hS : Turn (fun q => q = w.heap.size + 1) wz (World.drew wz) := (Turn.refl _ _).drew
      refine wpAnyH_take (i := 0) (oi := ⟨some 16, _, _, _, _, _⟩) (v := ?_) rfl (by kernel_rfl) (by kernel_rfl) (by kernel_rfl) (fun _ _ _ h => h) (Or.inl ⟨by rfl, ?_⟩) hS ?_
      rotate_left
      · intro W hW; go_simp; with_reducible rfl
      try simp only [Act.put, List.setIfInBounds_toArray, List.set_cons_zero, List.set_cons_succ]
      refine wpAnyH_take (i := 1) (oi := ⟨some 17, _, _, _, _, _⟩) (v := ?_) rfl (by kernel_rfl) (by kernel_rfl) (by kernel_rfl) (fun _ _ _ h => h) (Or.inl ⟨by rfl, ?_⟩) hS ?_
      rotate_left
      · intro W hW; go_simp; with_reducible rfl
      try simp only [Act.put, List.setIfInBounds_toArray, List.set_cons_zero, List.set_cons_succ]
      refine wpAnyH_take (i := 2) (oi := ⟨some 18, _, _, _, _, _⟩) (v := ?_) rfl (by kernel_rfl) (by kernel_rfl) (by kernel_rfl) (fun _ _ _ h => h) (Or.inl ⟨by rfl, ?_⟩) hS ?_
      rotate_left
      · intro W hW; go_simp; with_reducible rfl
      try simp only [Act.put, List.setIfInBounds_toArray, List.set_cons_zero, List.set_cons_succ]
      refine wpAnyH_take (i := 3) (oi := ⟨some 19, _, _, _, _, _⟩) (v := ?_) rfl (by kernel_rfl) (by kernel_rfl) (by kernel_rfl) (fun _ _ _ h => h) (Or.inl ⟨by rfl, ?_⟩) hS ?_
      rotate_left
      · intro W hW; go_simp; with_reducible rfl
      try simp only [Act.put, List.setIfInBounds_toArray, List.set_cons_zero, List.set_cons_succ]
      refine wpAnyH_take (i := 4) (oi := ⟨some 20, _, _, _, _, _⟩) (v := ?_) rfl (by kernel_rfl) (by kernel_rfl) (by kernel_rfl) (fun _ _ _ h => h) (Or.inl ⟨by rfl, ?_⟩) hS ?_
      rotate_left
      · intro W hW; go_simp; with_reducible rfl
      try simp only [Act.put, List.setIfInBounds_toArray, List.set_cons_zero, List.set_cons_succ]
      refine wpAnyH_take (i := 5) (oi := ⟨some 21, _, _, _, _, _⟩) (v := ?_) rfl (by kernel_rfl) (by kernel_rfl) (by kernel_rfl) (fun _ _ _ h => h) (Or.inl ⟨by rfl, ?_⟩) hS ?_
      rotate_left
      · intro W hW; go_simp; with_reducible rfl
      try simp only [Act.put, List.setIfInBounds_toArray, List.set_cons_zero, List.set_cons_succ]
      refine wpAnyH_take (i := 6) (oi := ⟨some 22, _, _, _, _, _⟩) (v := ?_) rfl (by kernel_rfl) (by kernel_rfl) (by kernel_rfl) (fun _ _ _ h => h) (Or.inl ⟨by rfl, ?_⟩) hS ?_
      rotate_left
      · intro W hW; go_simp; with_reducible rfl
      try simp only [Act.put, List.setIfInBounds_toArray, List.set_cons_zero, List.set_cons_succ]
      refine wpAnyH_ready (rs := [7]) (by kernel_rfl) (by simp) ?_
      refine AllReadyH.cons (o := ⟨some 23, _, _, _, _, _⟩) rfl (fun Kr hKr => ?_) AllReadyH.nil
      -- operation 7: a call
      go_simp
      refine (hh1 _).mono ?_
      rintro e w3 ⟨rfl, hb3⟩
      show Kr _ _
      refine hKr.out _ _ ?_ (fun _ => ?_)
      · exact Turn.trans hS (Turn.ofBelow hb3)
      clear hKr Kr
      replace hS : Turn (fun q => q = w.heap.size + 1) wz w3 := Turn.trans hS (Turn.ofBelow hb3)
      try simp only [Act.put, List.setIfInBounds_toArray, List.set_cons_zero, List.set_cons_succ]
      refine wpAnyH_take (i := 8) (oi := ⟨some 24, _, _, _, _, _⟩) (v := ?_) rfl (by kernel_rfl) (by kernel_rfl) (by kernel_rfl) (fun _ _ _ h => h) (Or.inl ⟨by rfl, ?_⟩) hS ?_
      rotate_left
      · intro W hW; go_simp; with_reducible rfl
      try simp only [Act.put, List.setIfInBounds_toArray, List.set_cons_zero, List.set_cons_succ]
      refine wpAnyH_take (i := 9) (oi := ⟨some 25, _, _, _, _, _⟩) (v := ?_) rfl (by kernel_rfl) (by kernel_rfl) (by kernel_rfl) (fun _ _ _ h => h) (Or.inl ⟨by rfl, ?_⟩) hS ?_
      rotate_left
      · intro W hW; go_simp; with_reducible rfl
      try simp only [Act.put, List.setIfInBounds_toArray, List.set_cons_zero, List.set_cons_succ]
      refine wpAnyH_take (i := 10) (oi := ⟨some 26, _, _, _, _, _⟩) (v := ?_) rfl (by kernel_rfl) (by kernel_rfl) (by kernel_rfl) (fun _ _ _ h => h) (Or.inl ⟨by rfl, ?_⟩) hS ?_
      rotate_left
      · intro W hW; go_simp; with_reducible rfl
      try simp only [Act.put, List.setIfInBounds_toArray, List.set_cons_zero, List.set_cons_succ]
      refine wpAnyH_take (i := 11) (oi := ⟨some 27, _, _, _, _, _⟩) (v := ?_) rfl (by kernel_rfl) (by kernel_rfl) (by kernel_rfl) (fun _ _ _ h => h) (Or.inl ⟨by rfl, ?_⟩) hS ?_
      rotate_left
      · intro W hW; go_simp; with_reducible rfl
      try simp only [Act.put, List.setIfInBounds_toArray, List.set_cons_zero, List.set_cons_succ]
      refine wpAnyH_take (i := 12) (oi := ⟨some 28, _, _, _, _, _⟩) (v := ?_) rfl (by kernel_rfl) (by kernel_rfl) (by kernel_rfl) (fun _ _ _ h => h) (Or.inl ⟨by rfl, ?_⟩) hS ?_
      rotate_left
      · intro W hW; go_simp; with_reducible rfl
      try simp only [Act.put, List.setIfInBounds_toArray, List.set_cons_zero, List.set_cons_succ]
      refine wpAnyH_ready (rs := [13]) (by kernel_rfl) (by simp) ?_
      refine AllReadyH.cons (o := ⟨some 29, _, _, _, _, _⟩) rfl (fun Kr hKr => ?_) AllReadyH.nil
      -- operation 13: a call
      go_simp
      refine (hh2 _).mono ?_
      rintro e w4 ⟨rfl, hb4⟩
      show Kr _ _
      refine hKr.out _ _ ?_ (fun _ => ?_)
      · exact Turn.trans hS (Turn.ofBelow hb4)
      clear hKr Kr
      replace hS : Turn (fun q => q = w.heap.size + 1) wz w4 := Turn.trans hS (Turn.ofBelow hb4)
      try simp only [Act.put, List.setIfInBounds_toArray, List.set_cons_zero, List.set_cons_succ]
      refine wpAnyH_take (i := 14) (oi := ⟨some 30, _, _, _, _, _⟩) (v := ?_) rfl (by kernel_rfl) (by kernel_rfl) (by kernel_rfl) (fun _ _ _ h => h) (Or.inl ⟨by rfl, ?_⟩) hS ?_
      rotate_left
      · intro W hW; go_simp; with_reducible rfl
      try simp only [Act.put, List.setIfInBounds_toArray, List.set_cons_zero, List.set_cons_succ]
      refine wpAnyH_ready (rs := [15]) (by kernel_rfl) (by simp) ?_
      refine AllReadyH.cons (o := ⟨none, _, _, _, _, _⟩) rfl (fun Kr hKr => ?_) AllReadyH.nil
      -- operation 15: a step
      refine wp_store_bk 53 _ _ rfl (w.heap.size + 1) (spC rl rh) rfl rfl 53 (spC 0 0) ((HYd.out.below hb3).below hb4) (by kernel_rfl) rfl (by simp [Value.oneCell']) ?_
      intro w9 hk9 hg9
      show Kr _ _
      refine hKr.out _ _ ?_ (fun _ => ?_)
      · exact Turn.trans hS (Turn.grown (Turn.refl _ _) hg9 (fun j e => by injection e with e; exact .inl e.symm))
      clear hKr Kr
      replace hS : Turn (fun q => q = w.heap.size + 1) wz w9 := Turn.trans hS (Turn.grown (Turn.refl _ _) hg9 (fun j e => by injection e with e; exact .inl e.symm))
      try simp only [Act.put, List.setIfInBounds_toArray, List.set_cons_zero, List.set_cons_succ]
      refine wpAnyH_take (i := 16) (oi := ⟨some 7, _, _, _, _, _⟩) (v := ?_) rfl (by kernel_rfl) (by kernel_rfl) (by kernel_rfl) (fun _ _ _ h => h) (Or.inl ⟨by rfl, ?_⟩) hS ?_
      rotate_left
      · intro W hW; go_simp; with_reducible rfl
      try simp only [Act.put, List.setIfInBounds_toArray, List.set_cons_zero, List.set_cons_succ]
      refine wpAnyH_done (by kernel_rfl) ?_ _
      have HB9 := Lib.hid (Below.grown ((HBd.out.trans (hb3.mono HBd.out.size)).trans (hb4.mono (HBd.out.trans (hb3.mono HBd.out.size)).size)) hg9 ((HBd.out.trans (hb3.mono HBd.out.size)).trans (hb4.mono (HBd.out.trans (hb3.mono HBd.out.size)).size)).size (fun q e => by injection e with e; omega))
      have y0 := Bk.s0 hk9
      have y1 := Bk.s1 hk9
      have HFB := Lib.hid (show fb = hb2 from by rw [HF.out]; rfl)
      clear hk9 hg9
      go_wp2_with fail
      exact bodyPost_ret (v := .tuple #[spV rl rh, .bool hb2]) (by rw [results_cell_tmp rfl]; go_simp; first | done | exact ⟨rfl, rfl⟩) rfl ⟨by rw [HFB.out], HB9.out⟩
  · have hne : (re == 0) = false := by simpa using h0
    clear HRC
    refine wp_region_turn (X := (fun q => q = w.heap.size + 1)) (by kernel_rfl) ?_
    have hS : Turn (fun q => q = w.heap.size + 1) wz (World.drew wz) := (Turn.refl _ _).drew
    refine wpAnyH_take (i := 0) (oi := ⟨some 16, _, _, _, _, _⟩) (v := ?_) rfl (by kernel_rfl) (by kernel_rfl) (by kernel_rfl) (fun _ _ _ h => h) (Or.inl ⟨by rfl, ?_⟩) hS ?_
    rotate_left
    · intro W hW; go_simp; with_reducible rfl
    try simp only [Act.put, List.setIfInBounds_toArray, List.set_cons_zero, List.set_cons_succ]
    refine wpAnyH_take (i := 1) (oi := ⟨some 17, _, _, _, _, _⟩) (v := ?_) rfl (by kernel_rfl) (by kernel_rfl) (by kernel_rfl) (fun _ _ _ h => h) (Or.inl ⟨by rfl, ?_⟩) hS ?_
    rotate_left
    · intro W hW; go_simp; with_reducible rfl
    try simp only [Act.put, List.setIfInBounds_toArray, List.set_cons_zero, List.set_cons_succ]
    refine wpAnyH_take (i := 2) (oi := ⟨some 18, _, _, _, _, _⟩) (v := ?_) rfl (by kernel_rfl) (by kernel_rfl) (by kernel_rfl) (fun _ _ _ h => h) (Or.inl ⟨by rfl, ?_⟩) hS ?_
    rotate_left
    · intro W hW; go_simp; with_reducible rfl
    try simp only [Act.put, List.setIfInBounds_toArray, List.set_cons_zero, List.set_cons_succ]
    refine wpAnyH_take (i := 3) (oi := ⟨some 19, _, _, _, _, _⟩) (v := ?_) rfl (by kernel_rfl) (by kernel_rfl) (by kernel_rfl) (fun _ _ _ h => h) (Or.inl ⟨by rfl, ?_⟩) hS ?_
    rotate_left
    · intro W hW; go_simp; with_reducible rfl
    try simp only [Act.put, List.setIfInBounds_toArray, List.set_cons_zero, List.set_cons_succ]
    refine wpAnyH_take (i := 4) (oi := ⟨some 20, _, _, _, _, _⟩) (v := undef) rfl (by kernel_rfl) (by kernel_rfl) (by kernel_rfl) (fun _ _ _ h => h) (Or.inr ⟨by rfl, rfl⟩) hS ?_
    try simp only [Act.put, List.setIfInBounds_toArray, List.set_cons_zero, List.set_cons_succ]
    refine wpAnyH_take (i := 5) (oi := ⟨some 21, _, _, _, _, _⟩) (v := undef) rfl (by kernel_rfl) (by kernel_rfl) (by kernel_rfl) (fun _ _ _ h => h) (Or.inr ⟨by rfl, rfl⟩) hS ?_
    try simp only [Act.put, List.setIfInBounds_toArray, List.set_cons_zero, List.set_cons_succ]
    refine wpAnyH_take (i := 6) (oi := ⟨some 22, _, _, _, _, _⟩) (v := undef) rfl (by kernel_rfl) (by kernel_rfl) (by kernel_rfl) (fun _ _ _ h => h) (Or.inr ⟨by rfl, rfl⟩) hS ?_
    try simp only [Act.put, List.setIfInBounds_toArray, List.set_cons_zero, List.set_cons_succ]
    refine wpAnyH_take (i := 7) (oi := ⟨some 23, _, _, _, _, _⟩) (v := undef) rfl (by kernel_rfl) (by kernel_rfl) (by kernel_rfl) (fun _ _ _ h => h) (Or.inr ⟨by rfl, rfl⟩) hS ?_
    try simp only [Act.put, List.setIfInBounds_toArray, List.set_cons_zero, List.set_cons_succ]
    refine wpAnyH_take (i := 8) (oi := ⟨some 24, _, _, _, _, _⟩) (v := ?_) rfl (by kernel_rfl) (by kernel_rfl) (by kernel_rfl) (fun _ _ _ h => h) (Or.inl ⟨by rfl, ?_⟩) hS ?_
    rotate_left
    · intro W hW; go_simp; with_reducible rfl
    try simp only [Act.put, List.setIfInBounds_toArray, List.set_cons_zero, List.set_cons_succ]
    refine wpAnyH_take (i := 9) (oi := ⟨some 25, _, _, _, _, _⟩) (v := ?_) rfl (by kernel_rfl) (by kernel_rfl) (by kernel_rfl) (fun _ _ _ h => h) (Or.inl ⟨by rfl, ?_⟩) hS ?_
    rotate_left
    · intro W hW; go_simp; with_reducible rfl
    try simp only [Act.put, List.setIfInBounds_toArray, List.set_cons_zero, List.set_cons_succ]
    refine wpAnyH_take (i := 10) (oi := ⟨some 26, _, _, _, _, _⟩) (v := undef) rfl (by kernel_rfl) (by kernel_rfl) (by kernel_rfl) (fun _ _ _ h => h) (Or.inr ⟨by rfl, rfl⟩) hS ?_
    try simp only [Act.put, List.setIfInBounds_toArray, List.set_cons_zero, List.set_cons_succ]
    refine wpAnyH_take (i := 11) (oi := ⟨some 27, _, _, _, _, _⟩) (v := undef) rfl (by kernel_rfl) (by kernel_rfl) (by kernel_rfl) (fun _ _ _ h => h) (Or.inr ⟨by rfl, rfl⟩) hS ?_
    try simp only [Act.put, List.setIfInBounds_toArray, List.set_cons_zero, List.set_cons_succ]
    refine wpAnyH_take (i := 12) (oi := ⟨some 28, _, _, _, _, _⟩) (v := undef) rfl (by kernel_rfl) (by kernel_rfl) (by kernel_rfl) (fun _ _ _ h => h) (Or.inr ⟨by rfl, rfl⟩) hS ?_
    try simp only [Act.put, List.setIfInBounds_toArray, List.set_cons_zero, List.set_cons_succ]
    refine wpAnyH_take (i := 13) (oi := ⟨some 29, _, _, _, _, _⟩) (v := undef) rfl (by kernel_rfl) (by kernel_rfl) (by kernel_rfl) (fun _ _ _ h => h) (Or.inr ⟨by rfl, rfl⟩) hS ?_
    try simp only [Act.put, List.setIfInBounds_toArray, List.set_cons_zero, List.set_cons_succ]
    refine wpAnyH_take (i := 14) (oi := ⟨some 30, _, _, _, _, _⟩) (v := ?_) rfl (by kernel_rfl) (by kernel_rfl) (by kernel_rfl) (fun _ _ _ h => h) (Or.inl ⟨by rfl, ?_⟩) hS ?_
    rotate_left
    · intro W hW; go_simp; with_reducible rfl
    try simp only [Act.put, List.setIfInBounds_toArray, List.set_cons_zero, List.set_cons_succ]
    refine wpAnyH_ready (rs := [15]) (by kernel_rfl) (by simp) ?_
    refine AllReadyH.cons (o := ⟨none, _, _, _, _, _⟩) rfl (fun Kr hKr => ?_) AllReadyH.nil
    -- operation 15: a step
    refine wp_store_bk 53 _ _ rfl (w.heap.size + 1) (spC rl rh) rfl rfl 53 (spC 0 0) (HYd.out) (by kernel_rfl) rfl (by simp [Value.oneCell']) ?_
    intro w9 hk9 hg9
    show Kr _ _
    refine hKr.out _ _ ?_ (fun _ => ?_)
    · exact Turn.trans hS (Turn.grown (Turn.refl _ _) hg9 (fun j e => by injection e with e; exact .inl e.symm))
    clear hKr Kr
    replace hS : Turn (fun q => q = w.heap.size + 1) wz w9 := Turn.trans hS (Turn.grown (Turn.refl _ _) hg9 (fun j e => by injection e with e; exact .inl e.symm))
    try simp only [Act.put, List.setIfInBounds_toArray, List.set_cons_zero, List.set_cons_succ]
    refine wpAnyH_take (i := 16) (oi := ⟨some 7, _, _, _, _, _⟩) (v := ?_) rfl (by kernel_rfl) (by kernel_rfl) (by kernel_rfl) (fun _ _ _ h => h) (Or.inl ⟨by rfl, ?_⟩) hS ?_
    rotate_left
    · intro W hW; go_simp; with_reducible rfl
    try simp only [Act.put, List.setIfInBounds_toArray, List.set_cons_zero, List.set_cons_succ]
    refine wpAnyH_done (by kernel_rfl) ?_ _
    have HB9 := Lib.hid (Below.grown (HBd.out) hg9 (HBd.out).size (fun q e => by injection e with e; omega))
    have y0 := Bk.s0 hk9
    have y1 := Bk.s1 hk9
    have HFB := Lib.hid (show fb = false from by rw [HF.out, decide_eq_false h0]; rfl)
    clear hk9 hg9
    go_wp2_with fail
    exact bodyPost_ret (v := .tuple #[spV rl rh, .bool false]) (by rw [results_cell_tmp rfl]; go_simp; first | done | exact ⟨rfl, rfl⟩) rfl ⟨by rw [HFB.out], HB9.out⟩
end Go.Proofs.Ytogngghfdcpeaaa
