/-
  Fits and Room.
-/
import Derived.Test.YtimpebilgoekdaaFi
namespace Go.Proofs.Ytimpebilgoekdaa
set_option maxRecDepth 100000
set_option linter.unusedVariables false
set_option linter.unusedSimpArgs false
open Go.RowKit

set_option maxHeartbeats 1000000 in
theorem fits_any (a b v : Int) (hv : okI v) (A : Option Addr) (n c : Nat) (l : List Int) (w : World) (hl : Ls w A n l) :
    Calls Try.prog 23 #[spV a b, .int .i64 v, .slice A n c] w fun e w' => e = .returned (.bool (fitsB a b v l)) ∧ Below w.heap.size w w' := by
  have HB := Lib.hid (below_new w (.cells (spC a b) 29))
  have HL := Lib.hid hl
  have hr := fun V hV => stays_any a b v hv A n c l V (HL.out.below hV)
  clear hl hv
  unfold stV at hr
  generalize reachL v l = rl at *
  generalize reachH v l = rh at *
  generalize fitsB a b v l = fb at *
  go_enter Try.func23, Try.ntmps23
  go_wp2_with fail
  refine (hr _ HB.out).mono ?_
  rintro e w1 ⟨rfl, hb1⟩
  have HB1 := Lib.hid (below_two HB.out hb1)
  have HB2 := Lib.hid (below_two HB1.out (below_new w1 (.cells (spC rl rh) 29)))
  clear hb1 HB HB1 hr
  go_wp2_with fail
  go_ret
  exact ⟨rfl, HB2.out⟩

theorem fits_less {a b v : Int} {l : List Int} (h : fitsB a b v l = true) : (reachL v l = loI v l ∧ reachH v l = hiI v l) ∧ (okI (loI v l) ∧ okI (hiI v l)) ∧ a ≤ loI v l ∧ hiI v l ≤ b := by
  unfold fitsB at h
  have h := of_decide_eq_true h
  exact ⟨reachLH_yes h.1, reach_okI h.1, h.2⟩
/-- what Room answers -/
abbrev roV (a b v : Int) (l : List Int) : Value := .tuple #[.int .i64 (roomL a b v l), .int .i64 (roomH a b v l)]

set_option maxHeartbeats 1000000 in
theorem room_any (a b v : Int) (ha : okI a) (hb : okI b) (hv : okI v) (A : Option Addr) (n c : Nat) (l : List Int) (w : World) (hl : Ls w A n l) :
    Calls Try.prog 15 #[spV a b, .int .i64 v, .slice A n c] w fun e w' => e = .returned (roV a b v l) ∧ Below w.heap.size w w' := by
  have HX := Lib.hid (Bk.new w (spC a b) 29)
  have HB := Lib.hid (below_new w (.cells (spC a b) 29))
  have HL := Lib.hid hl
  have hr := fun V hV => stays_any a b v hv A n c l V (HL.out.below hV)
  have HRL : Hid (roomL a b v l = if fitsB a b v l = true ∧ n < 4096 then clampI (a - loI v l) else 0) := by show _ = _; unfold roomL; rw [hl.len]
  have HRH : Hid (roomH a b v l = if fitsB a b v l = true ∧ n < 4096 then clampI (b - hiI v l) else 0) := by show _ = _; unfold roomH; rw [hl.len]
  have HFL := Lib.hid (fun h => fits_less (a := a) (b := b) (v := v) (l := l) h)
  have HA := Lib.hid ha
  have HBB := Lib.hid hb
  clear hl hv ha hb
  unfold stV at hr
  unfold roV
  generalize roomL a b v l = xl at *
  generalize roomH a b v l = xh at *
  generalize reachL v l = rl at *
  generalize reachH v l = rh at *
  generalize fitsB a b v l = fb at *
  generalize loI v l = lo at *
  generalize hiI v l = hi at *
  go_enter Try.func15, Try.ntmps15
  go_wp2_with fail
  refine (hr _ HB.out).mono ?_
  rintro e w1 ⟨rfl, hb1⟩
  have HX1 := Lib.hid (HX.out.below hb1)
  have HB1 := Lib.hid (below_two HB.out hb1)
  have HX2 := Lib.hid (HX1.out.al (.cells (spC rl rh) 29))
  have HY2 := Lib.hid (Bk.new w1 (spC rl rh) 29)
  have HB2 := Lib.hid (below_two HB1.out (below_new w1 (.cells (spC rl rh) 29)))
  clear hb1 HX HB HX1 HB1 hr
  cases fb
  · replace HRL : Hid (xl = 0) := by show _ = _; rw [HRL.out]; rfl
    replace HRH : Hid (xh = 0) := by show _ = _; rw [HRH.out]; rfl
    clear HFL
    go_wp2_with fail
    go_ret2
    exact ⟨by rw [HRL.out, HRH.out]; rfl, HB2.out⟩
  · rcases Nat.lt_or_ge n 4096 with hlt | hge
    · have hd : decide ((n : Int) ≥ 4096) = false := decide_eq_false (by omega)
      have hd2 : decide ((4096 : Int) ≤ (n : Int)) = false := decide_eq_false (by omega)
      have hd3 : decide (4096 ≤ n) = false := decide_eq_false (by omega)
      obtain ⟨⟨h1, h2⟩, ⟨h3, h4⟩, h5, h6⟩ := HFL.out rfl
      have hdn := down_any rl a (by rw [h1]; exact h3) HA.out (by omega)
      have hup := up_any rh b (by rw [h2]; exact h4) HBB.out (by omega)
      replace HRL : Hid (xl = clampI (a - rl)) := by show _ = _; rw [HRL.out, if_pos ⟨rfl, hlt⟩, h1]
      replace HRH : Hid (xh = clampI (b - rh)) := by show _ = _; rw [HRH.out, if_pos ⟨rfl, hlt⟩, h2]
      clear HFL h1 h2 h3 h4 h5 h6
      go_upto_region 4 with fail
      generalize w1.heap.size = gz at *
      generalize w1.alloc (.cells #[.int .i64 rl, .int .i64 rh] 29) = wz at *
      generalize clampI (a - rl) = cl at *
      generalize clampI (b - rh) = ch at *
      have x0 : ∀ V, Since wz V → V.cell? ⟨w.heap.size, 0, none⟩ = some (.int .i64 a) := fun V hV => (HX2.out.below hV).s0
      have x1 : ∀ V, Since wz V → V.cell? ⟨w.heap.size, 1, none⟩ = some (.int .i64 b) := fun V hV => (HX2.out.below hV).s1
      have z0 : ∀ V, Since wz V → V.cell? ⟨gz, 0, none⟩ = some (.int .i64 rl) := fun V hV => (HY2.out.below hV).s0
      have z1 : ∀ V, Since wz V → V.cell? ⟨gz, 1, none⟩ = some (.int .i64 rh) := fun V hV => (HY2.out.below hV).s1
      refine wp_region_since (by kernel_rfl) ?_
      have hS : Since wz (World.drew wz) := (Below.refl _ _).drew
      refine wpAnyH_take (i := 0) (oi := ⟨some 24, _, _, _, _, _⟩) (v := ?_) rfl (by kernel_rfl) (by kernel_rfl) (by kernel_rfl) (fun _ _ _ h => h) (Or.inl ⟨by rfl, ?_⟩) hS ?_
      rotate_left
      · intro W hW; go_simp; with_reducible rfl
      try simp only [Act.put, List.setIfInBounds_toArray, List.set_cons_zero, List.set_cons_succ]
      refine wpAnyH_take (i := 1) (oi := ⟨some 25, _, _, _, _, _⟩) (v := ?_) rfl (by kernel_rfl) (by kernel_rfl) (by kernel_rfl) (fun _ _ _ h => h) (Or.inl ⟨by rfl, ?_⟩) hS ?_
      rotate_left
      · intro W hW; go_simp; with_reducible rfl
      try simp only [Act.put, List.setIfInBounds_toArray, List.set_cons_zero, List.set_cons_succ]
      refine wpAnyH_take (i := 2) (oi := ⟨some 26, _, _, _, _, _⟩) (v := ?_) rfl (by kernel_rfl) (by kernel_rfl) (by kernel_rfl) (fun _ _ _ h => h) (Or.inl ⟨by rfl, ?_⟩) hS ?_
      rotate_left
      · intro W hW; go_simp; with_reducible rfl
      try simp only [Act.put, List.setIfInBounds_toArray, List.set_cons_zero, List.set_cons_succ]
      refine wpAnyH_take (i := 3) (oi := ⟨some 27, _, _, _, _, _⟩) (v := ?_) rfl (by kernel_rfl) (by kernel_rfl) (by kernel_rfl) (fun _ _ _ h => h) (Or.inl ⟨by rfl, ?_⟩) hS ?_
      rotate_left
      · intro W hW; go_simp; with_reducible rfl
      try simp only [Act.put, List.setIfInBounds_toArray, List.set_cons_zero, List.set_cons_succ]
      refine wpAnyH_take (i := 5) (oi := ⟨some 29, _, _, _, _, _⟩) (v := ?_) rfl (by kernel_rfl) (by kernel_rfl) (by kernel_rfl) (fun _ _ _ h => h) (Or.inl ⟨by rfl, ?_⟩) hS ?_
      rotate_left
      · intro W hW; go_simp; with_reducible rfl
      try simp only [Act.put, List.setIfInBounds_toArray, List.set_cons_zero, List.set_cons_succ]
      refine wpAnyH_take (i := 6) (oi := ⟨some 30, _, _, _, _, _⟩) (v := ?_) rfl (by kernel_rfl) (by kernel_rfl) (by kernel_rfl) (fun _ _ _ h => h) (Or.inl ⟨by rfl, ?_⟩) hS ?_
      rotate_left
      · intro W hW; go_simp; with_reducible rfl
      try simp only [Act.put, List.setIfInBounds_toArray, List.set_cons_zero, List.set_cons_succ]
      refine wpAnyH_take (i := 7) (oi := ⟨some 31, _, _, _, _, _⟩) (v := ?_) rfl (by kernel_rfl) (by kernel_rfl) (by kernel_rfl) (fun _ _ _ h => h) (Or.inl ⟨by rfl, ?_⟩) hS ?_
      rotate_left
      · intro W hW; go_simp; with_reducible rfl
      try simp only [Act.put, List.setIfInBounds_toArray, List.set_cons_zero, List.set_cons_succ]
      refine wpAnyH_take (i := 8) (oi := ⟨some 32, _, _, _, _, _⟩) (v := ?_) rfl (by kernel_rfl) (by kernel_rfl) (by kernel_rfl) (fun _ _ _ h => h) (Or.inl ⟨by rfl, ?_⟩) hS ?_
      rotate_left
      · intro W hW; go_simp; with_reducible rfl
      try simp only [Act.put, List.setIfInBounds_toArray, List.set_cons_zero, List.set_cons_succ]
      refine wpAnyH_ready (rs := [4]) (by kernel_rfl) (by simp) ?_
      refine AllReadyH.cons (o := ⟨some 28, _, _, _, _, _⟩) rfl (fun Kr hKr => ?_) AllReadyH.nil
      -- operation 4: a call
      go_simp
      refine (hdn _).mono ?_
      rintro e w3 ⟨rfl, hb3⟩
      show Kr _ _
      refine hKr.out _ _ ?_ (fun _ => ?_)
      · exact since_trans hS hb3
      clear hKr Kr
      replace hS : Since wz w3 := since_trans hS hb3
      try simp only [Act.put, List.setIfInBounds_toArray, List.set_cons_zero, List.set_cons_succ]
      refine wpAnyH_ready (rs := [9]) (by kernel_rfl) (by simp) ?_
      refine AllReadyH.cons (o := ⟨some 33, _, _, _, _, _⟩) rfl (fun Kr hKr => ?_) AllReadyH.nil
      -- operation 9: a call
      go_simp
      refine (hup _).mono ?_
      rintro e w4 ⟨rfl, hb4⟩
      show Kr _ _
      refine hKr.out _ _ ?_ (fun _ => ?_)
      · exact since_trans hS hb4
      clear hKr Kr
      replace hS : Since wz w4 := since_trans hS hb4
      try simp only [Act.put, List.setIfInBounds_toArray, List.set_cons_zero, List.set_cons_succ]
      refine wpAnyH_take (i := 10) (oi := ⟨some 6, _, _, _, _, _⟩) (v := ?_) rfl (by kernel_rfl) (by kernel_rfl) (by kernel_rfl) (fun _ _ _ h => h) (Or.inl ⟨by rfl, ?_⟩) hS ?_
      rotate_left
      · intro W hW; go_simp; with_reducible rfl
      try simp only [Act.put, List.setIfInBounds_toArray, List.set_cons_zero, List.set_cons_succ]
      refine wpAnyH_take (i := 11) (oi := ⟨some 7, _, _, _, _, _⟩) (v := ?_) rfl (by kernel_rfl) (by kernel_rfl) (by kernel_rfl) (fun _ _ _ h => h) (Or.inl ⟨by rfl, ?_⟩) hS ?_
      rotate_left
      · intro W hW; go_simp; with_reducible rfl
      try simp only [Act.put, List.setIfInBounds_toArray, List.set_cons_zero, List.set_cons_succ]
      refine wpAnyH_done (by kernel_rfl) ?_ _
      go_wp2_with fail
      go_ret2
      exact ⟨by rw [HRL.out, HRH.out]; rfl, below_two HB2.out hS⟩
    · have hd : decide ((n : Int) ≥ 4096) = true := decide_eq_true (by omega)
      have hd2 : decide ((4096 : Int) ≤ (n : Int)) = true := decide_eq_true (by omega)
      have hd3 : decide (4096 ≤ n) = true := decide_eq_true (by omega)
      replace HRL : Hid (xl = 0) := by show _ = _; rw [HRL.out, if_neg (by omega)]
      replace HRH : Hid (xh = 0) := by show _ = _; rw [HRH.out, if_neg (by omega)]
      clear HFL
      go_wp2_with fail
      go_ret2
      exact ⟨by rw [HRL.out, HRH.out]; rfl, HB2.out⟩
end Go.Proofs.Ytimpebilgoekdaa
