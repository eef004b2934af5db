/-
  What one who takes over pends does with one of them: adds it to its counter's Value; what there is behind all of them; rows copied.
-/
import Derived.Test.YtogngghfdcpeaaaKi
namespace Go.Proofs.Ytogngghfdcpeaaa
set_option maxRecDepth 100000
set_option linter.unusedVariables false
set_option linter.unusedSimpArgs false
open Go.RowKit

theorem w64_three (v u d : Int) : w64 (v + w64 (u + d)) = w64 (w64 (v + u) + d) := by
  unfold w64; rw [IntKind.wrap_i64, IntKind.wrap_i64, IntKind.wrap_i64, IntKind.wrap_i64]; omega

set_option maxHeartbeats 4000000 in
theorem fix_any (g B0 : Nat) (tx : Int) (cA : Option Addr) (n cc : Nat) (C : List Ct) (pv : Value) (X : List Pd) (rA : Option Addr) (rn rc : Nat) (R : List Pd) (k : Nat) (hk : k < n) (x u d : Int) (w : World)
    (hh : Hr w g B0 tx cA n cc C pv X rA rn rc R) :
    Calls Try.prog 47 #[.pointer (some ⟨g, 0, none⟩), pdV (k : Int) x u d] w fun e w' => e = .returned (.tuple #[]) ∧
      Hr w' g B0 tx cA n cc (addC C k u d) pv X rA rn rc R ∧ Turn (fun q => (Value.slice cA n cc).ownBlock = some q) w w' := by
  have hne : C ≠ [] := by intro e; have := hh.cl; rw [e, List.length_nil] at this; omega
  obtain ⟨gC, csC, eA, hgC, hbC⟩ := hh.c.blk hne
  subst eA
  have HCG := Lib.hid (show gC < g from hh.cg gC rfl)
  have hck := ctget hh.cl hk
  have HCK := Lib.hid hck
  obtain ⟨b7, o7, e7, _, hc7⟩ := (hh.c.at_ rc_oko).get rc_oko hck
  injection e7 with e7
  injection e7 with e71 e72
  subst e71
  subst e72
  have HV := Lib.hid (show w.cell? ⟨gC, k * 3 + 2, none⟩ = some (.int .i64 (C.getD k ctD).v) from by have h := hc7 2 _ rfl; rw [Nat.zero_add] at h; exact h)
  have HAC : Hid (addC C k u d = C.set k { C.getD k ctD with v := w64 (w64 ((C.getD k ctD).v + u) + d) }) := rfl
  generalize C.getD k ctD = ck at *
  obtain ⟨lo, hi, v⟩ := ck
  simp only at HV HAC
  rw [← w64_three] at HAC
  obtain ⟨z1, hz1⟩ : ∃ z, w64 (u + d) = z := ⟨_, rfl⟩
  rw [hz1] at HAC
  obtain ⟨z2, hz2⟩ : ∃ z, w64 (v + z1) = z := ⟨_, rfl⟩
  rw [hz2] at HAC
  have ew1 : IntKind.i64.wrap (u + d) = z1 := hz1
  have ew2 : IntKind.i64.wrap (v + z1) = z2 := hz2
  have HBC := Lib.hid hbC
  have ham := fun V => among_any (k : Int) (n : Int) V
  rw [show amB (k : Int) (n : Int) = true from decide_eq_true (by omega)] at ham
  obtain ⟨b3, hb3⟩ : ∃ b3, b3 = w.heap.size := ⟨_, rfl⟩
  obtain ⟨w1, hw1⟩ : ∃ w1, w1 = w.alloc (.cells (pdC (k : Int) x u d) 75) := ⟨_, rfl⟩
  have HX1 := Lib.hid (show Bk w1 b3 (pdC (k : Int) x u d) 75 by rw [hw1, hb3]; exact Bk.new w _ _)
  have HB1 := Lib.hid (show Below w.heap.size w w1 by rw [hw1]; exact below_new w _)
  have HH1 := Lib.hid (hh.below HB1.out)
  have HGB := Lib.hid (show g < b3 by rw [hb3]; exact hh.bk.lt)
  have HV1 := Lib.hid ((HB1.out.cell (p := ⟨gC, k * 3 + 2, none⟩) hbC.lt).trans HV.out)
  have hkn : (k : Int) < (n : Int) := by omega
  clear hh hne hgC hbC hck hc7 hz1 hz2
  go_enter Try.func47, Try.ntmps47
  go_upto_region 1 with fail
  rw [← hw1, ← hb3]
  clear hw1 hb3
  have a1 : ∀ V, Since w1 V → V.cell? ⟨g, 1, none⟩ = some (.slice (some ⟨gC, 0, none⟩) n cc) := fun V hV => (HH1.out.below hV).h1
  have p0 : ∀ V, Since w1 V → V.cell? ⟨b3, 0, none⟩ = some (.int .i64 (k : Int)) := fun V hV => (HX1.out.below hV).p0
  refine wp_region_since (by kernel_rfl) ?_
  have hS : Since w1 (World.drew w1) := (Below.refl _ _).drew
  refine wpAnyH_take (i := 0) (oi := ⟨some 4, _, _, _, _, _⟩) (v := ?_) rfl (by kernel_rfl) (by kernel_rfl) (by kernel_rfl) (fun _ _ _ h => h) (Or.inl ⟨by rfl, ?_⟩) hS ?_
  rotate_left
  · intro W hW; go_simp; with_reducible rfl
  try simp only [Act.put, List.setIfInBounds_toArray, List.set_cons_zero, List.set_cons_succ]
  refine wpAnyH_take (i := 1) (oi := ⟨some 5, _, _, _, _, _⟩) (v := ?_) rfl (by kernel_rfl) (by kernel_rfl) (by kernel_rfl) (fun _ _ _ h => h) (Or.inl ⟨by rfl, ?_⟩) hS ?_
  rotate_left
  · intro W hW; go_simp; with_reducible rfl
  try simp only [Act.put, List.setIfInBounds_toArray, List.set_cons_zero, List.set_cons_succ]
  refine wpAnyH_take (i := 2) (oi := ⟨some 6, _, _, _, _, _⟩) (v := ?_) rfl (by kernel_rfl) (by kernel_rfl) (by kernel_rfl) (fun _ _ _ h => h) (Or.inl ⟨by rfl, ?_⟩) hS ?_
  rotate_left
  · intro W hW; go_simp; with_reducible rfl
  try simp only [Act.put, List.setIfInBounds_toArray, List.set_cons_zero, List.set_cons_succ]
  refine wpAnyH_take (i := 3) (oi := ⟨some 7, _, _, _, _, _⟩) (v := ?_) rfl (by kernel_rfl) (by kernel_rfl) (by kernel_rfl) (fun _ _ _ h => h) (Or.inl ⟨by rfl, ?_⟩) hS ?_
  rotate_left
  · intro W hW; go_simp; with_reducible rfl
  try simp only [Act.put, List.setIfInBounds_toArray, List.set_cons_zero, List.set_cons_succ]
  refine wpAnyH_take (i := 4) (oi := ⟨some 8, _, _, _, _, _⟩) (v := ?_) rfl (by kernel_rfl) (by kernel_rfl) (by kernel_rfl) (fun _ _ _ h => h) (Or.inl ⟨by rfl, ?_⟩) hS ?_
  rotate_left
  · intro W hW; go_simp; with_reducible rfl
  try simp only [Act.put, List.setIfInBounds_toArray, List.set_cons_zero, List.set_cons_succ]
  refine wpAnyH_take (i := 5) (oi := ⟨some 9, _, _, _, _, _⟩) (v := ?_) rfl (by kernel_rfl) (by kernel_rfl) (by kernel_rfl) (fun _ _ _ h => h) (Or.inl ⟨by rfl, ?_⟩) hS ?_
  rotate_left
  · intro W hW; go_simp; with_reducible rfl
  try simp only [Act.put, List.setIfInBounds_toArray, List.set_cons_zero, List.set_cons_succ]
  refine wpAnyH_take (i := 6) (oi := ⟨some 10, _, _, _, _, _⟩) (v := ?_) rfl (by kernel_rfl) (by kernel_rfl) (by kernel_rfl) (fun _ _ _ h => h) (Or.inl ⟨by rfl, ?_⟩) hS ?_
  rotate_left
  · intro W hW; go_simp; with_reducible rfl
  try simp only [Act.put, List.setIfInBounds_toArray, List.set_cons_zero, List.set_cons_succ]
  refine wpAnyH_ready (rs := [7]) (by kernel_rfl) (by simp) ?_
  refine AllReadyH.cons (o := ⟨some 11, _, _, _, _, _⟩) rfl (fun Kr hKr => ?_) AllReadyH.nil
  -- operation 7: a call
  go_simp
  refine (ham _).mono ?_
  rintro e V0 ⟨rfl, hv⟩
  show Kr _ _
  refine hKr.out _ _ ?_ (fun _ => ?_)
  · exact since_trans hS hv
  clear hKr Kr
  replace hS : Since w1 V0 := since_trans hS hv
  try simp only [Act.put, List.setIfInBounds_toArray, List.set_cons_zero, List.set_cons_succ]
  refine wpAnyH_done (by kernel_rfl) ?_ _
  obtain ⟨w2, hw2⟩ : ∃ w2, w2 = V0 := ⟨_, rfl⟩
  subst hw2
  have HS2 := Lib.hid hS
  clear hS a1 p0
  have HX2 := Lib.hid (HX1.out.below HS2.out)
  have HH2 := Lib.hid (HH1.out.below HS2.out)
  have HT2 := Lib.hid (show Turn (fun q => (Value.slice (some ⟨gC, 0, none⟩) n cc).ownBlock = some q) w w2 from Turn.ofBelow (HB1.out.trans (Below.mono HS2.out HB1.out.size)))
  have HBC2 := Lib.hid (HBC.out.below (HB1.out.trans (Below.mono HS2.out HB1.out.size)))
  have HV2 := Lib.hid ((Below.cell (p := ⟨gC, k * 3 + 2, none⟩) HS2.out (by have h1 := HCG.out; have h2 := HH1.out.bk.lt; show gC < _; omega)).trans HV1.out)
  clear HX1 HH1 HB1 HBC HV HV1
  go_upto_region 2 with fail
  have a1 : ∀ V, Turn (fun q => q = gC) w2 V → V.cell? ⟨g, 1, none⟩ = some (.slice (some ⟨gC, 0, none⟩) n cc) := fun V hV => hV.cell HH2.out.h1 (fun h => by have := HCG.out; simp only at h; omega)
  have p0 : ∀ V, Turn (fun q => q = gC) w2 V → V.cell? ⟨b3, 0, none⟩ = some (.int .i64 (k : Int)) := fun V hV => (HX2.out.turn hV (fun h => by have := HCG.out; have := HGB.out; omega)).p0
  have p2 : ∀ V, Turn (fun q => q = gC) w2 V → V.cell? ⟨b3, 2, none⟩ = some (.int .i64 u) := fun V hV => (HX2.out.turn hV (fun h => by have := HCG.out; have := HGB.out; omega)).p2
  have p3 : ∀ V, Turn (fun q => q = gC) w2 V → V.cell? ⟨b3, 3, none⟩ = some (.int .i64 d) := fun V hV => (HX2.out.turn hV (fun h => by have := HCG.out; have := HGB.out; omega)).p3
  have v0 := HV2.out
  have f0 := HBC2.out.fr (k * 3 + 2)
  refine wp_region_turn (X := (fun q => q = gC)) (by kernel_rfl) ?_
  have hS : Turn (fun q => q = gC) w2 (World.drew w2) := (Turn.refl _ _).drew
  refine wpAnyH_take (i := 0) (oi := ⟨some 12, _, _, _, _, _⟩) (v := ?_) rfl (by kernel_rfl) (by kernel_rfl) (by kernel_rfl) (fun _ _ _ h => h) (Or.inl ⟨by rfl, ?_⟩) hS ?_
  rotate_left
  · intro W hW; go_simp; with_reducible rfl
  try simp only [Act.put, List.setIfInBounds_toArray, List.set_cons_zero, List.set_cons_succ]
  refine wpAnyH_take (i := 1) (oi := ⟨some 13, _, _, _, _, _⟩) (v := ?_) rfl (by kernel_rfl) (by kernel_rfl) (by kernel_rfl) (fun _ _ _ h => h) (Or.inl ⟨by rfl, ?_⟩) hS ?_
  rotate_left
  · intro W hW; go_simp; with_reducible rfl
  try simp only [Act.put, List.setIfInBounds_toArray, List.set_cons_zero, List.set_cons_succ]
  refine wpAnyH_take (i := 2) (oi := ⟨some 14, _, _, _, _, _⟩) (v := ?_) rfl (by kernel_rfl) (by kernel_rfl) (by kernel_rfl) (fun _ _ _ h => h) (Or.inl ⟨by rfl, ?_⟩) hS ?_
  rotate_left
  · intro W hW; go_simp; with_reducible rfl
  try simp only [Act.put, List.setIfInBounds_toArray, List.set_cons_zero, List.set_cons_succ]
  refine wpAnyH_take (i := 3) (oi := ⟨some 15, _, _, _, _, _⟩) (v := ?_) rfl (by kernel_rfl) (by kernel_rfl) (by kernel_rfl) (fun _ _ _ h => h) (Or.inl ⟨by rfl, ?_⟩) hS ?_
  rotate_left
  · intro W hW; go_simp; with_reducible rfl
  try simp only [Act.put, List.setIfInBounds_toArray, List.set_cons_zero, List.set_cons_succ]
  refine wpAnyH_take (i := 4) (oi := ⟨some 16, _, _, _, _, _⟩) (v := ?_) rfl (by kernel_rfl) (by kernel_rfl) (by kernel_rfl) (fun _ _ _ h => h) (Or.inl ⟨by rfl, ?_⟩) hS ?_
  rotate_left
  · intro W hW; go_simp; with_reducible rfl
  try simp only [Act.put, List.setIfInBounds_toArray, List.set_cons_zero, List.set_cons_succ]
  refine wpAnyH_take (i := 5) (oi := ⟨some 17, _, _, _, _, _⟩) (v := ?_) rfl (by kernel_rfl) (by kernel_rfl) (by kernel_rfl) (fun _ _ _ h => h) (Or.inl ⟨by rfl, ?_⟩) hS ?_
  rotate_left
  · intro W hW; go_simp; with_reducible rfl
  try simp only [Act.put, List.setIfInBounds_toArray, List.set_cons_zero, List.set_cons_succ]
  refine wpAnyH_take (i := 6) (oi := ⟨some 18, _, _, _, _, _⟩) (v := ?_) rfl (by kernel_rfl) (by kernel_rfl) (by kernel_rfl) (fun _ _ _ h => h) (Or.inl ⟨by rfl, ?_⟩) hS ?_
  rotate_left
  · intro W hW; go_simp; with_reducible rfl
  try simp only [Act.put, List.setIfInBounds_toArray, List.set_cons_zero, List.set_cons_succ]
  refine wpAnyH_take (i := 7) (oi := ⟨some 19, _, _, _, _, _⟩) (v := ?_) rfl (by kernel_rfl) (by kernel_rfl) (by kernel_rfl) (fun _ _ _ h => h) (Or.inl ⟨by rfl, ?_⟩) hS ?_
  rotate_left
  · intro W hW; go_simp; with_reducible rfl
  try simp only [Act.put, List.setIfInBounds_toArray, List.set_cons_zero, List.set_cons_succ]
  refine wpAnyH_take (i := 9) (oi := ⟨some 21, _, _, _, _, _⟩) (v := ?_) rfl (by kernel_rfl) (by kernel_rfl) (by kernel_rfl) (fun _ _ _ h => h) (Or.inl ⟨by rfl, ?_⟩) hS ?_
  rotate_left
  · intro W hW; go_simp; with_reducible rfl
  try simp only [Act.put, List.setIfInBounds_toArray, List.set_cons_zero, List.set_cons_succ]
  refine wpAnyH_take (i := 10) (oi := ⟨some 22, _, _, _, _, _⟩) (v := ?_) rfl (by kernel_rfl) (by kernel_rfl) (by kernel_rfl) (fun _ _ _ h => h) (Or.inl ⟨by rfl, ?_⟩) hS ?_
  rotate_left
  · intro W hW; go_simp; with_reducible rfl
  try simp only [Act.put, List.setIfInBounds_toArray, List.set_cons_zero, List.set_cons_succ]
  refine wpAnyH_take (i := 11) (oi := ⟨some 23, _, _, _, _, _⟩) (v := ?_) rfl (by kernel_rfl) (by kernel_rfl) (by kernel_rfl) (fun _ _ _ h => h) (Or.inl ⟨by rfl, ?_⟩) hS ?_
  rotate_left
  · intro W hW; go_simp; with_reducible rfl
  try simp only [Act.put, List.setIfInBounds_toArray, List.set_cons_zero, List.set_cons_succ]
  refine wpAnyH_take (i := 12) (oi := ⟨some 24, _, _, _, _, _⟩) (v := ?_) rfl (by kernel_rfl) (by kernel_rfl) (by kernel_rfl) (fun _ _ _ h => h) (Or.inl ⟨by rfl, ?_⟩) hS ?_
  rotate_left
  · intro W hW; go_simp; with_reducible rfl
  try simp only [Act.put, List.setIfInBounds_toArray, List.set_cons_zero, List.set_cons_succ]
  refine wpAnyH_take (i := 13) (oi := ⟨some 25, _, _, _, _, _⟩) (v := ?_) rfl (by kernel_rfl) (by kernel_rfl) (by kernel_rfl) (fun _ _ _ h => h) (Or.inl ⟨by rfl, ?_⟩) hS ?_
  rotate_left
  · intro W hW; go_simp; with_reducible rfl
  try simp only [Act.put, List.setIfInBounds_toArray, List.set_cons_zero, List.set_cons_succ]
  refine wpAnyH_ready (rs := [8]) (by kernel_rfl) (by simp) ?_
  refine AllReadyH.cons (o := ⟨some 20, _, _, _, _, _⟩) rfl (fun Kr hKr => ?_) AllReadyH.nil
  -- operation 8: a step
  go_simp
  show Kr _ _
  refine hKr.out _ _ ?_ (fun _ => ?_)
  · exact hS
  clear hKr Kr
  try simp only [Act.put, List.setIfInBounds_toArray, List.set_cons_zero, List.set_cons_succ]
  refine wpAnyH_take (i := 14) (oi := ⟨some 26, _, _, _, _, _⟩) (v := ?_) rfl (by kernel_rfl) (by kernel_rfl) (by kernel_rfl) (fun _ _ _ h => h) (Or.inl ⟨by rfl, ?_⟩) hS ?_
  rotate_left
  · intro W hW; go_simp; with_reducible rfl
  try simp only [Act.put, List.setIfInBounds_toArray, List.set_cons_zero, List.set_cons_succ]
  refine wpAnyH_take (i := 15) (oi := ⟨some 27, _, _, _, _, _⟩) (v := ?_) rfl (by kernel_rfl) (by kernel_rfl) (by kernel_rfl) (fun _ _ _ h => h) (Or.inl ⟨by rfl, ?_⟩) hS ?_
  rotate_left
  · intro W hW; go_simp; with_reducible rfl
  try simp only [Act.put, List.setIfInBounds_toArray, List.set_cons_zero, List.set_cons_succ]
  refine wpAnyH_take (i := 16) (oi := ⟨some 28, _, _, _, _, _⟩) (v := ?_) rfl (by kernel_rfl) (by kernel_rfl) (by kernel_rfl) (fun _ _ _ h => h) (Or.inl ⟨by rfl, ?_⟩) hS ?_
  rotate_left
  · intro W hW; go_simp; with_reducible rfl
  try simp only [Act.put, List.setIfInBounds_toArray, List.set_cons_zero, List.set_cons_succ]
  refine wpAnyH_ready (rs := [17]) (by kernel_rfl) (by simp) ?_
  refine AllReadyH.cons (o := ⟨none, _, _, _, _, _⟩) rfl (fun Kr hKr => ?_) AllReadyH.nil
  -- operation 17: a step
  go_simp
  show Kr _ _
  refine hKr.out _ _ ?_ (fun _ => ?_)
  · exact ((Turn.refl (fun q => q = gC) w2).setCell _ _ (.inl rfl)).drew
  clear hKr Kr
  replace hS : Turn (fun q => q = gC) w2 (World.drew (w2.setCell ⟨gC, k * 3 + 2, none⟩ (.int .i64 z2))) := ((Turn.refl (fun q => q = gC) w2).setCell _ _ (.inl rfl)).drew
  try simp only [Act.put, List.setIfInBounds_toArray, List.set_cons_zero, List.set_cons_succ]
  refine wpAnyH_done (by kernel_rfl) ?_ _
  go_wp2_with fail
  go_end0
  have HC8 : RCo.Own (World.drew (w2.setCell ⟨gC, k * 3 + 2, none⟩ (.int .i64 z2))) B0 (.slice (some ⟨gC, 0, none⟩) n cc) (C.set k ⟨lo, hi, z2⟩) := Rk.Own.set rc_oko (k := 2) (i := k) (by decide) (v := .int .i64 z2) HH2.out.c HCK.out rfl
  refine ⟨rfl, ?_, HT2.out.trans (hS.mono (fun q e => by rw [e]; rfl))⟩
  rw [HAC.out]
  refine ⟨HH2.out.bk.turn hS (fun e => by have := HCG.out; omega), HC8, by rw [List.length_set]; exact HH2.out.cl, HH2.out.cg, HH2.out.past.turn hS (fun q e h => by have h1 := (HH2.out.past.lt q e).1; have := HCG.out; omega), HH2.out.rest.turn hS (fun b o e => .inr fun h => (HH2.out.rg b o e).2 (by rw [h]; rfl)), HH2.out.rl, HH2.out.rk, HH2.out.rs, HH2.out.rg⟩

set_option maxHeartbeats 2000000 in
theorem table_any (g B0 : Nat) (tx : Int) (cA : Option Addr) (n cc : Nat) (C : List Ct) (pv : Value) (X : List Pd) (rA : Option Addr) (rn rc : Nat) (R : List Pd) (hle : X.length + rn ≤ 100000) (w : World)
    (hh : Hr w g B0 tx cA n cc C pv X rA rn rc R) :
    Calls Try.prog 34 #[.pointer (some ⟨g, 0, none⟩)] w fun e w' => ∃ B' m' b', e = .returned (tbV cA n cc B' m' b') ∧
      RPo.At w' B' (X ++ R) ∧ (X ++ R).length = m' ∧ m' ≤ b' ∧ Sp B' ∧ (∀ q o, B' = some ⟨q, o, none⟩ → g < q ∧ q < w'.heap.size) ∧ RCo.At w' cA C ∧ Below g w w' := by
  have HLE := Lib.hid hle
  have HSP := Lib.hid (show R = [] ∨ Sp rA by
    rcases hh.rs with h | h
    · exact .inl (List.eq_nil_of_length_eq_zero (by have := hh.rk; have := hh.rl; omega))
    · exact .inr h)
  obtain ⟨gt, hgt⟩ : ∃ gt, gt = w.heap.size := ⟨_, rfl⟩
  obtain ⟨w1, hw1⟩ : ∃ w1, w1 = w.alloc (.cells #[.slice none 0 0, .slice none 0 0] 34) := ⟨_, rfl⟩
  have HX1 := Lib.hid (show Bk w1 gt #[.slice none 0 0, .slice none 0 0] 34 by rw [hw1, hgt]; exact Bk.new w _ _)
  have HB0 := Lib.hid (show Below w.heap.size w w1 by rw [hw1]; exact below_new w _)
  have HH1 := Lib.hid (hh.below HB0.out)
  have HGT := Lib.hid (show g < gt by rw [hgt]; exact hh.bk.lt)
  have HNE := Lib.hid (show ∀ q, pv.ownBlock = some q → q ≠ gt from fun q e => by have := (hh.past.lt q e).2; omega)
  have HB1 := Lib.hid (show Below g w w1 from HB0.out.mono (Nat.le_of_lt hh.bk.lt))
  have HGL := Lib.hid (show g ≤ w1.heap.size from Nat.le_of_lt HH1.out.bk.lt)
  have HRD := Lib.hid (HH1.out.below (V := World.drew w1) ((Below.refl _ _).drew))
  have HXD := Lib.hid (HX1.out.below (V := World.drew w1) ((Below.refl _ _).drew))
  have HGS := Lib.hid (show g + 1 ≤ (World.drew w1).heap.size from HH1.out.bk.lt)
  have HGU := Lib.hid (show gt < (World.drew w1).heap.size from HX1.out.lt)
  clear hh hle
  go_enter Try.func34, Try.ntmps34
  go_upto_region 1 with fail
  rw [← hw1, ← hgt]
  clear hw1 hgt
  have a1 : ∀ V, Turn (fun q => q = gt ∨ pv.ownBlock = some q) w1 V → V.cell? ⟨g, 1, none⟩ = some (.slice cA n cc) := fun V hV => hV.cell HH1.out.h1 (fun h => by rcases h with h | h; have := HGT.out; simp only at h; omega; have := (HH1.out.past.lt _ h).1; simp only at this; omega)
  have a2 : ∀ V, Turn (fun q => q = gt ∨ pv.ownBlock = some q) w1 V → V.cell? ⟨g, 2, none⟩ = some pv := fun V hV => hV.cell HH1.out.h2 (fun h => by rcases h with h | h; have := HGT.out; simp only at h; omega; have := (HH1.out.past.lt _ h).1; simp only at this; omega)
  have a3 : ∀ V, Turn (fun q => q = gt ∨ pv.ownBlock = some q) w1 V → V.cell? ⟨g, 3, none⟩ = some (.slice rA rn rc) := fun V hV => hV.cell HH1.out.h3 (fun h => by rcases h with h | h; have := HGT.out; simp only at h; omega; have := (HH1.out.past.lt _ h).1; simp only at this; omega)
  refine wp_region_turn (X := (fun q => q = gt ∨ pv.ownBlock = some q)) (by kernel_rfl) ?_
  have hS : Turn (fun q => q = gt ∨ pv.ownBlock = some q) w1 (World.drew w1) := (Turn.refl _ _).drew
  refine wpAnyH_take (i := 0) (oi := ⟨some 3, _, _, _, _, _⟩) (v := ?_) rfl (by kernel_rfl) (by kernel_rfl) (by kernel_rfl) (fun _ _ _ h => h) (Or.inl ⟨by rfl, ?_⟩) hS ?_
  rotate_left
  · intro W hW; go_simp; with_reducible rfl
  try simp only [Act.put, List.setIfInBounds_toArray, List.set_cons_zero, List.set_cons_succ]
  refine wpAnyH_take (i := 1) (oi := ⟨some 4, _, _, _, _, _⟩) (v := ?_) rfl (by kernel_rfl) (by kernel_rfl) (by kernel_rfl) (fun _ _ _ h => h) (Or.inl ⟨by rfl, ?_⟩) hS ?_
  rotate_left
  · intro W hW; go_simp; with_reducible rfl
  try simp only [Act.put, List.setIfInBounds_toArray, List.set_cons_zero, List.set_cons_succ]
  refine wpAnyH_take (i := 2) (oi := ⟨some 5, _, _, _, _, _⟩) (v := ?_) rfl (by kernel_rfl) (by kernel_rfl) (by kernel_rfl) (fun _ _ _ h => h) (Or.inl ⟨by rfl, ?_⟩) hS ?_
  rotate_left
  · intro W hW; go_simp; with_reducible rfl
  try simp only [Act.put, List.setIfInBounds_toArray, List.set_cons_zero, List.set_cons_succ]
  refine wpAnyH_take (i := 3) (oi := ⟨some 6, _, _, _, _, _⟩) (v := ?_) rfl (by kernel_rfl) (by kernel_rfl) (by kernel_rfl) (fun _ _ _ h => h) (Or.inl ⟨by rfl, ?_⟩) hS ?_
  rotate_left
  · intro W hW; go_simp; with_reducible rfl
  try simp only [Act.put, List.setIfInBounds_toArray, List.set_cons_zero, List.set_cons_succ]
  refine wpAnyH_take (i := 4) (oi := ⟨some 7, _, _, _, _, _⟩) (v := ?_) rfl (by kernel_rfl) (by kernel_rfl) (by kernel_rfl) (fun _ _ _ h => h) (Or.inl ⟨by rfl, ?_⟩) hS ?_
  rotate_left
  · intro W hW; go_simp; with_reducible rfl
  try simp only [Act.put, List.setIfInBounds_toArray, List.set_cons_zero, List.set_cons_succ]
  refine wpAnyH_take (i := 5) (oi := ⟨some 8, _, _, _, _, _⟩) (v := ?_) rfl (by kernel_rfl) (by kernel_rfl) (by kernel_rfl) (fun _ _ _ h => h) (Or.inl ⟨by rfl, ?_⟩) hS ?_
  rotate_left
  · intro W hW; go_simp; with_reducible rfl
  try simp only [Act.put, List.setIfInBounds_toArray, List.set_cons_zero, List.set_cons_succ]
  refine wpAnyH_take (i := 6) (oi := ⟨some 9, _, _, _, _, _⟩) (v := ?_) rfl (by kernel_rfl) (by kernel_rfl) (by kernel_rfl) (fun _ _ _ h => h) (Or.inl ⟨by rfl, ?_⟩) hS ?_
  rotate_left
  · intro W hW; go_simp; with_reducible rfl
  try simp only [Act.put, List.setIfInBounds_toArray, List.set_cons_zero, List.set_cons_succ]
  refine wpAnyH_take (i := 7) (oi := ⟨some 10, _, _, _, _, _⟩) (v := ?_) rfl (by kernel_rfl) (by kernel_rfl) (by kernel_rfl) (fun _ _ _ h => h) (Or.inl ⟨by rfl, ?_⟩) hS ?_
  rotate_left
  · intro W hW; go_simp; with_reducible rfl
  try simp only [Act.put, List.setIfInBounds_toArray, List.set_cons_zero, List.set_cons_succ]
  refine wpAnyH_take (i := 8) (oi := ⟨some 11, _, _, _, _, _⟩) (v := ?_) rfl (by kernel_rfl) (by kernel_rfl) (by kernel_rfl) (fun _ _ _ h => h) (Or.inl ⟨by rfl, ?_⟩) hS ?_
  rotate_left
  · intro W hW; go_simp; with_reducible rfl
  try simp only [Act.put, List.setIfInBounds_toArray, List.set_cons_zero, List.set_cons_succ]
  refine wpAnyH_take (i := 9) (oi := ⟨some 12, _, _, _, _, _⟩) (v := ?_) rfl (by kernel_rfl) (by kernel_rfl) (by kernel_rfl) (fun _ _ _ h => h) (Or.inl ⟨by rfl, ?_⟩) hS ?_
  rotate_left
  · intro W hW; go_simp; with_reducible rfl
  try simp only [Act.put, List.setIfInBounds_toArray, List.set_cons_zero, List.set_cons_succ]
  refine wpAnyH_take (i := 10) (oi := ⟨some 13, _, _, _, _, _⟩) (v := ?_) rfl (by kernel_rfl) (by kernel_rfl) (by kernel_rfl) (fun _ _ _ h => h) (Or.inl ⟨by rfl, ?_⟩) hS ?_
  rotate_left
  · intro W hW; go_simp; with_reducible rfl
  try simp only [Act.put, List.setIfInBounds_toArray, List.set_cons_zero, List.set_cons_succ]
  refine wpAnyH_take (i := 11) (oi := ⟨some 14, _, _, _, _, _⟩) (v := ?_) rfl (by kernel_rfl) (by kernel_rfl) (by kernel_rfl) (fun _ _ _ h => h) (Or.inl ⟨by rfl, ?_⟩) hS ?_
  rotate_left
  · intro W hW; go_simp; with_reducible rfl
  try simp only [Act.put, List.setIfInBounds_toArray, List.set_cons_zero, List.set_cons_succ]
  refine wpAnyH_ready (rs := [12]) (by kernel_rfl) (by simp) ?_
  refine AllReadyH.cons (o := ⟨some 15, _, _, _, _, _⟩) rfl (fun Kr hKr => ?_) AllReadyH.nil
  -- operation 12: a step
  refine Rk.wp_append2 rp_oko (.tmp 10) (.tmp 14) rfl (g + 1) pv X R rfl HRD.out.past rA rn rc rfl HRD.out.rest HRD.out.rl HSP.out (by have := HLE.out; have := HRD.out.rl; omega) (HGS.out) ?_
  intro v4 w4 hx1 hg1 ha1
  obtain ⟨n4, hn4⟩ : ∃ n4, (X ++ R).length = n4 := ⟨_, rfl⟩
  obtain ⟨A4, c4, rfl⟩ := own_slice rp_oko hx1 hn4
  have HN4 := Lib.hid hn4
  have HN5 := Lib.hid (show ∀ q, (Value.slice A4 n4 c4).ownBlock = some q → q ≠ gt from fun q e => by rcases ha1 with h | h; exact HNE.out q (h.symm.trans e); have h2 : q = (World.drew w1).heap.size := Option.some.inj (e.symm.trans h); have h3 := HGU.out; omega)
  clear hn4 ha1
  have HO4 := Lib.hid hx1
  have HG4 := Lib.hid hg1
  have HF4 := Lib.hid (HXD.out.far hg1 (fun e => HNE.out _ e.symm rfl))
  clear hx1 hg1
  show Kr _ _
  refine hKr.out _ _ ?_ (fun _ => ?_)
  · exact Turn.trans hS (Turn.grown (Turn.refl _ _) HG4.out (fun j e => .inl (.inr e)))
  clear hKr Kr
  replace hS : Turn (fun q => q = gt ∨ pv.ownBlock = some q) w1 w4 := Turn.trans hS (Turn.grown (Turn.refl _ _) HG4.out (fun j e => .inl (.inr e)))
  try simp only [Act.put, List.setIfInBounds_toArray, List.set_cons_zero, List.set_cons_succ]
  refine wpAnyH_take (i := 13) (oi := ⟨some 16, _, _, _, _, _⟩) (v := ?_) rfl (by kernel_rfl) (by kernel_rfl) (by kernel_rfl) (fun _ _ _ h => h) (Or.inl ⟨by rfl, ?_⟩) hS ?_
  rotate_left
  · intro W hW; go_simp; with_reducible rfl
  try simp only [Act.put, List.setIfInBounds_toArray, List.set_cons_zero, List.set_cons_succ]
  refine wpAnyH_ready (rs := [14]) (by kernel_rfl) (by simp) ?_
  refine AllReadyH.cons (o := ⟨none, _, _, _, _, _⟩) rfl (fun Kr hKr => ?_) AllReadyH.nil
  -- operation 14: a step
  refine wp_store_bk 34 _ _ rfl gt (tbC cA n cc A4 n4 c4) rfl rfl 34 #[.slice none 0 0, .slice none 0 0] HF4.out (by kernel_rfl) rfl (by simp [Value.oneCell']) ?_
  intro w9 hk9 hg9
  have HK9 := Lib.hid (show Bk w9 gt (tbC cA n cc A4 n4 c4) 34 from hk9)
  have HG9 := Lib.hid hg9
  clear hk9 hg9
  show Kr _ _
  refine hKr.out _ _ ?_ (fun _ => ?_)
  · exact Turn.trans hS (Turn.grown (Turn.refl _ _) HG9.out (fun j e => by injection e with e; exact .inl (.inl e.symm)))
  clear hKr Kr
  replace hS : Turn (fun q => q = gt ∨ pv.ownBlock = some q) w1 w9 := Turn.trans hS (Turn.grown (Turn.refl _ _) HG9.out (fun j e => by injection e with e; exact .inl (.inl e.symm)))
  try simp only [Act.put, List.setIfInBounds_toArray, List.set_cons_zero, List.set_cons_succ]
  refine wpAnyH_done (by kernel_rfl) ?_ _
  have t0 := HK9.out.t0
  have t1 := HK9.out.t1
  go_wp2_with fail
  have hT9 : Turn (fun q => q = gt) w4 w9 := (Turn.refl _ _).grown HG9.out (fun j e => by injection e with e; exact .inl e.symm)
  obtain ⟨A9, c9, e9, h9, hat9, hsp9⟩ := HO4.out.form rp_oko
  injection e9 with e91 e92 e93
  subst e91
  subst e93
  refine bodyPost_ret (v := tbV cA n cc A4 n4 c4) (by rw [results_cell_one rfl]; go_simp) rfl ⟨A4, n4, c4, rfl, ?_, HN4.out, by have := HN4.out; omega, ?_, ?_, ?_, HB1.out.trans (Turn.below hS (fun q h => by rcases h with h | h; have := HGT.out; omega; have := (HH1.out.past.lt q h).1; omega) HGL.out)⟩
  · exact (HO4.out.turn hT9 (fun q e h => by exact HN5.out _ e h)).at_ rp_oko
  · rcases hsp9 with h | ⟨q, e, h1, h2⟩
    · exact .inl h
    · exact .inr ⟨_, _, e⟩
  · intro q o e
    have h1 := hT9.size
    rcases hsp9 with h | ⟨q9, e9, h2, h3⟩
    · rw [h] at e; cases e
    · rw [e9] at e; injection e with e; injection e with e1; omega
  · exact (HH1.out.c.turn hS (fun q e h => by have h1 := HH1.out.cg q e; rcases h with h | h; have := HGT.out; omega; have := (HH1.out.past.lt q h).1; omega)).at_ rc_oko
end Go.Proofs.Ytogngghfdcpeaaa
