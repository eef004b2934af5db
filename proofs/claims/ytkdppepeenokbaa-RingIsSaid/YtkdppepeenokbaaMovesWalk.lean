/-
  RingMoves: the walk: a ring whose places are all a size farther stands in the same sectors.
-/
import Derived.Test.YtkdppepeenokbaaApartWalk
namespace Go.Proofs.Ytkdppepeenokbaa
open Go.RowKit

theorem spans_two (r : Rg) (a n : Int) : (r.spans a n).length ≤ 2 := by
  unfold Rg.spans
  split
  · split
    · simp
    · split <;> simp
  · simp

set_option maxHeartbeats 16000000 in
set_option maxRecDepth 100000 in
theorem moves_walk (f0 s0 a0 b0 : Int) (w : World) : Calls Try.prog 8 #[.int .i64 f0, .int .i64 s0, .int .i64 a0, .int .i64 b0] w fun e w' => e = .returned (.bool true) ∧ Below w.heap.size w w' := by
  obtain ⟨F, hF, eF⟩ := low f0 1023 10 (by decide) (by omega)
  obtain ⟨s, hs, eS⟩ := low s0 63 6 (by decide) (by omega)
  obtain ⟨p, hp, eP⟩ := low a0 65535 16 (by decide) (by omega)
  obtain ⟨b, hb, eB⟩ := low b0 65535 16 (by decide) (by omega)
  simp only [Nat.reducePow] at hF hs hp hb
  have ok : (Rg.mk F (1 + s) 0 0).Ok := ok_new (by omega) (by omega) (by omega) (by omega)
  obtain ⟨d, HD⟩ : ∃ d, Hid (d = (b : Int) % (1 + (s : Int) + 1)) := ⟨_, Lib.hid rfl⟩
  have hd0 : 0 ≤ d := by rw [HD.out]; exact Int.emod_nonneg _ (by omega)
  have hd1 : d < 1 + s + 1 := by rw [HD.out]; exact Int.emod_lt_of_pos _ (by omega)
  have hd := HD.out.symm
  have hm1 : (Rg.mk F (1 + s) 0 0).may p d = true := Rg.may_iff.2 ⟨ok, ⟨by omega, by omega⟩, hd0, by show d ≤ 1 + (s : Int); omega⟩
  have hm2 : (Rg.mk F (1 + s) 0 0).may (p + (1 + s)) d = true := Rg.may_iff.2 ⟨ok, ⟨by omega, by omega⟩, hd0, by show d ≤ 1 + (s : Int); omega⟩
  have c1 := spans_any ⟨F, 1 + s, 0, 0⟩ p d
  have c2 := spans_any ⟨F, 1 + s, 0, 0⟩ (p + (1 + s)) d
  rw [show (Rg.mk F (1 + s) 0 0).spans (p + (1 + s)) d = (Rg.mk F (1 + s) 0 0).spans p d from by rw [spans_is hm1, spans_is hm2]; show spansI F (1 + s) ((p + (1 + s)) % (1 + s)) d = _; rw [Int.add_emod_right]] at c2
  have HT := Lib.hid (spans_two (Rg.mk F (1 + s) 0 0) p d)
  have e1 := sector_any ⟨F, 1 + s, 0, 0⟩ p
  have e2 := sector_any ⟨F, 1 + s, 0, 0⟩ (p + 3 * (1 + s))
  rw [show (Rg.mk F (1 + s) 0 0).sector (p + 3 * (1 + s)) = (Rg.mk F (1 + s) 0 0).sector p from by rw [sector_ok ok (by omega) (by omega), sector_ok ok (by omega) (by omega)]; show F + (p + 3 * (1 + s)) % (1 + s) = F + (p : Int) % (1 + s); rw [Int.add_mul_emod_self_right]] at e2
  generalize (Rg.mk F (1 + s) 0 0).spans p d = l at *
  generalize (Rg.mk F (1 + s) 0 0).sector p = x at *
  clear ok hm1 hm2
  go_enter Try.func8, Try.ntmps8
  go_wp2_with fail
  refine (awake_any w).mono ?_
  rintro e w0 ⟨rfl, hb0⟩
  have HB := Lib.hid (below_two hb0 (below_new w0 (.cells (rgC ⟨F, 1 + s, 0, 0⟩) 25)))
  have Ho_ := Lib.hid (Bx.new w0 ⟨F, 1 + s, 0, 0⟩ 25)
  clear hb0
  go_wp2_with fail
  refine (c1 _).mono ?_
  rintro e w1 ⟨A, N, cap, rfl, hN, hl, hb⟩
  replace HB := Lib.hid (below_two HB.out hb)
  replace Ho_ := Lib.hid (Ho_.out.below hb)
  have HL := Lib.hid hl
  have HN := Lib.hid hN
  have hN2 : N ≤ 2 := by rw [hN]; exact HT.out
  clear hb hl hN c1
  have x0 := Ho_.out.c0
  have x1 := Ho_.out.c1
  have x2 := Ho_.out.c2
  have x3 := Ho_.out.c3
  go_wp2_with fail
  refine (c2 _).mono ?_
  rintro e w2 ⟨A2, N2, cap2, rfl, hN3, hl, hb⟩
  replace HB := Lib.hid (below_two HB.out hb)
  replace Ho_ := Lib.hid (Ho_.out.below hb)
  replace HL := Lib.hid (HL.out.up hb)
  have HL2 := Lib.hid hl
  obtain rfl : N = N2 := HN.out.trans hN3.symm
  clear hb hl hN3 c2 x0 x1 x2 x3
  have c_o0 : ∀ V, Since w2 V → V.cell? ⟨w0.heap.size, 0, none⟩ = some (.int .i64 ((F : Int))) := fun V hV => (Ho_.out.from V hV).c0
  have c_o1 : ∀ V, Since w2 V → V.cell? ⟨w0.heap.size, 1, none⟩ = some (.int .i64 (1 + (s : Int))) := fun V hV => (Ho_.out.from V hV).c1
  have c_o2 : ∀ V, Since w2 V → V.cell? ⟨w0.heap.size, 2, none⟩ = some (.int .i64 (0)) := fun V hV => (Ho_.out.from V hV).c2
  have c_o3 : ∀ V, Since w2 V → V.cell? ⟨w0.heap.size, 3, none⟩ = some (.int .i64 (0)) := fun V hV => (Ho_.out.from V hV).c3
  have hw1 : IntKind.i64.wrap (3 * (1 + (s : Int))) = 3 * (1 + (s : Int)) := by rw [IntKind.wrap_i64]; omega
  have hw2 : IntKind.i64.wrap ((p : Int) + 3 * (1 + (s : Int))) = (p : Int) + 3 * (1 + (s : Int)) := by rw [IntKind.wrap_i64]; omega
  have hnn : ((N : Int) != (N : Int)) = false := by simp
  go_wp2_with fail
  refine wp_region_since (by kernel_rfl) ?_
  have hS : Since w2 (World.drew w2) := (Below.refl _ _).drew
  refine wpAnyH_take (i := 0) (oi := ⟨some 42, _, _, _, _, _⟩) (v := ?_) rfl (by kernel_rfl) (by kernel_rfl) (by kernel_rfl) (fun _ _ _ h => h) (Or.inl ⟨by rfl, ?_⟩) hS ?_
  rotate_left
  · intro W hW; go_simp; with_reducible rfl
  try simp only [Act.put, List.setIfInBounds_toArray, List.set_cons_zero, List.set_cons_succ]
  refine wpAnyH_take (i := 1) (oi := ⟨some 43, _, _, _, _, _⟩) (v := ?_) rfl (by kernel_rfl) (by kernel_rfl) (by kernel_rfl) (fun _ _ _ h => h) (Or.inl ⟨by rfl, ?_⟩) hS ?_
  rotate_left
  · intro W hW; go_simp; with_reducible rfl
  try simp only [Act.put, List.setIfInBounds_toArray, List.set_cons_zero, List.set_cons_succ]
  refine wpAnyH_take (i := 2) (oi := ⟨some 44, _, _, _, _, _⟩) (v := ?_) rfl (by kernel_rfl) (by kernel_rfl) (by kernel_rfl) (fun _ _ _ h => h) (Or.inl ⟨by rfl, ?_⟩) hS ?_
  rotate_left
  · intro W hW; go_simp; with_reducible rfl
  try simp only [Act.put, List.setIfInBounds_toArray, List.set_cons_zero, List.set_cons_succ]
  refine wpAnyH_take (i := 3) (oi := ⟨some 45, _, _, _, _, _⟩) (v := ?_) rfl (by kernel_rfl) (by kernel_rfl) (by kernel_rfl) (fun _ _ _ h => h) (Or.inl ⟨by rfl, ?_⟩) hS ?_
  rotate_left
  · intro W hW; go_simp; with_reducible rfl
  try simp only [Act.put, List.setIfInBounds_toArray, List.set_cons_zero, List.set_cons_succ]
  refine wpAnyH_take (i := 4) (oi := ⟨some 46, _, _, _, _, _⟩) (v := ?_) rfl (by kernel_rfl) (by kernel_rfl) (by kernel_rfl) (fun _ _ _ h => h) (Or.inl ⟨by rfl, ?_⟩) hS ?_
  rotate_left
  · intro W hW; go_simp; with_reducible rfl
  try simp only [Act.put, List.setIfInBounds_toArray, List.set_cons_zero, List.set_cons_succ]
  refine wpAnyH_take (i := 5) (oi := ⟨some 47, _, _, _, _, _⟩) (v := ?_) rfl (by kernel_rfl) (by kernel_rfl) (by kernel_rfl) (fun _ _ _ h => h) (Or.inl ⟨by rfl, ?_⟩) hS ?_
  rotate_left
  · intro W hW; go_simp; with_reducible rfl
  try simp only [Act.put, List.setIfInBounds_toArray, List.set_cons_zero, List.set_cons_succ]
  refine wpAnyH_take (i := 6) (oi := ⟨some 48, _, _, _, _, _⟩) (v := ?_) rfl (by kernel_rfl) (by kernel_rfl) (by kernel_rfl) (fun _ _ _ h => h) (Or.inl ⟨by rfl, ?_⟩) hS ?_
  rotate_left
  · intro W hW; go_simp; with_reducible rfl
  try simp only [Act.put, List.setIfInBounds_toArray, List.set_cons_zero, List.set_cons_succ]
  refine wpAnyH_take (i := 7) (oi := ⟨some 49, _, _, _, _, _⟩) (v := ?_) rfl (by kernel_rfl) (by kernel_rfl) (by kernel_rfl) (fun _ _ _ h => h) (Or.inl ⟨by rfl, ?_⟩) hS ?_
  rotate_left
  · intro W hW; go_simp; with_reducible rfl
  try simp only [Act.put, List.setIfInBounds_toArray, List.set_cons_zero, List.set_cons_succ]
  refine wpAnyH_take (i := 9) (oi := ⟨some 51, _, _, _, _, _⟩) (v := ?_) rfl (by kernel_rfl) (by kernel_rfl) (by kernel_rfl) (fun _ _ _ h => h) (Or.inl ⟨by rfl, ?_⟩) hS ?_
  rotate_left
  · intro W hW; go_simp; with_reducible rfl
  try simp only [Act.put, List.setIfInBounds_toArray, List.set_cons_zero, List.set_cons_succ]
  refine wpAnyH_take (i := 10) (oi := ⟨some 52, _, _, _, _, _⟩) (v := ?_) rfl (by kernel_rfl) (by kernel_rfl) (by kernel_rfl) (fun _ _ _ h => h) (Or.inl ⟨by rfl, ?_⟩) hS ?_
  rotate_left
  · intro W hW; go_simp; with_reducible rfl
  try simp only [Act.put, List.setIfInBounds_toArray, List.set_cons_zero, List.set_cons_succ]
  refine wpAnyH_take (i := 11) (oi := ⟨some 53, _, _, _, _, _⟩) (v := ?_) rfl (by kernel_rfl) (by kernel_rfl) (by kernel_rfl) (fun _ _ _ h => h) (Or.inl ⟨by rfl, ?_⟩) hS ?_
  rotate_left
  · intro W hW; go_simp; with_reducible rfl
  try simp only [Act.put, List.setIfInBounds_toArray, List.set_cons_zero, List.set_cons_succ]
  refine wpAnyH_take (i := 12) (oi := ⟨some 54, _, _, _, _, _⟩) (v := ?_) rfl (by kernel_rfl) (by kernel_rfl) (by kernel_rfl) (fun _ _ _ h => h) (Or.inl ⟨by rfl, ?_⟩) hS ?_
  rotate_left
  · intro W hW; go_simp; with_reducible rfl
  try simp only [Act.put, List.setIfInBounds_toArray, List.set_cons_zero, List.set_cons_succ]
  refine wpAnyH_take (i := 13) (oi := ⟨some 55, _, _, _, _, _⟩) (v := ?_) rfl (by kernel_rfl) (by kernel_rfl) (by kernel_rfl) (fun _ _ _ h => h) (Or.inl ⟨by rfl, ?_⟩) hS ?_
  rotate_left
  · intro W hW; go_simp; with_reducible rfl
  try simp only [Act.put, List.setIfInBounds_toArray, List.set_cons_zero, List.set_cons_succ]
  refine wpAnyH_take (i := 14) (oi := ⟨some 56, _, _, _, _, _⟩) (v := ?_) rfl (by kernel_rfl) (by kernel_rfl) (by kernel_rfl) (fun _ _ _ h => h) (Or.inl ⟨by rfl, ?_⟩) hS ?_
  rotate_left
  · intro W hW; go_simp; with_reducible rfl
  try simp only [Act.put, List.setIfInBounds_toArray, List.set_cons_zero, List.set_cons_succ]
  refine wpAnyH_ready (rs := [8]) (by kernel_rfl) (by simp) ?_
  refine AllReadyH.cons (o := ⟨some 50, _, _, _, _, _⟩) rfl (fun Kr hKr => ?_) AllReadyH.nil
  -- operation 8: a call
  go_simp
  refine (e1 _).mono ?_
  rintro e V0 ⟨rfl, hx⟩
  show Kr _ _
  refine hKr.out _ _ ?_ (fun _ => ?_)
  · exact since_trans hS hx
  clear hKr Kr
  replace hS : Since w2 V0 := since_trans hS hx
  try simp only [Act.put, List.setIfInBounds_toArray, List.set_cons_zero, List.set_cons_succ]
  refine wpAnyH_ready (rs := [15]) (by kernel_rfl) (by simp) ?_
  refine AllReadyH.cons (o := ⟨some 57, _, _, _, _, _⟩) rfl (fun Kr hKr => ?_) AllReadyH.nil
  -- operation 15: a call
  go_simp
  refine (e2 _).mono ?_
  rintro e V1 ⟨rfl, hx⟩
  show Kr _ _
  refine hKr.out _ _ ?_ (fun _ => ?_)
  · exact since_trans hS hx
  clear hKr Kr
  replace hS : Since w2 V1 := since_trans hS hx
  try simp only [Act.put, List.setIfInBounds_toArray, List.set_cons_zero, List.set_cons_succ]
  refine wpAnyH_take (i := 16) (oi := ⟨some 58, _, _, _, _, _⟩) (v := ?_) rfl (by kernel_rfl) (by kernel_rfl) (by kernel_rfl) (fun _ _ _ h => h) (Or.inl ⟨by rfl, ?_⟩) hS ?_
  rotate_left
  · intro W hW; go_simp; with_reducible rfl
  try simp only [Act.put, List.setIfInBounds_toArray, List.set_cons_zero, List.set_cons_succ]
  refine wpAnyH_take (i := 17) (oi := ⟨some 59, _, _, _, _, _⟩) (v := ?_) rfl (by kernel_rfl) (by kernel_rfl) (by kernel_rfl) (fun _ _ _ h => h) (Or.inl ⟨by rfl, ?_⟩) hS ?_
  rotate_left
  · intro W hW; go_simp; with_reducible rfl
  try simp only [Act.put, List.setIfInBounds_toArray, List.set_cons_zero, List.set_cons_succ]
  refine wpAnyH_done (by kernel_rfl) ?_ _
  replace HB := Lib.hid (below_two HB.out hS)
  replace HL := Lib.hid (HL.out.up hS)
  replace HL2 := Lib.hid (HL2.out.up hS)
  clear c_o0 c_o1 c_o2 c_o3 Ho_ e1 e2 hw1 hw2 hnn
  go_wp2_with fail
  go_loopw [15] (fun u wr => ∃ j : Nat, u = .int .i64 (j : Int) ∧ j ≤ N ∧ Hid (Below V1.heap.size V1 wr)) (fun u _ => N - (intOf u).toNat)
  case atStart => exact ⟨0, rfl, Nat.zero_le _, Below.refl _ _⟩
  case round =>
    obtain ⟨j, rfl, hj, HW⟩ := hrel
    rcases Nat.lt_or_ge j N with hlt | hge
    · rcases HL.out with h0 | ⟨g, rfl, hg, hc⟩
      · have := HN.out; rw [h0] at this; simp at this; omega
      rcases HL2.out with h0 | ⟨g2, rfl, hg2, hc2⟩
      · have := HN.out; rw [h0] at this; simp at this; omega
      have hjl : j < l.length := by have := HN.out; omega
      have k1 := (HW.out.cell (p := ⟨g, j * 2, none⟩) hg).trans (hc j _ (List.getElem?_eq_getElem hjl)).1
      have k2 := (HW.out.cell (p := ⟨g, j * 2 + 1, none⟩) hg).trans (hc j _ (List.getElem?_eq_getElem hjl)).2
      have k3 := (HW.out.cell (p := ⟨g2, j * 2, none⟩) hg2).trans (hc2 j _ (List.getElem?_eq_getElem hjl)).1
      have k4 := (HW.out.cell (p := ⟨g2, j * 2 + 1, none⟩) hg2).trans (hc2 j _ (List.getElem?_eq_getElem hjl)).2
      generalize l[j] = z at k1 k2 k3 k4
      obtain ⟨x, y⟩ := z
      simp only at k1 k2 k3 k4
      have hdj : decide ((j : Int) < (N : Int)) = true := decide_eq_true (by omega)
      have hdj2 : decide (j < N) = true := decide_eq_true (by omega)
      have heq := run_pair_same x y
      clear hc hc2 hg hg2 hjl
      go_wp2_with fail
      go_quiet (fail)
      go_wp2_with fail
      refine ⟨⟨j + 1, by go_num, by omega, Lib.hid (below_drewN HW.out _)⟩, by simp [intOf]; omega⟩
    · obtain rfl : j = N := by omega
      have hdj : decide ((j : Int) < (j : Int)) = false := decide_eq_false (by omega)
      have hdj2 : decide (j < j) = false := decide_eq_false (by omega)
      go_wp2_with fail
      go_ret
      exact ⟨rfl, below_two HB.out HW.out⟩

end Go.Proofs.Ytkdppepeenokbaa
