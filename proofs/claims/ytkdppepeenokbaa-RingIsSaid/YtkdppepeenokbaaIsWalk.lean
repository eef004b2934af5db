/-
  RingIs: the walk: every ring, every place, every number: the program and the document answer alike.
-/
import Derived.Test.YtkdppepeenokbaaLawWake
import Derived.Test.YtkdppepeenokbaaMovesWalk
import Derived.Test.YtkdppepeenokbaaRefTakes
namespace Go.Proofs.Ytkdppepeenokbaa
open Go.RowKit

set_option maxHeartbeats 16000000 in
set_option maxRecDepth 100000 in
theorem is_walk (r : Rg) (at_ n : Int) (hn : -9223372036854775808 ≤ n ∧ n < 9223372036854775808) (w : World) : Calls Try.prog 3 #[rgV r, .int .i64 at_, .int .i64 n] w fun e w' => e = .returned (.bool true) ∧ Below w.heap.size w w' := by
  have s1 := sane_any r
  have s2 := refsane_any r
  have u1 := used_any r
  have u2 := refused_any r
  have f1 := free_any r
  have f2 := reffree_any r
  have p1 := sector_any r at_
  have p2 := refsector_any r at_
  have h1 := holds_any r at_
  have h2 := refholds_any r at_
  have t1 := take_any r n hn
  have t2 := reftake_any r n hn
  have d1 := drop_any r at_
  have d2 := refdrop_any r at_
  have l1 := spans_any r at_ n
  have l2 := refspans_any r at_ n
  have hl2 := spans_two r at_ n
  have ho := ours_any r
  generalize r.sane = x1 at s1 s2
  generalize r.used = x2 at u1 u2
  generalize r.free = x3 at f1 f2
  generalize r.sector at_ = x4 at p1 p2
  generalize r.holds at_ = x5 at h1 h2
  generalize r.take n = qa at t1 t2
  generalize r.takeE n = ea at t1 t2
  generalize r.drop at_ = qc at d1 d2
  generalize r.dropE at_ = ec at d1 d2
  generalize r.spans at_ n = l at l1 l2 hl2
  have o1 := theirs_any qa
  have o2 := theirs_any qc
  have q1 := run_ring_eql qa
  have q2 := run_ring_eql qc
  obtain ⟨Fa, Sa, Ha, Ta⟩ := qa
  obtain ⟨Fc, Sc, Hc, Tc⟩ := qc
  have Hr_ := Lib.hid (Bx.new w r 23)
  have HB := Lib.hid (below_new w (.cells (rgC r) 23))
  obtain ⟨F, S, H, T⟩ := r
  go_enter Try.func3, Try.ntmps3
  go_wp2_with fail
  refine (awake_any _).mono ?_
  rintro e w0 ⟨rfl, hb⟩
  replace HB := Lib.hid (below_two HB.out hb)
  replace Hr_ := Lib.hid (Hr_.out.below hb)
  clear hb
  have c_r_0 := Hr_.out.c0
  have c_r_1 := Hr_.out.c1
  have c_r_2 := Hr_.out.c2
  have c_r_3 := Hr_.out.c3
  go_wp2_with fail
  clear c_r_0 c_r_1 c_r_2 c_r_3
  refine (ho _).mono ?_
  rintro e w1 ⟨rfl, hb⟩
  replace HB := Lib.hid (below_two HB.out hb)
  replace Hr_ := Lib.hid (Hr_.out.below hb)
  clear hb
  have hb := below_new w1 (.cells (rgC ⟨F, S, H, T⟩) 25)
  replace HB := Lib.hid (below_two HB.out hb)
  replace Hr_ := Lib.hid (Hr_.out.below hb)
  clear hb
  have Ho_ := Lib.hid (Bx.new w1 ⟨F, S, H, T⟩ 25)
  have c_r_0 := Hr_.out.c0
  have c_r_1 := Hr_.out.c1
  have c_r_2 := Hr_.out.c2
  have c_r_3 := Hr_.out.c3
  have c_o_0 := Ho_.out.c0
  have c_o_1 := Ho_.out.c1
  have c_o_2 := Ho_.out.c2
  have c_o_3 := Ho_.out.c3
  go_wp2_with fail
  clear c_r_0 c_r_1 c_r_2 c_r_3 c_o_0 c_o_1 c_o_2 c_o_3
  refine (t1 _).mono ?_
  rintro e w2 ⟨rfl, hb⟩
  replace HB := Lib.hid (below_two HB.out hb)
  replace Hr_ := Lib.hid (Hr_.out.below hb)
  replace Ho_ := Lib.hid (Ho_.out.below hb)
  clear hb
  have hb := below_new w2 (.cells (rgC ⟨Fa, Sa, Ha, Ta⟩) 25)
  replace HB := Lib.hid (below_two HB.out hb)
  replace Hr_ := Lib.hid (Hr_.out.below hb)
  replace Ho_ := Lib.hid (Ho_.out.below hb)
  clear hb
  have Ha_ := Lib.hid (Bx.new w2 ⟨Fa, Sa, Ha, Ta⟩ 25)
  have c_r_0 := Hr_.out.c0
  have c_r_1 := Hr_.out.c1
  have c_r_2 := Hr_.out.c2
  have c_r_3 := Hr_.out.c3
  have c_o_0 := Ho_.out.c0
  have c_o_1 := Ho_.out.c1
  have c_o_2 := Ho_.out.c2
  have c_o_3 := Ho_.out.c3
  have c_a_0 := Ha_.out.c0
  have c_a_1 := Ha_.out.c1
  have c_a_2 := Ha_.out.c2
  have c_a_3 := Ha_.out.c3
  go_wp2_with fail
  clear c_r_0 c_r_1 c_r_2 c_r_3 c_o_0 c_o_1 c_o_2 c_o_3 c_a_0 c_a_1 c_a_2 c_a_3
  refine (t2 _).mono ?_
  rintro e w3 ⟨rfl, hb⟩
  replace HB := Lib.hid (below_two HB.out hb)
  replace Hr_ := Lib.hid (Hr_.out.below hb)
  replace Ho_ := Lib.hid (Ho_.out.below hb)
  replace Ha_ := Lib.hid (Ha_.out.below hb)
  clear hb
  have hb := below_new w3 (.cells (rgC ⟨Fa, Sa, Ha, Ta⟩) 23)
  replace HB := Lib.hid (below_two HB.out hb)
  replace Hr_ := Lib.hid (Hr_.out.below hb)
  replace Ho_ := Lib.hid (Ho_.out.below hb)
  replace Ha_ := Lib.hid (Ha_.out.below hb)
  clear hb
  have Hb_ := Lib.hid (Bx.new w3 ⟨Fa, Sa, Ha, Ta⟩ 23)
  have c_r_0 := Hr_.out.c0
  have c_r_1 := Hr_.out.c1
  have c_r_2 := Hr_.out.c2
  have c_r_3 := Hr_.out.c3
  have c_o_0 := Ho_.out.c0
  have c_o_1 := Ho_.out.c1
  have c_o_2 := Ho_.out.c2
  have c_o_3 := Ho_.out.c3
  have c_a_0 := Ha_.out.c0
  have c_a_1 := Ha_.out.c1
  have c_a_2 := Ha_.out.c2
  have c_a_3 := Ha_.out.c3
  have c_b_0 := Hb_.out.c0
  have c_b_1 := Hb_.out.c1
  have c_b_2 := Hb_.out.c2
  have c_b_3 := Hb_.out.c3
  go_wp2_with fail
  clear c_r_0 c_r_1 c_r_2 c_r_3 c_o_0 c_o_1 c_o_2 c_o_3 c_a_0 c_a_1 c_a_2 c_a_3 c_b_0 c_b_1 c_b_2 c_b_3
  refine (d1 _).mono ?_
  rintro e w4 ⟨rfl, hb⟩
  replace HB := Lib.hid (below_two HB.out hb)
  replace Hr_ := Lib.hid (Hr_.out.below hb)
  replace Ho_ := Lib.hid (Ho_.out.below hb)
  replace Ha_ := Lib.hid (Ha_.out.below hb)
  replace Hb_ := Lib.hid (Hb_.out.below hb)
  clear hb
  have hb := below_new w4 (.cells (rgC ⟨Fc, Sc, Hc, Tc⟩) 25)
  replace HB := Lib.hid (below_two HB.out hb)
  replace Hr_ := Lib.hid (Hr_.out.below hb)
  replace Ho_ := Lib.hid (Ho_.out.below hb)
  replace Ha_ := Lib.hid (Ha_.out.below hb)
  replace Hb_ := Lib.hid (Hb_.out.below hb)
  clear hb
  have Hc_ := Lib.hid (Bx.new w4 ⟨Fc, Sc, Hc, Tc⟩ 25)
  have c_r_0 := Hr_.out.c0
  have c_r_1 := Hr_.out.c1
  have c_r_2 := Hr_.out.c2
  have c_r_3 := Hr_.out.c3
  have c_o_0 := Ho_.out.c0
  have c_o_1 := Ho_.out.c1
  have c_o_2 := Ho_.out.c2
  have c_o_3 := Ho_.out.c3
  have c_a_0 := Ha_.out.c0
  have c_a_1 := Ha_.out.c1
  have c_a_2 := Ha_.out.c2
  have c_a_3 := Ha_.out.c3
  have c_b_0 := Hb_.out.c0
  have c_b_1 := Hb_.out.c1
  have c_b_2 := Hb_.out.c2
  have c_b_3 := Hb_.out.c3
  have c_c_0 := Hc_.out.c0
  have c_c_1 := Hc_.out.c1
  have c_c_2 := Hc_.out.c2
  have c_c_3 := Hc_.out.c3
  go_wp2_with fail
  clear c_r_0 c_r_1 c_r_2 c_r_3 c_o_0 c_o_1 c_o_2 c_o_3 c_a_0 c_a_1 c_a_2 c_a_3 c_b_0 c_b_1 c_b_2 c_b_3 c_c_0 c_c_1 c_c_2 c_c_3
  refine (d2 _).mono ?_
  rintro e w5 ⟨rfl, hb⟩
  replace HB := Lib.hid (below_two HB.out hb)
  replace Hr_ := Lib.hid (Hr_.out.below hb)
  replace Ho_ := Lib.hid (Ho_.out.below hb)
  replace Ha_ := Lib.hid (Ha_.out.below hb)
  replace Hb_ := Lib.hid (Hb_.out.below hb)
  replace Hc_ := Lib.hid (Hc_.out.below hb)
  clear hb
  have hb := below_new w5 (.cells (rgC ⟨Fc, Sc, Hc, Tc⟩) 23)
  replace HB := Lib.hid (below_two HB.out hb)
  replace Hr_ := Lib.hid (Hr_.out.below hb)
  replace Ho_ := Lib.hid (Ho_.out.below hb)
  replace Ha_ := Lib.hid (Ha_.out.below hb)
  replace Hb_ := Lib.hid (Hb_.out.below hb)
  replace Hc_ := Lib.hid (Hc_.out.below hb)
  clear hb
  have Hd_ := Lib.hid (Bx.new w5 ⟨Fc, Sc, Hc, Tc⟩ 23)
  have c_r_0 := Hr_.out.c0
  have c_r_1 := Hr_.out.c1
  have c_r_2 := Hr_.out.c2
  have c_r_3 := Hr_.out.c3
  have c_o_0 := Ho_.out.c0
  have c_o_1 := Ho_.out.c1
  have c_o_2 := Ho_.out.c2
  have c_o_3 := Ho_.out.c3
  have c_a_0 := Ha_.out.c0
  have c_a_1 := Ha_.out.c1
  have c_a_2 := Ha_.out.c2
  have c_a_3 := Ha_.out.c3
  have c_b_0 := Hb_.out.c0
  have c_b_1 := Hb_.out.c1
  have c_b_2 := Hb_.out.c2
  have c_b_3 := Hb_.out.c3
  have c_c_0 := Hc_.out.c0
  have c_c_1 := Hc_.out.c1
  have c_c_2 := Hc_.out.c2
  have c_c_3 := Hc_.out.c3
  have c_d_0 := Hd_.out.c0
  have c_d_1 := Hd_.out.c1
  have c_d_2 := Hd_.out.c2
  have c_d_3 := Hd_.out.c3
  go_wp2_with fail
  clear c_r_0 c_r_1 c_r_2 c_r_3 c_o_0 c_o_1 c_o_2 c_o_3 c_a_0 c_a_1 c_a_2 c_a_3 c_b_0 c_b_1 c_b_2 c_b_3 c_c_0 c_c_1 c_c_2 c_c_3 c_d_0 c_d_1 c_d_2 c_d_3
  generalize w5.alloc (.cells (rgC ⟨Fc, Sc, Hc, Tc⟩) 23) = wz at *
  have c_r_0 : ∀ V, Since wz V → V.cell? ⟨w.heap.size, 0, none⟩ = some (.int .i64 (F)) := fun V hV => (Hr_.out.from V hV).c0
  have c_r_1 : ∀ V, Since wz V → V.cell? ⟨w.heap.size, 1, none⟩ = some (.int .i64 (S)) := fun V hV => (Hr_.out.from V hV).c1
  have c_r_2 : ∀ V, Since wz V → V.cell? ⟨w.heap.size, 2, none⟩ = some (.int .i64 (H)) := fun V hV => (Hr_.out.from V hV).c2
  have c_r_3 : ∀ V, Since wz V → V.cell? ⟨w.heap.size, 3, none⟩ = some (.int .i64 (T)) := fun V hV => (Hr_.out.from V hV).c3
  have c_o_0 : ∀ V, Since wz V → V.cell? ⟨w1.heap.size, 0, none⟩ = some (.int .i64 (F)) := fun V hV => (Ho_.out.from V hV).c0
  have c_o_1 : ∀ V, Since wz V → V.cell? ⟨w1.heap.size, 1, none⟩ = some (.int .i64 (S)) := fun V hV => (Ho_.out.from V hV).c1
  have c_o_2 : ∀ V, Since wz V → V.cell? ⟨w1.heap.size, 2, none⟩ = some (.int .i64 (H)) := fun V hV => (Ho_.out.from V hV).c2
  have c_o_3 : ∀ V, Since wz V → V.cell? ⟨w1.heap.size, 3, none⟩ = some (.int .i64 (T)) := fun V hV => (Ho_.out.from V hV).c3
  have c_a_0 : ∀ V, Since wz V → V.cell? ⟨w2.heap.size, 0, none⟩ = some (.int .i64 (Fa)) := fun V hV => (Ha_.out.from V hV).c0
  have c_a_1 : ∀ V, Since wz V → V.cell? ⟨w2.heap.size, 1, none⟩ = some (.int .i64 (Sa)) := fun V hV => (Ha_.out.from V hV).c1
  have c_a_2 : ∀ V, Since wz V → V.cell? ⟨w2.heap.size, 2, none⟩ = some (.int .i64 (Ha)) := fun V hV => (Ha_.out.from V hV).c2
  have c_a_3 : ∀ V, Since wz V → V.cell? ⟨w2.heap.size, 3, none⟩ = some (.int .i64 (Ta)) := fun V hV => (Ha_.out.from V hV).c3
  have c_b_0 : ∀ V, Since wz V → V.cell? ⟨w3.heap.size, 0, none⟩ = some (.int .i64 (Fa)) := fun V hV => (Hb_.out.from V hV).c0
  have c_b_1 : ∀ V, Since wz V → V.cell? ⟨w3.heap.size, 1, none⟩ = some (.int .i64 (Sa)) := fun V hV => (Hb_.out.from V hV).c1
  have c_b_2 : ∀ V, Since wz V → V.cell? ⟨w3.heap.size, 2, none⟩ = some (.int .i64 (Ha)) := fun V hV => (Hb_.out.from V hV).c2
  have c_b_3 : ∀ V, Since wz V → V.cell? ⟨w3.heap.size, 3, none⟩ = some (.int .i64 (Ta)) := fun V hV => (Hb_.out.from V hV).c3
  have c_c_0 : ∀ V, Since wz V → V.cell? ⟨w4.heap.size, 0, none⟩ = some (.int .i64 (Fc)) := fun V hV => (Hc_.out.from V hV).c0
  have c_c_1 : ∀ V, Since wz V → V.cell? ⟨w4.heap.size, 1, none⟩ = some (.int .i64 (Sc)) := fun V hV => (Hc_.out.from V hV).c1
  have c_c_2 : ∀ V, Since wz V → V.cell? ⟨w4.heap.size, 2, none⟩ = some (.int .i64 (Hc)) := fun V hV => (Hc_.out.from V hV).c2
  have c_c_3 : ∀ V, Since wz V → V.cell? ⟨w4.heap.size, 3, none⟩ = some (.int .i64 (Tc)) := fun V hV => (Hc_.out.from V hV).c3
  have c_d_0 : ∀ V, Since wz V → V.cell? ⟨w5.heap.size, 0, none⟩ = some (.int .i64 (Fc)) := fun V hV => (Hd_.out.from V hV).c0
  have c_d_1 : ∀ V, Since wz V → V.cell? ⟨w5.heap.size, 1, none⟩ = some (.int .i64 (Sc)) := fun V hV => (Hd_.out.from V hV).c1
  have c_d_2 : ∀ V, Since wz V → V.cell? ⟨w5.heap.size, 2, none⟩ = some (.int .i64 (Hc)) := fun V hV => (Hd_.out.from V hV).c2
  have c_d_3 : ∀ V, Since wz V → V.cell? ⟨w5.heap.size, 3, none⟩ = some (.int .i64 (Tc)) := fun V hV => (Hd_.out.from V hV).c3
  clear Hr_ Ho_ Ha_ Hb_ Hc_ Hd_ ho t1 t2 d1 d2 hn
  refine wp_region_since (by kernel_rfl) ?_
  have hS : Since wz (World.drew wz) := (Below.refl _ _).drew
  refine wpAnyH_take (i := 0) (oi := ⟨some 44, _, _, _, _, _⟩) (v := ?_) rfl (by kernel_rfl) (by kernel_rfl) (by kernel_rfl) (fun _ _ _ h => h) (Or.inl ⟨by rfl, ?_⟩) hS ?_
  rotate_left
  · intro W hW; go_simp; with_reducible rfl
  try simp only [Act.put, List.setIfInBounds_toArray, List.set_cons_zero, List.set_cons_succ]
  refine wpAnyH_take (i := 1) (oi := ⟨some 45, _, _, _, _, _⟩) (v := ?_) rfl (by kernel_rfl) (by kernel_rfl) (by kernel_rfl) (fun _ _ _ h => h) (Or.inl ⟨by rfl, ?_⟩) hS ?_
  rotate_left
  · intro W hW; go_simp; with_reducible rfl
  try simp only [Act.put, List.setIfInBounds_toArray, List.set_cons_zero, List.set_cons_succ]
  refine wpAnyH_take (i := 2) (oi := ⟨some 46, _, _, _, _, _⟩) (v := ?_) rfl (by kernel_rfl) (by kernel_rfl) (by kernel_rfl) (fun _ _ _ h => h) (Or.inl ⟨by rfl, ?_⟩) hS ?_
  rotate_left
  · intro W hW; go_simp; with_reducible rfl
  try simp only [Act.put, List.setIfInBounds_toArray, List.set_cons_zero, List.set_cons_succ]
  refine wpAnyH_take (i := 4) (oi := ⟨some 48, _, _, _, _, _⟩) (v := ?_) rfl (by kernel_rfl) (by kernel_rfl) (by kernel_rfl) (fun _ _ _ h => h) (Or.inl ⟨by rfl, ?_⟩) hS ?_
  rotate_left
  · intro W hW; go_simp; with_reducible rfl
  try simp only [Act.put, List.setIfInBounds_toArray, List.set_cons_zero, List.set_cons_succ]
  refine wpAnyH_ready (rs := [3]) (by kernel_rfl) (by simp) ?_
  refine AllReadyH.cons (o := ⟨some 47, _, _, _, _, _⟩) rfl (fun Kr hKr => ?_) AllReadyH.nil
  -- operation 3: a call
  go_simp
  refine (s1 _).mono ?_
  rintro e V0 ⟨rfl, hx⟩
  show Kr _ _
  refine hKr.out _ _ ?_ (fun _ => ?_)
  · exact since_trans hS hx
  clear hKr Kr
  replace hS : Since wz V0 := since_trans hS hx
  try simp only [Act.put, List.setIfInBounds_toArray, List.set_cons_zero, List.set_cons_succ]
  refine wpAnyH_ready (rs := [5]) (by kernel_rfl) (by simp) ?_
  refine AllReadyH.cons (o := ⟨some 49, _, _, _, _, _⟩) rfl (fun Kr hKr => ?_) AllReadyH.nil
  -- operation 5: a call
  go_simp
  refine (s2 _).mono ?_
  rintro e V1 ⟨rfl, hx⟩
  show Kr _ _
  refine hKr.out _ _ ?_ (fun _ => ?_)
  · exact since_trans hS hx
  clear hKr Kr
  replace hS : Since wz V1 := since_trans hS hx
  try simp only [Act.put, List.setIfInBounds_toArray, List.set_cons_zero, List.set_cons_succ]
  refine wpAnyH_take (i := 6) (oi := ⟨some 50, _, _, _, _, _⟩) (v := ?_) rfl (by kernel_rfl) (by kernel_rfl) (by kernel_rfl) (fun _ _ _ h => h) (Or.inl ⟨by rfl, ?_⟩) hS ?_
  rotate_left
  · intro W hW; go_simp; with_reducible rfl
  try simp only [Act.put, List.setIfInBounds_toArray, List.set_cons_zero, List.set_cons_succ]
  refine wpAnyH_take (i := 7) (oi := ⟨some 51, _, _, _, _, _⟩) (v := ?_) rfl (by kernel_rfl) (by kernel_rfl) (by kernel_rfl) (fun _ _ _ h => h) (Or.inl ⟨by rfl, ?_⟩) hS ?_
  rotate_left
  · intro W hW; go_simp; with_reducible rfl
  try simp only [Act.put, List.setIfInBounds_toArray, List.set_cons_zero, List.set_cons_succ]
  refine wpAnyH_take (i := 8) (oi := ⟨some 52, _, _, _, _, _⟩) (v := ?_) rfl (by kernel_rfl) (by kernel_rfl) (by kernel_rfl) (fun _ _ _ h => h) (Or.inl ⟨by rfl, ?_⟩) hS ?_
  rotate_left
  · intro W hW; go_simp; with_reducible rfl
  try simp only [Act.put, List.setIfInBounds_toArray, List.set_cons_zero, List.set_cons_succ]
  refine wpAnyH_take (i := 9) (oi := ⟨some 53, _, _, _, _, _⟩) (v := ?_) rfl (by kernel_rfl) (by kernel_rfl) (by kernel_rfl) (fun _ _ _ h => h) (Or.inl ⟨by rfl, ?_⟩) hS ?_
  rotate_left
  · intro W hW; go_simp; with_reducible rfl
  try simp only [Act.put, List.setIfInBounds_toArray, List.set_cons_zero, List.set_cons_succ]
  refine wpAnyH_take (i := 11) (oi := ⟨some 55, _, _, _, _, _⟩) (v := ?_) rfl (by kernel_rfl) (by kernel_rfl) (by kernel_rfl) (fun _ _ _ h => h) (Or.inl ⟨by rfl, ?_⟩) hS ?_
  rotate_left
  · intro W hW; go_simp; with_reducible rfl
  try simp only [Act.put, List.setIfInBounds_toArray, List.set_cons_zero, List.set_cons_succ]
  refine wpAnyH_ready (rs := [10]) (by kernel_rfl) (by simp) ?_
  refine AllReadyH.cons (o := ⟨some 54, _, _, _, _, _⟩) rfl (fun Kr hKr => ?_) AllReadyH.nil
  -- operation 10: a call
  go_simp
  refine (u1 _).mono ?_
  rintro e V2 ⟨rfl, hx⟩
  show Kr _ _
  refine hKr.out _ _ ?_ (fun _ => ?_)
  · exact since_trans hS hx
  clear hKr Kr
  replace hS : Since wz V2 := since_trans hS hx
  try simp only [Act.put, List.setIfInBounds_toArray, List.set_cons_zero, List.set_cons_succ]
  refine wpAnyH_ready (rs := [12]) (by kernel_rfl) (by simp) ?_
  refine AllReadyH.cons (o := ⟨some 56, _, _, _, _, _⟩) rfl (fun Kr hKr => ?_) AllReadyH.nil
  -- operation 12: a call
  go_simp
  refine (u2 _).mono ?_
  rintro e V3 ⟨rfl, hx⟩
  show Kr _ _
  refine hKr.out _ _ ?_ (fun _ => ?_)
  · exact since_trans hS hx
  clear hKr Kr
  replace hS : Since wz V3 := since_trans hS hx
  try simp only [Act.put, List.setIfInBounds_toArray, List.set_cons_zero, List.set_cons_succ]
  refine wpAnyH_take (i := 13) (oi := ⟨some 57, _, _, _, _, _⟩) (v := ?_) rfl (by kernel_rfl) (by kernel_rfl) (by kernel_rfl) (fun _ _ _ h => h) (Or.inl ⟨by rfl, ?_⟩) hS ?_
  rotate_left
  · intro W hW; go_simp; with_reducible rfl
  try simp only [Act.put, List.setIfInBounds_toArray, List.set_cons_zero, List.set_cons_succ]
  refine wpAnyH_take (i := 14) (oi := ⟨some 58, _, _, _, _, _⟩) (v := ?_) rfl (by kernel_rfl) (by kernel_rfl) (by kernel_rfl) (fun _ _ _ h => h) (Or.inl ⟨by rfl, ?_⟩) hS ?_
  rotate_left
  · intro W hW; go_simp; with_reducible rfl
  try simp only [Act.put, List.setIfInBounds_toArray, List.set_cons_zero, List.set_cons_succ]
  refine wpAnyH_take (i := 15) (oi := ⟨some 59, _, _, _, _, _⟩) (v := ?_) rfl (by kernel_rfl) (by kernel_rfl) (by kernel_rfl) (fun _ _ _ h => h) (Or.inl ⟨by rfl, ?_⟩) hS ?_
  rotate_left
  · intro W hW; go_simp; with_reducible rfl
  try simp only [Act.put, List.setIfInBounds_toArray, List.set_cons_zero, List.set_cons_succ]
  refine wpAnyH_take (i := 16) (oi := ⟨some 60, _, _, _, _, _⟩) (v := ?_) rfl (by kernel_rfl) (by kernel_rfl) (by kernel_rfl) (fun _ _ _ h => h) (Or.inl ⟨by rfl, ?_⟩) hS ?_
  rotate_left
  · intro W hW; go_simp; with_reducible rfl
  try simp only [Act.put, List.setIfInBounds_toArray, List.set_cons_zero, List.set_cons_succ]
  refine wpAnyH_take (i := 18) (oi := ⟨some 62, _, _, _, _, _⟩) (v := ?_) rfl (by kernel_rfl) (by kernel_rfl) (by kernel_rfl) (fun _ _ _ h => h) (Or.inl ⟨by rfl, ?_⟩) hS ?_
  rotate_left
  · intro W hW; go_simp; with_reducible rfl
  try simp only [Act.put, List.setIfInBounds_toArray, List.set_cons_zero, List.set_cons_succ]
  refine wpAnyH_ready (rs := [17]) (by kernel_rfl) (by simp) ?_
  refine AllReadyH.cons (o := ⟨some 61, _, _, _, _, _⟩) rfl (fun Kr hKr => ?_) AllReadyH.nil
  -- operation 17: a call
  go_simp
  refine (f1 _).mono ?_
  rintro e V4 ⟨rfl, hx⟩
  show Kr _ _
  refine hKr.out _ _ ?_ (fun _ => ?_)
  · exact since_trans hS hx
  clear hKr Kr
  replace hS : Since wz V4 := since_trans hS hx
  try simp only [Act.put, List.setIfInBounds_toArray, List.set_cons_zero, List.set_cons_succ]
  refine wpAnyH_ready (rs := [19]) (by kernel_rfl) (by simp) ?_
  refine AllReadyH.cons (o := ⟨some 63, _, _, _, _, _⟩) rfl (fun Kr hKr => ?_) AllReadyH.nil
  -- operation 19: a call
  go_simp
  refine (f2 _).mono ?_
  rintro e V5 ⟨rfl, hx⟩
  show Kr _ _
  refine hKr.out _ _ ?_ (fun _ => ?_)
  · exact since_trans hS hx
  clear hKr Kr
  replace hS : Since wz V5 := since_trans hS hx
  try simp only [Act.put, List.setIfInBounds_toArray, List.set_cons_zero, List.set_cons_succ]
  refine wpAnyH_take (i := 20) (oi := ⟨some 64, _, _, _, _, _⟩) (v := ?_) rfl (by kernel_rfl) (by kernel_rfl) (by kernel_rfl) (fun _ _ _ h => h) (Or.inl ⟨by rfl, ?_⟩) hS ?_
  rotate_left
  · intro W hW; go_simp; with_reducible rfl
  try simp only [Act.put, List.setIfInBounds_toArray, List.set_cons_zero, List.set_cons_succ]
  refine wpAnyH_take (i := 21) (oi := ⟨some 65, _, _, _, _, _⟩) (v := ?_) rfl (by kernel_rfl) (by kernel_rfl) (by kernel_rfl) (fun _ _ _ h => h) (Or.inl ⟨by rfl, ?_⟩) hS ?_
  rotate_left
  · intro W hW; go_simp; with_reducible rfl
  try simp only [Act.put, List.setIfInBounds_toArray, List.set_cons_zero, List.set_cons_succ]
  refine wpAnyH_take (i := 22) (oi := ⟨some 66, _, _, _, _, _⟩) (v := ?_) rfl (by kernel_rfl) (by kernel_rfl) (by kernel_rfl) (fun _ _ _ h => h) (Or.inl ⟨by rfl, ?_⟩) hS ?_
  rotate_left
  · intro W hW; go_simp; with_reducible rfl
  try simp only [Act.put, List.setIfInBounds_toArray, List.set_cons_zero, List.set_cons_succ]
  refine wpAnyH_take (i := 23) (oi := ⟨some 67, _, _, _, _, _⟩) (v := ?_) rfl (by kernel_rfl) (by kernel_rfl) (by kernel_rfl) (fun _ _ _ h => h) (Or.inl ⟨by rfl, ?_⟩) hS ?_
  rotate_left
  · intro W hW; go_simp; with_reducible rfl
  try simp only [Act.put, List.setIfInBounds_toArray, List.set_cons_zero, List.set_cons_succ]
  refine wpAnyH_take (i := 24) (oi := ⟨some 68, _, _, _, _, _⟩) (v := ?_) rfl (by kernel_rfl) (by kernel_rfl) (by kernel_rfl) (fun _ _ _ h => h) (Or.inl ⟨by rfl, ?_⟩) hS ?_
  rotate_left
  · intro W hW; go_simp; with_reducible rfl
  try simp only [Act.put, List.setIfInBounds_toArray, List.set_cons_zero, List.set_cons_succ]
  refine wpAnyH_take (i := 26) (oi := ⟨some 70, _, _, _, _, _⟩) (v := ?_) rfl (by kernel_rfl) (by kernel_rfl) (by kernel_rfl) (fun _ _ _ h => h) (Or.inl ⟨by rfl, ?_⟩) hS ?_
  rotate_left
  · intro W hW; go_simp; with_reducible rfl
  try simp only [Act.put, List.setIfInBounds_toArray, List.set_cons_zero, List.set_cons_succ]
  refine wpAnyH_take (i := 27) (oi := ⟨some 71, _, _, _, _, _⟩) (v := ?_) rfl (by kernel_rfl) (by kernel_rfl) (by kernel_rfl) (fun _ _ _ h => h) (Or.inl ⟨by rfl, ?_⟩) hS ?_
  rotate_left
  · intro W hW; go_simp; with_reducible rfl
  try simp only [Act.put, List.setIfInBounds_toArray, List.set_cons_zero, List.set_cons_succ]
  refine wpAnyH_ready (rs := [25]) (by kernel_rfl) (by simp) ?_
  refine AllReadyH.cons (o := ⟨some 69, _, _, _, _, _⟩) rfl (fun Kr hKr => ?_) AllReadyH.nil
  -- operation 25: a call
  go_simp
  refine (p1 _).mono ?_
  rintro e V6 ⟨rfl, hx⟩
  show Kr _ _
  refine hKr.out _ _ ?_ (fun _ => ?_)
  · exact since_trans hS hx
  clear hKr Kr
  replace hS : Since wz V6 := since_trans hS hx
  try simp only [Act.put, List.setIfInBounds_toArray, List.set_cons_zero, List.set_cons_succ]
  refine wpAnyH_ready (rs := [28]) (by kernel_rfl) (by simp) ?_
  refine AllReadyH.cons (o := ⟨some 72, _, _, _, _, _⟩) rfl (fun Kr hKr => ?_) AllReadyH.nil
  -- operation 28: a call
  go_simp
  refine (p2 _).mono ?_
  rintro e V7 ⟨rfl, hx⟩
  show Kr _ _
  refine hKr.out _ _ ?_ (fun _ => ?_)
  · exact since_trans hS hx
  clear hKr Kr
  replace hS : Since wz V7 := since_trans hS hx
  try simp only [Act.put, List.setIfInBounds_toArray, List.set_cons_zero, List.set_cons_succ]
  refine wpAnyH_take (i := 29) (oi := ⟨some 73, _, _, _, _, _⟩) (v := ?_) rfl (by kernel_rfl) (by kernel_rfl) (by kernel_rfl) (fun _ _ _ h => h) (Or.inl ⟨by rfl, ?_⟩) hS ?_
  rotate_left
  · intro W hW; go_simp; with_reducible rfl
  try simp only [Act.put, List.setIfInBounds_toArray, List.set_cons_zero, List.set_cons_succ]
  refine wpAnyH_take (i := 30) (oi := ⟨some 74, _, _, _, _, _⟩) (v := ?_) rfl (by kernel_rfl) (by kernel_rfl) (by kernel_rfl) (fun _ _ _ h => h) (Or.inl ⟨by rfl, ?_⟩) hS ?_
  rotate_left
  · intro W hW; go_simp; with_reducible rfl
  try simp only [Act.put, List.setIfInBounds_toArray, List.set_cons_zero, List.set_cons_succ]
  refine wpAnyH_take (i := 31) (oi := ⟨some 75, _, _, _, _, _⟩) (v := ?_) rfl (by kernel_rfl) (by kernel_rfl) (by kernel_rfl) (fun _ _ _ h => h) (Or.inl ⟨by rfl, ?_⟩) hS ?_
  rotate_left
  · intro W hW; go_simp; with_reducible rfl
  try simp only [Act.put, List.setIfInBounds_toArray, List.set_cons_zero, List.set_cons_succ]
  refine wpAnyH_take (i := 32) (oi := ⟨some 76, _, _, _, _, _⟩) (v := ?_) rfl (by kernel_rfl) (by kernel_rfl) (by kernel_rfl) (fun _ _ _ h => h) (Or.inl ⟨by rfl, ?_⟩) hS ?_
  rotate_left
  · intro W hW; go_simp; with_reducible rfl
  try simp only [Act.put, List.setIfInBounds_toArray, List.set_cons_zero, List.set_cons_succ]
  refine wpAnyH_take (i := 33) (oi := ⟨some 77, _, _, _, _, _⟩) (v := ?_) rfl (by kernel_rfl) (by kernel_rfl) (by kernel_rfl) (fun _ _ _ h => h) (Or.inl ⟨by rfl, ?_⟩) hS ?_
  rotate_left
  · intro W hW; go_simp; with_reducible rfl
  try simp only [Act.put, List.setIfInBounds_toArray, List.set_cons_zero, List.set_cons_succ]
  refine wpAnyH_take (i := 35) (oi := ⟨some 79, _, _, _, _, _⟩) (v := ?_) rfl (by kernel_rfl) (by kernel_rfl) (by kernel_rfl) (fun _ _ _ h => h) (Or.inl ⟨by rfl, ?_⟩) hS ?_
  rotate_left
  · intro W hW; go_simp; with_reducible rfl
  try simp only [Act.put, List.setIfInBounds_toArray, List.set_cons_zero, List.set_cons_succ]
  refine wpAnyH_take (i := 36) (oi := ⟨some 80, _, _, _, _, _⟩) (v := ?_) rfl (by kernel_rfl) (by kernel_rfl) (by kernel_rfl) (fun _ _ _ h => h) (Or.inl ⟨by rfl, ?_⟩) hS ?_
  rotate_left
  · intro W hW; go_simp; with_reducible rfl
  try simp only [Act.put, List.setIfInBounds_toArray, List.set_cons_zero, List.set_cons_succ]
  refine wpAnyH_ready (rs := [34]) (by kernel_rfl) (by simp) ?_
  refine AllReadyH.cons (o := ⟨some 78, _, _, _, _, _⟩) rfl (fun Kr hKr => ?_) AllReadyH.nil
  -- operation 34: a call
  go_simp
  refine (h1 _).mono ?_
  rintro e V8 ⟨rfl, hx⟩
  show Kr _ _
  refine hKr.out _ _ ?_ (fun _ => ?_)
  · exact since_trans hS hx
  clear hKr Kr
  replace hS : Since wz V8 := since_trans hS hx
  try simp only [Act.put, List.setIfInBounds_toArray, List.set_cons_zero, List.set_cons_succ]
  refine wpAnyH_ready (rs := [37]) (by kernel_rfl) (by simp) ?_
  refine AllReadyH.cons (o := ⟨some 81, _, _, _, _, _⟩) rfl (fun Kr hKr => ?_) AllReadyH.nil
  -- operation 37: a call
  go_simp
  refine (h2 _).mono ?_
  rintro e V9 ⟨rfl, hx⟩
  show Kr _ _
  refine hKr.out _ _ ?_ (fun _ => ?_)
  · exact since_trans hS hx
  clear hKr Kr
  replace hS : Since wz V9 := since_trans hS hx
  try simp only [Act.put, List.setIfInBounds_toArray, List.set_cons_zero, List.set_cons_succ]
  refine wpAnyH_take (i := 38) (oi := ⟨some 82, _, _, _, _, _⟩) (v := ?_) rfl (by kernel_rfl) (by kernel_rfl) (by kernel_rfl) (fun _ _ _ h => h) (Or.inl ⟨by rfl, ?_⟩) hS ?_
  rotate_left
  · intro W hW; go_simp; with_reducible rfl
  try simp only [Act.put, List.setIfInBounds_toArray, List.set_cons_zero, List.set_cons_succ]
  refine wpAnyH_take (i := 39) (oi := ⟨some 83, _, _, _, _, _⟩) (v := ?_) rfl (by kernel_rfl) (by kernel_rfl) (by kernel_rfl) (fun _ _ _ h => h) (Or.inl ⟨by rfl, ?_⟩) hS ?_
  rotate_left
  · intro W hW; go_simp; with_reducible rfl
  try simp only [Act.put, List.setIfInBounds_toArray, List.set_cons_zero, List.set_cons_succ]
  refine wpAnyH_take (i := 40) (oi := ⟨some 84, _, _, _, _, _⟩) (v := ?_) rfl (by kernel_rfl) (by kernel_rfl) (by kernel_rfl) (fun _ _ _ h => h) (Or.inl ⟨by rfl, ?_⟩) hS ?_
  rotate_left
  · intro W hW; go_simp; with_reducible rfl
  try simp only [Act.put, List.setIfInBounds_toArray, List.set_cons_zero, List.set_cons_succ]
  refine wpAnyH_take (i := 41) (oi := ⟨some 85, _, _, _, _, _⟩) (v := ?_) rfl (by kernel_rfl) (by kernel_rfl) (by kernel_rfl) (fun _ _ _ h => h) (Or.inl ⟨by rfl, ?_⟩) hS ?_
  rotate_left
  · intro W hW; go_simp; with_reducible rfl
  try simp only [Act.put, List.setIfInBounds_toArray, List.set_cons_zero, List.set_cons_succ]
  refine wpAnyH_take (i := 43) (oi := ⟨some 87, _, _, _, _, _⟩) (v := ?_) rfl (by kernel_rfl) (by kernel_rfl) (by kernel_rfl) (fun _ _ _ h => h) (Or.inl ⟨by rfl, ?_⟩) hS ?_
  rotate_left
  · intro W hW; go_simp; with_reducible rfl
  try simp only [Act.put, List.setIfInBounds_toArray, List.set_cons_zero, List.set_cons_succ]
  refine wpAnyH_ready (rs := [42]) (by kernel_rfl) (by simp) ?_
  refine AllReadyH.cons (o := ⟨some 86, _, _, _, _, _⟩) rfl (fun Kr hKr => ?_) AllReadyH.nil
  -- operation 42: a call
  go_simp
  refine (o1 _).mono ?_
  rintro e V10 ⟨rfl, hx⟩
  show Kr _ _
  refine hKr.out _ _ ?_ (fun _ => ?_)
  · exact since_trans hS hx
  clear hKr Kr
  replace hS : Since wz V10 := since_trans hS hx
  try simp only [Act.put, List.setIfInBounds_toArray, List.set_cons_zero, List.set_cons_succ]
  refine wpAnyH_take (i := 44) (oi := ⟨some 88, _, _, _, _, _⟩) (v := ?_) rfl (by kernel_rfl) (by kernel_rfl) (by kernel_rfl) (fun _ _ _ h => h) (Or.inl ⟨by rfl, ?_⟩) hS ?_
  rotate_left
  · intro W hW; go_simp; with_reducible rfl
  try simp only [Act.put, List.setIfInBounds_toArray, List.set_cons_zero, List.set_cons_succ]
  refine wpAnyH_take (i := 45) (oi := ⟨some 89, _, _, _, _, _⟩) (v := ?_) rfl (by kernel_rfl) (by kernel_rfl) (by kernel_rfl) (fun _ _ _ h => h) (Or.inl ⟨by rfl, ?_⟩) hS ?_
  rotate_left
  · intro W hW; go_simp; with_reducible rfl
  try simp only [Act.put, List.setIfInBounds_toArray, List.set_cons_zero, List.set_cons_succ]
  refine wpAnyH_take (i := 46) (oi := ⟨some 90, _, _, _, _, _⟩) (v := ?_) rfl (by kernel_rfl) (by kernel_rfl) (by kernel_rfl) (fun _ _ _ h => h) (Or.inl ⟨by rfl, ?_⟩) hS ?_
  rotate_left
  · intro W hW; go_simp; with_reducible rfl
  try simp only [Act.put, List.setIfInBounds_toArray, List.set_cons_zero, List.set_cons_succ]
  refine wpAnyH_take (i := 47) (oi := ⟨some 91, _, _, _, _, _⟩) (v := ?_) rfl (by kernel_rfl) (by kernel_rfl) (by kernel_rfl) (fun _ _ _ h => h) (Or.inl ⟨by rfl, ?_⟩) hS ?_
  rotate_left
  · intro W hW; go_simp; with_reducible rfl
  try simp only [Act.put, List.setIfInBounds_toArray, List.set_cons_zero, List.set_cons_succ]
  refine wpAnyH_take (i := 48) (oi := ⟨some 92, _, _, _, _, _⟩) (v := ?_) rfl (by kernel_rfl) (by kernel_rfl) (by kernel_rfl) (fun _ _ _ h => h) (Or.inl ⟨by rfl, ?_⟩) hS ?_
  rotate_left
  · intro W hW; go_simp; with_reducible rfl
  try simp only [Act.put, List.setIfInBounds_toArray, List.set_cons_zero, List.set_cons_succ]
  refine wpAnyH_take (i := 49) (oi := ⟨some 93, _, _, _, _, _⟩) (v := ?_) rfl (by kernel_rfl) (by kernel_rfl) (by kernel_rfl) (fun _ _ _ h => h) (Or.inl ⟨by rfl, ?_⟩) hS ?_
  rotate_left
  · intro W hW; go_simp; with_reducible rfl
  try simp only [Act.put, List.setIfInBounds_toArray, List.set_cons_zero, List.set_cons_succ]
  refine wpAnyH_take (i := 50) (oi := ⟨some 94, _, _, _, _, _⟩) (v := ?_) rfl (by kernel_rfl) (by kernel_rfl) (by kernel_rfl) (fun _ _ _ h => h) (Or.inl ⟨by rfl, ?_⟩) hS ?_
  rotate_left
  · intro W hW; go_simp; with_reducible rfl
  try simp only [Act.put, List.setIfInBounds_toArray, List.set_cons_zero, List.set_cons_succ]
  refine wpAnyH_take (i := 51) (oi := ⟨some 95, _, _, _, _, _⟩) (v := ?_) rfl (by kernel_rfl) (by kernel_rfl) (by kernel_rfl) (fun _ _ _ h => h) (Or.inl ⟨by rfl, ?_⟩) hS ?_
  rotate_left
  · intro W hW; go_simp; with_reducible rfl
  try simp only [Act.put, List.setIfInBounds_toArray, List.set_cons_zero, List.set_cons_succ]
  refine wpAnyH_take (i := 52) (oi := ⟨some 96, _, _, _, _, _⟩) (v := ?_) rfl (by kernel_rfl) (by kernel_rfl) (by kernel_rfl) (fun _ _ _ h => h) (Or.inl ⟨by rfl, ?_⟩) hS ?_
  rotate_left
  · intro W hW; go_simp; with_reducible rfl
  try simp only [Act.put, List.setIfInBounds_toArray, List.set_cons_zero, List.set_cons_succ]
  refine wpAnyH_take (i := 54) (oi := ⟨some 98, _, _, _, _, _⟩) (v := ?_) rfl (by kernel_rfl) (by kernel_rfl) (by kernel_rfl) (fun _ _ _ h => h) (Or.inl ⟨by rfl, ?_⟩) hS ?_
  rotate_left
  · intro W hW; go_simp; with_reducible rfl
  try simp only [Act.put, List.setIfInBounds_toArray, List.set_cons_zero, List.set_cons_succ]
  refine wpAnyH_ready (rs := [53]) (by kernel_rfl) (by simp) ?_
  refine AllReadyH.cons (o := ⟨some 97, _, _, _, _, _⟩) rfl (fun Kr hKr => ?_) AllReadyH.nil
  -- operation 53: a call
  go_simp
  refine (o2 _).mono ?_
  rintro e V11 ⟨rfl, hx⟩
  show Kr _ _
  refine hKr.out _ _ ?_ (fun _ => ?_)
  · exact since_trans hS hx
  clear hKr Kr
  replace hS : Since wz V11 := since_trans hS hx
  try simp only [Act.put, List.setIfInBounds_toArray, List.set_cons_zero, List.set_cons_succ]
  refine wpAnyH_take (i := 55) (oi := ⟨some 99, _, _, _, _, _⟩) (v := ?_) rfl (by kernel_rfl) (by kernel_rfl) (by kernel_rfl) (fun _ _ _ h => h) (Or.inl ⟨by rfl, ?_⟩) hS ?_
  rotate_left
  · intro W hW; go_simp; with_reducible rfl
  try simp only [Act.put, List.setIfInBounds_toArray, List.set_cons_zero, List.set_cons_succ]
  refine wpAnyH_take (i := 56) (oi := ⟨some 100, _, _, _, _, _⟩) (v := ?_) rfl (by kernel_rfl) (by kernel_rfl) (by kernel_rfl) (fun _ _ _ h => h) (Or.inl ⟨by rfl, ?_⟩) hS ?_
  rotate_left
  · intro W hW; go_simp; with_reducible rfl
  try simp only [Act.put, List.setIfInBounds_toArray, List.set_cons_zero, List.set_cons_succ]
  refine wpAnyH_take (i := 57) (oi := ⟨some 101, _, _, _, _, _⟩) (v := ?_) rfl (by kernel_rfl) (by kernel_rfl) (by kernel_rfl) (fun _ _ _ h => h) (Or.inl ⟨by rfl, ?_⟩) hS ?_
  rotate_left
  · intro W hW; go_simp; with_reducible rfl
  try simp only [Act.put, List.setIfInBounds_toArray, List.set_cons_zero, List.set_cons_succ]
  refine wpAnyH_take (i := 58) (oi := ⟨some 102, _, _, _, _, _⟩) (v := ?_) rfl (by kernel_rfl) (by kernel_rfl) (by kernel_rfl) (fun _ _ _ h => h) (Or.inl ⟨by rfl, ?_⟩) hS ?_
  rotate_left
  · intro W hW; go_simp; with_reducible rfl
  try simp only [Act.put, List.setIfInBounds_toArray, List.set_cons_zero, List.set_cons_succ]
  refine wpAnyH_take (i := 59) (oi := ⟨some 103, _, _, _, _, _⟩) (v := ?_) rfl (by kernel_rfl) (by kernel_rfl) (by kernel_rfl) (fun _ _ _ h => h) (Or.inl ⟨by rfl, ?_⟩) hS ?_
  rotate_left
  · intro W hW; go_simp; with_reducible rfl
  try simp only [Act.put, List.setIfInBounds_toArray, List.set_cons_zero, List.set_cons_succ]
  refine wpAnyH_take (i := 60) (oi := ⟨some 104, _, _, _, _, _⟩) (v := ?_) rfl (by kernel_rfl) (by kernel_rfl) (by kernel_rfl) (fun _ _ _ h => h) (Or.inl ⟨by rfl, ?_⟩) hS ?_
  rotate_left
  · intro W hW; go_simp; with_reducible rfl
  try simp only [Act.put, List.setIfInBounds_toArray, List.set_cons_zero, List.set_cons_succ]
  refine wpAnyH_take (i := 61) (oi := ⟨some 105, _, _, _, _, _⟩) (v := ?_) rfl (by kernel_rfl) (by kernel_rfl) (by kernel_rfl) (fun _ _ _ h => h) (Or.inl ⟨by rfl, ?_⟩) hS ?_
  rotate_left
  · intro W hW; go_simp; with_reducible rfl
  try simp only [Act.put, List.setIfInBounds_toArray, List.set_cons_zero, List.set_cons_succ]
  refine wpAnyH_take (i := 62) (oi := ⟨some 106, _, _, _, _, _⟩) (v := ?_) rfl (by kernel_rfl) (by kernel_rfl) (by kernel_rfl) (fun _ _ _ h => h) (Or.inl ⟨by rfl, ?_⟩) hS ?_
  rotate_left
  · intro W hW; go_simp; with_reducible rfl
  try simp only [Act.put, List.setIfInBounds_toArray, List.set_cons_zero, List.set_cons_succ]
  refine wpAnyH_take (i := 63) (oi := ⟨some 107, _, _, _, _, _⟩) (v := ?_) rfl (by kernel_rfl) (by kernel_rfl) (by kernel_rfl) (fun _ _ _ h => h) (Or.inl ⟨by rfl, ?_⟩) hS ?_
  rotate_left
  · intro W hW; go_simp; with_reducible rfl
  try simp only [Act.put, List.setIfInBounds_toArray, List.set_cons_zero, List.set_cons_succ]
  refine wpAnyH_take (i := 64) (oi := ⟨some 108, _, _, _, _, _⟩) (v := ?_) rfl (by kernel_rfl) (by kernel_rfl) (by kernel_rfl) (fun _ _ _ h => h) (Or.inl ⟨by rfl, ?_⟩) hS ?_
  rotate_left
  · intro W hW; go_simp; with_reducible rfl
  try simp only [Act.put, List.setIfInBounds_toArray, List.set_cons_zero, List.set_cons_succ]
  refine wpAnyH_take (i := 65) (oi := ⟨some 109, _, _, _, _, _⟩) (v := ?_) rfl (by kernel_rfl) (by kernel_rfl) (by kernel_rfl) (fun _ _ _ h => h) (Or.inl ⟨by rfl, ?_⟩) hS ?_
  rotate_left
  · intro W hW; go_simp; with_reducible rfl
  try simp only [Act.put, List.setIfInBounds_toArray, List.set_cons_zero, List.set_cons_succ]
  refine wpAnyH_take (i := 67) (oi := ⟨some 111, _, _, _, _, _⟩) (v := ?_) rfl (by kernel_rfl) (by kernel_rfl) (by kernel_rfl) (fun _ _ _ h => h) (Or.inl ⟨by rfl, ?_⟩) hS ?_
  rotate_left
  · intro W hW; go_simp; with_reducible rfl
  try simp only [Act.put, List.setIfInBounds_toArray, List.set_cons_zero, List.set_cons_succ]
  refine wpAnyH_take (i := 68) (oi := ⟨some 112, _, _, _, _, _⟩) (v := ?_) rfl (by kernel_rfl) (by kernel_rfl) (by kernel_rfl) (fun _ _ _ h => h) (Or.inl ⟨by rfl, ?_⟩) hS ?_
  rotate_left
  · intro W hW; go_simp; with_reducible rfl
  try simp only [Act.put, List.setIfInBounds_toArray, List.set_cons_zero, List.set_cons_succ]
  refine wpAnyH_take (i := 69) (oi := ⟨some 113, _, _, _, _, _⟩) (v := ?_) rfl (by kernel_rfl) (by kernel_rfl) (by kernel_rfl) (fun _ _ _ h => h) (Or.inl ⟨by rfl, ?_⟩) hS ?_
  rotate_left
  · intro W hW; go_simp; with_reducible rfl
  try simp only [Act.put, List.setIfInBounds_toArray, List.set_cons_zero, List.set_cons_succ]
  refine wpAnyH_ready (rs := [66]) (by kernel_rfl) (by simp) ?_
  refine AllReadyH.cons (o := ⟨some 110, _, _, _, _, _⟩) rfl (fun Kr hKr => ?_) AllReadyH.nil
  -- operation 66: a call
  go_simp
  refine (l1 _).mono ?_
  rintro e V12 ⟨A, N, ca, rfl, hN, hl, hx⟩
  have HN := Lib.hid hN
  have HL := Lib.hid hl
  clear hN hl
  show Kr _ _
  refine hKr.out _ _ ?_ (fun _ => ?_)
  · exact since_trans hS hx
  clear hKr Kr
  replace hS : Since wz V12 := since_trans hS hx
  try simp only [Act.put, List.setIfInBounds_toArray, List.set_cons_zero, List.set_cons_succ]
  refine wpAnyH_ready (rs := [70]) (by kernel_rfl) (by simp) ?_
  refine AllReadyH.cons (o := ⟨some 114, _, _, _, _, _⟩) rfl (fun Kr hKr => ?_) AllReadyH.nil
  -- operation 70: a call
  go_simp
  refine (l2 _).mono ?_
  rintro e V13 ⟨B, M, cb, rfl, hM, hl, hx⟩
  have HM := Lib.hid hM
  replace HL := Lib.hid (HL.out.up hx)
  have HK := Lib.hid hl
  clear hM hl
  show Kr _ _
  refine hKr.out _ _ ?_ (fun _ => ?_)
  · exact since_trans hS hx
  clear hKr Kr
  replace hS : Since wz V13 := since_trans hS hx
  try simp only [Act.put, List.setIfInBounds_toArray, List.set_cons_zero, List.set_cons_succ]
  refine wpAnyH_ready (rs := [71]) (by kernel_rfl) (by simp) ?_
  refine AllReadyH.cons (o := ⟨some 115, _, _, _, _, _⟩) rfl (fun Kr hKr => ?_) AllReadyH.nil
  -- operation 71: a call
  go_simp
  refine (same_any _ ca cb HN.out HM.out (by rw [HN.out]; omega) HL.out HK.out).mono ?_
  rintro e V14 ⟨rfl, hx⟩
  show Kr _ _
  refine hKr.out _ _ ?_ (fun _ => ?_)
  · exact since_trans hS hx
  clear hKr Kr
  replace hS : Since wz V14 := since_trans hS hx
  try simp only [Act.put, List.setIfInBounds_toArray, List.set_cons_zero, List.set_cons_succ]
  refine wpAnyH_take (i := 72) (oi := ⟨some 116, _, _, _, _, _⟩) (v := ?_) rfl (by kernel_rfl) (by kernel_rfl) (by kernel_rfl) (fun _ _ _ h => h) (Or.inl ⟨by rfl, ?_⟩) hS ?_
  rotate_left
  · intro W hW; go_simp; with_reducible rfl
  try simp only [Act.put, List.setIfInBounds_toArray, List.set_cons_zero, List.set_cons_succ]
  refine wpAnyH_take (i := 73) (oi := ⟨some 6, _, _, _, _, _⟩) (v := ?_) rfl (by kernel_rfl) (by kernel_rfl) (by kernel_rfl) (fun _ _ _ h => h) (Or.inl ⟨by rfl, ?_⟩) hS ?_
  rotate_left
  · intro W hW; go_simp; with_reducible rfl
  try simp only [Act.put, List.setIfInBounds_toArray, List.set_cons_zero, List.set_cons_succ]
  refine wpAnyH_done (by kernel_rfl) ?_ _
  go_wp2_with fail
  go_ret
  exact ⟨rfl, below_two HB.out hS⟩

end Go.Proofs.Ytkdppepeenokbaa
