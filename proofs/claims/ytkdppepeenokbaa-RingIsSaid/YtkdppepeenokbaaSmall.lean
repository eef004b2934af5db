/-
  The program's small calls on a ring: Used, Free, asked, Sector, Holds.
-/
import Derived.Test.YtkdppepeenokbaaHeld
namespace Go.Proofs.Ytkdppepeenokbaa
open Go.RowKit

section
variable {w V : World} {g : Nat} {r : Rg} {t : TypeId}
/-- what lies in the ring's block, from now on -/
theorem Bx.from (h : Bx w g r t) : ∀ V, Since w V → Bx V g r t := fun _ hV => h.below hV
end

theorem used_any (r : Rg) : Says 17 #[rgV r] (.int .i64 r.used) := by
  intro w
  have hs := sane_any r
  have hu : r.used = if r.sane = true then r.T - r.H else 0 := rfl
  have hw : r.sane = true → IntKind.i64.wrap (r.T - r.H) = r.T - r.H := fun h => by
    have ok := Rg.ok h
    have := ok.h0
    have := ok.ht
    have := ok.t1
    rw [IntKind.wrap_i64]
    omega
  have HX := Lib.hid (Bx.new w r 25)
  have HB := Lib.hid (below_new w (.cells (rgC r) 25))
  have HW := Lib.hid hw
  have HU := Lib.hid hu
  clear hw hu
  obtain ⟨F, S, H, T⟩ := r
  go_enter Try.func17, Try.ntmps17
  go_wp2_with fail
  refine (hs _).mono ?_
  rintro e w1 ⟨rfl, hb1⟩
  have HX1 := Lib.hid (HX.out.below hb1)
  have HB1 := Lib.hid (below_two HB.out hb1)
  clear hb1 HX HB hs
  have c2 := HX1.out.c2
  have c3 := HX1.out.c3
  generalize (Rg.mk F S H T).sane = b at *
  cases b with
  | false =>
    go_wp2_with fail
    go_ret
    exact ⟨by rw [HU.out]; rfl, HB1.out⟩
  | true =>
    have hw := HW.out rfl
    go_wp2_with fail
    go_ret
    exact ⟨by rw [HU.out]; rfl, HB1.out⟩

theorem asked_any (r : Rg) (at_ : Int) : Says 30 #[rgV r, .int .i64 at_] (.bool (r.asked at_)) := by
  intro w
  have hs := sane_any r
  have HU : Hid (r.asked at_ = (r.sane && rises [0, at_, 2199023255552])) := by
    show _ = _
    rw [rises3]
    rfl
  have HX := Lib.hid (Bx.new w r 25)
  have HB := Lib.hid (below_new w (.cells (rgC r) 25))
  obtain ⟨F, S, H, T⟩ := r
  go_enter Try.func30, Try.ntmps30
  go_wp2_with fail
  refine (hs _).mono ?_
  rintro e w1 ⟨rfl, hb1⟩
  have HB1 := Lib.hid (below_two HB.out hb1)
  clear hb1 HX HB hs
  generalize (Rg.mk F S H T).sane = b at *
  cases b with
  | false =>
    go_wp2_with fail
    go_ret
    exact ⟨by rw [HU.out]; rfl, HB1.out⟩
  | true =>
    go_wp2_with fail
    refine (rising3 0 at_ 2199023255552 _ _ (by simp)).mono ?_
    rintro e w2 ⟨rfl, hb2⟩
    have HB2 := Lib.hid (below_two HB1.out hb2)
    clear hb2 HB1
    go_wp2_with fail
    go_ret
    exact ⟨by rw [HU.out]; rfl, HB2.out⟩

theorem Rg.asked_iff {r : Rg} {at_ : Int} : r.asked at_ = true ↔ r.Ok ∧ 0 ≤ at_ ∧ at_ ≤ 2199023255552 := by
  unfold Rg.asked
  simp only [Bool.and_eq_true, decide_eq_true_eq, Rg.sane_iff]

theorem holds_any (r : Rg) (at_ : Int) : Says 23 #[rgV r, .int .i64 at_] (.bool (r.holds at_)) := by
  intro w
  have hs := sane_any r
  have HU : Hid (r.holds at_ = (r.sane && (decide (r.H ≤ at_) && decide (at_ < r.T)))) := rfl
  have HX := Lib.hid (Bx.new w r 25)
  have HB := Lib.hid (below_new w (.cells (rgC r) 25))
  obtain ⟨F, S, H, T⟩ := r
  go_enter Try.func23, Try.ntmps23
  go_wp2_with fail
  refine (hs _).mono ?_
  rintro e w1 ⟨rfl, hb1⟩
  have HX1 := Lib.hid (HX.out.below hb1)
  have HB1 := Lib.hid (below_two HB.out hb1)
  clear hb1 HX HB hs
  have c2 := HX1.out.c2
  have c3 := HX1.out.c3
  generalize (Rg.mk F S H T).sane = b at *
  cases b with
  | false =>
    go_wp2_with fail
    go_ret
    exact ⟨by rw [HU.out]; rfl, HB1.out⟩
  | true =>
    go_wp2_with fail
    all_goals
      go_ret
      refine ⟨?_, HB1.out⟩
      rw [HU.out]
      first
        | (simp [*]; done)
        | (simp [*]; omega)

theorem sector_any (r : Rg) (at_ : Int) : Says 21 #[rgV r, .int .i64 at_] (.int .i64 (r.sector at_)) := by
  intro w
  have hs := asked_any r at_
  have HU : Hid (r.sector at_ = if r.asked at_ = true then r.F + at_ % r.S else -1) := rfl
  have HW : Hid (r.asked at_ = true → (0 ≤ at_ ∧ 0 < r.S) ∧ IntKind.i64.wrap (r.F + at_ % r.S) = r.F + at_ % r.S) := fun h => by
    obtain ⟨ok, h1, h2⟩ := Rg.asked_iff.1 h
    have := ok.f0
    have := ok.f1
    have := ok.s0
    have := ok.s1
    have := Int.emod_nonneg at_ (b := r.S) (by omega)
    have := Int.emod_lt_of_pos at_ (b := r.S) (by omega)
    refine ⟨by omega, ?_⟩
    rw [IntKind.wrap_i64]
    omega
  have HX := Lib.hid (Bx.new w r 25)
  have HB := Lib.hid (below_new w (.cells (rgC r) 25))
  obtain ⟨F, S, H, T⟩ := r
  go_enter Try.func21, Try.ntmps21
  go_wp2_with fail
  refine (hs _).mono ?_
  rintro e w1 ⟨rfl, hb1⟩
  have HX1 := Lib.hid (HX.out.below hb1)
  have HB1 := Lib.hid (below_two HB.out hb1)
  clear hb1 HX HB hs
  have c0 := HX1.out.c0
  have c1 := HX1.out.c1
  generalize (Rg.mk F S H T).asked at_ = b at *
  cases b with
  | false =>
    go_wp2_with fail
    go_ret
    exact ⟨by rw [HU.out]; rfl, HB1.out⟩
  | true =>
    obtain ⟨⟨h1, h2⟩, h3⟩ := HW.out rfl
    go_wp2_with fail
    go_quiet (fail)
    go_wp2_with fail
    go_ret
    exact ⟨by rw [HU.out, if_pos trivial]; rfl, below_drewN HB1.out _⟩

set_option maxHeartbeats 1000000 in
theorem free_any (r : Rg) : Says 19 #[rgV r] (.int .i64 r.free) := by
  intro w
  have hs := sane_any r
  have HU : Hid (r.free = if r.sane = true then r.S - (r.T - r.H) else 0) := rfl
  have HW : Hid (r.sane = true → r.used = r.T - r.H ∧ IntKind.i64.wrap (r.S - (r.T - r.H)) = r.S - (r.T - r.H)) := fun h => by
    have ok := Rg.ok h
    have := ok.s0
    have := ok.s1
    have := ok.ht
    have := ok.u1
    refine ⟨by unfold Rg.used; rw [if_pos h], ?_⟩
    rw [IntKind.wrap_i64]
    omega
  have HX := Lib.hid (Bx.new w r 25)
  have HB := Lib.hid (below_new w (.cells (rgC r) 25))
  obtain ⟨F, S, H, T⟩ := r
  go_enter Try.func19, Try.ntmps19
  go_wp2_with fail
  refine (hs _).mono ?_
  rintro e w1 ⟨rfl, hb1⟩
  have HX1 := Lib.hid (HX.out.below hb1)
  have HB1 := Lib.hid (below_two HB.out hb1)
  clear hb1 HX HB hs
  have c0 : ∀ V, Since w1 V → V.cell? ⟨w.heap.size, 0, none⟩ = some (.int .i64 F) := fun V hV => (HX1.out.from V hV).c0
  have c1 : ∀ V, Since w1 V → V.cell? ⟨w.heap.size, 1, none⟩ = some (.int .i64 S) := fun V hV => (HX1.out.from V hV).c1
  have c2 : ∀ V, Since w1 V → V.cell? ⟨w.heap.size, 2, none⟩ = some (.int .i64 H) := fun V hV => (HX1.out.from V hV).c2
  have c3 : ∀ V, Since w1 V → V.cell? ⟨w.heap.size, 3, none⟩ = some (.int .i64 T) := fun V hV => (HX1.out.from V hV).c3
  generalize (Rg.mk F S H T).sane = b at *
  cases b with
  | false =>
    go_wp2_with fail
    go_ret
    exact ⟨by rw [HU.out]; rfl, HB1.out⟩
  | true =>
    obtain ⟨h1, h2⟩ := HW.out rfl
    go_wp2_with fail
    refine wp_region_since (by kernel_rfl) ?_
    have hS : Since w1 (World.drew w1) := (Below.refl _ _).drew
    refine wpAnyH_take (i := 0) (oi := ⟨some 6, _, _, _, _, _⟩) (v := ?_) rfl (by kernel_rfl) (by kernel_rfl) (by kernel_rfl) (fun _ _ _ h => h) (Or.inl ⟨by rfl, ?_⟩) hS ?_
    rotate_left
    · intro W hW; go_simp; with_reducible rfl
    try simp only [Act.put, List.setIfInBounds_toArray, List.set_cons_zero, List.set_cons_succ]
    refine wpAnyH_take (i := 1) (oi := ⟨some 7, _, _, _, _, _⟩) (v := ?_) rfl (by kernel_rfl) (by kernel_rfl) (by kernel_rfl) (fun _ _ _ h => h) (Or.inl ⟨by rfl, ?_⟩) hS ?_
    rotate_left
    · intro W hW; go_simp; with_reducible rfl
    try simp only [Act.put, List.setIfInBounds_toArray, List.set_cons_zero, List.set_cons_succ]
    refine wpAnyH_take (i := 2) (oi := ⟨some 8, _, _, _, _, _⟩) (v := ?_) rfl (by kernel_rfl) (by kernel_rfl) (by kernel_rfl) (fun _ _ _ h => h) (Or.inl ⟨by rfl, ?_⟩) hS ?_
    rotate_left
    · intro W hW; go_simp; with_reducible rfl
    try simp only [Act.put, List.setIfInBounds_toArray, List.set_cons_zero, List.set_cons_succ]
    refine wpAnyH_ready (rs := [3]) (by kernel_rfl) (by simp) ?_
    refine AllReadyH.cons (o := ⟨some 9, _, _, _, _, _⟩) rfl (fun Kr hKr => ?_) AllReadyH.nil
    -- operation 3: a call
    go_simp
    refine (used_any ⟨F, S, H, T⟩ _).mono ?_
    rintro e w2 ⟨rfl, hb2⟩
    rw [h1]
    show Kr _ _
    refine hKr.out _ _ ?_ (fun _ => ?_)
    · exact since_trans hS hb2
    clear hKr Kr
    refine wpAnyH_since (since_trans hS hb2) ?_
    clear hS
    have hS : Since w2 w2 := Below.refl _ _
    try simp only [Act.put, List.setIfInBounds_toArray, List.set_cons_zero, List.set_cons_succ]
    refine wpAnyH_take (i := 4) (oi := ⟨some 10, _, _, _, _, _⟩) (v := ?_) rfl (by kernel_rfl) (by kernel_rfl) (by kernel_rfl) (fun _ _ _ h => h) (Or.inl ⟨by rfl, ?_⟩) hS ?_
    rotate_left
    · intro W hW; go_simp; with_reducible rfl
    try simp only [Act.put, List.setIfInBounds_toArray, List.set_cons_zero, List.set_cons_succ]
    refine wpAnyH_take (i := 5) (oi := ⟨some 2, _, _, _, _, _⟩) (v := ?_) rfl (by kernel_rfl) (by kernel_rfl) (by kernel_rfl) (fun _ _ _ h => h) (Or.inl ⟨by rfl, ?_⟩) hS ?_
    rotate_left
    · intro W hW; go_simp; with_reducible rfl
    try simp only [Act.put, List.setIfInBounds_toArray, List.set_cons_zero, List.set_cons_succ]
    refine wpAnyH_done (by kernel_rfl) ?_ _
    go_wp2_with fail
    go_ret
    exact ⟨by rw [HU.out, if_pos trivial]; rfl, below_two HB1.out ((Below.refl _ _).drew.trans hb2)⟩

end Go.Proofs.Ytkdppepeenokbaa
