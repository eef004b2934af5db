/-
  Which of two versions stands first: the comparison.
-/
import Derived.Test.YtmhnjmfcenbogaaPa
import Derived.Test.YtmhnjmfcenbogaaSa
import Derived.Shelf.SlicesG.Cmp
namespace Go.Proofs
open Go.Shelf
def Try.cmpL_ren : Go.Shelf.Ren := ⟨fun | 5 => 43 | 7 => 48 | n => n, fun | 22 => 3 | 3 => 3 | 4 => 4 | n => n, fun | n => n⟩
theorem Try.cmpL : Go.Proofs.SlLaysC2.n5 Try.prog Try.cmpL_ren := {
  mixed := by kernel_rfl
  f5 := ⟨Try.f43.name, by decide, Try.func43.trans (congrArg some (by kernel_rfl))⟩
  f7 := ⟨Try.f48.name, by decide, Try.func48.trans (congrArg some (by kernel_rfl))⟩
  t3 := Try.underlying3
  a3 := Try.isAgg3
  z3 := Try.sizeOf3
  v3 := Try.zeroValue3
  t4 := Try.underlying4
  a4 := Try.isAgg4
  z4 := Try.sizeOf4
  v4 := Try.zeroValue4
  t22 := Try.underlying3
  a22 := Try.isAgg3
  z22 := Try.sizeOf3
  v22 := Try.zeroValue3 }
end Go.Proofs

namespace Go.Proofs.Ytmhnjmfcenbogaa
set_option maxRecDepth 100000
set_option linter.unusedVariables false
set_option linter.unusedSimpArgs false
open Go.RowKit Go.Shelf

theorem or_any (g : Nat) (x y : Int) (w : World) (hx : w.cell? ⟨g, 0, none⟩ = some (.int .i64 x)) (hy : w.cell? ⟨g, 1, none⟩ = some (.int .i64 y)) :
    Calls Try.prog 42 #[.slice (some ⟨g, 0, none⟩) 2 2] w fun e w' => e = .returned (.int .i64 (if x = 0 then y else x)) ∧ w' = w := by
  go_enter Try.func42, Try.ntmps42
  go_wp2_with fail
  go_loopw [8] (fun iv wr => ∃ j : Nat, iv = .int .i64 (j : Int) ∧ wr = w ∧ (j = 0 ∨ (j = 1 ∧ x = 0) ∨ (j = 2 ∧ x = 0 ∧ y = 0))) (fun iv _ => 2 - (intOf iv).toNat)
  case atStart => exact ⟨0, rfl, rfl, .inl rfl⟩
  case round =>
    obtain ⟨j, rfl, hwr, h⟩ := hrel
    replace hwr := hwr.symm
    subst hwr
    rcases h with rfl | ⟨rfl, h1⟩ | ⟨rfl, h1, h2⟩
    · by_cases h0 : x = 0
      · have hb : (x == 0) = true := by simpa using h0
        have H0 := Lib.hid h0
        clear h0
        go_wp2
        go_roundw
        case rel => exact ⟨1, by simp, by trivial, .inr (.inl ⟨rfl, H0.out⟩)⟩
        case measure => simp [intOf]
      · have hb : (x == 0) = false := by simpa using h0
        have H0 := Lib.hid h0
        clear h0
        go_wp2
        go_ret
        exact ⟨by first | rfl | (rw [if_neg H0.out]; rfl), rfl⟩
    · by_cases h0 : y = 0
      · have hb : (y == 0) = true := by simpa using h0
        have H0 := Lib.hid h0
        have H1 := Lib.hid h1
        clear h0 h1
        go_wp2
        go_roundw
        case rel => exact ⟨2, by simp, by trivial, .inr (.inr ⟨rfl, H1.out, H0.out⟩)⟩
        case measure => simp [intOf]
      · have hb : (y == 0) = false := by simpa using h0
        have H0 := Lib.hid h0
        have H1 := Lib.hid h1
        clear h0 h1
        go_wp2
        go_ret
        exact ⟨by first | rfl | (rw [if_pos H1.out]; rfl), rfl⟩
    · have H1 := Lib.hid h1
      have H2 := Lib.hid h2
      clear h1 h2
      go_wp2
      go_ret
      exact ⟨by first | (have h2 := H2.out; subst h2; first | rfl | (rw [if_pos H1.out]; rfl)) | (rw [if_pos H1.out, H2.out]; rfl), rfl⟩


abbrev veC (b x : Int) (A : Option Addr) (n c : Nat) : Array Value := #[.int .i64 b, .int .i64 x, .slice A n c]
abbrev veV (b x : Int) (A : Option Addr) (n c : Nat) : Value := .agg (veC b x A n c)
section
variable {W : World} {g n c : Nat} {b x : Int} {A : Option Addr} {t : TypeId}
theorem Bk.e0 (h : Bk W g (veC b x A n c) t) : W.cell? ⟨g, 0, none⟩ = some (.int .i64 b) := h.c 0 _ rfl
theorem Bk.e1 (h : Bk W g (veC b x A n c) t) : W.cell? ⟨g, 1, none⟩ = some (.int .i64 x) := h.c 1 _ rfl
theorem Bk.e2 (h : Bk W g (veC b x A n c) t) : W.cell? ⟨g, 2, none⟩ = some (.slice A n c) := h.c 2 _ rfl
end
/-- what the comparison answers -/
def cmpV (yb yx zb zx : Int) : Int := if Lib.compareInt yb zb = 0 then Lib.compareInt yx zx else Lib.compareInt yb zb
theorem cmpV_facts (y : Vn) (zb zx : Int) : (cmpV y.b y.x zb zx < 0 ↔ y.L (keyVn zb zx)) ∧ (cmpV y.b y.x zb zx = 0 ↔ (y.b = zb ∧ y.x = zx)) ∧ (0 ≤ cmpV y.b y.x zb zx ↔ ¬ y.L (keyVn zb zx)) := by
  unfold cmpV Lib.compareInt Vn.L keyVn
  simp only
  (repeat' split) <;> omega

set_option maxHeartbeats 2000000 in
theorem compare_any (yc yx zc zx : Int) (yA : Option Addr) (yn yk : Nat) (zA : Option Addr) (zn zk : Nat) (w : World) : Calls Try.prog 31 #[veV yc yx yA yn yk, veV zc zx zA zn zk] w fun e w' => e = .returned (.int .i64 (cmpV yc yx zc zx)) ∧ Below w.heap.size w w' := by
  obtain ⟨E1, hE1⟩ : ∃ q, q = Lib.compareInt yc zc := ⟨_, rfl⟩
  obtain ⟨E2, hE2⟩ : ∃ q, q = Lib.compareInt yx zx := ⟨_, rfl⟩
  have HCF := Lib.hid (show cmpV yc yx zc zx = if E1 = 0 then E2 else E1 by unfold cmpV; rw [hE1, hE2])
  have hc1 : ∀ V, Calls Try.prog 43 #[.int .i64 yc, .int .i64 zc] V fun e w' => e = .returned (.int .i64 E1) ∧ w' = V := fun V => by rw [hE1]; exact AnyG.cmp_Compare_int (P := Try.prog) (ρ := Try.cmpL_ren) Try.cmpL yc zc V
  have hc2 : ∀ V, Calls Try.prog 43 #[.int .i64 yx, .int .i64 zx] V fun e w' => e = .returned (.int .i64 E2) ∧ w' = V := fun V => by rw [hE2]; exact AnyG.cmp_Compare_int (P := Try.prog) (ρ := Try.cmpL_ren) Try.cmpL yx zx V
  have HC1 := Lib.hid hc1
  have HC2 := Lib.hid hc2
  generalize cmpV yc yx zc zx = res at *
  have HX := Lib.hid ((Bk.new w (veC yc yx yA yn yk) 74).al (.cells (veC zc zx zA zn zk) 74))
  have HY := Bk.new (w.alloc (.cells (veC yc yx yA yn yk) 74)) (veC zc zx zA zn zk) 74
  rw [size_al] at HY
  have HY := Lib.hid HY
  have HB := Lib.hid (below_two (below_new w (.cells (veC yc yx yA yn yk) 74)) (below_new _ (.cells (veC zc zx zA zn zk) 74)))
  clear hc1 hc2 hE1 hE2
  go_enter Try.func31, Try.ntmps31
  go_upto_region 1 with fail
  generalize (w.alloc (.cells (veC yc yx yA yn yk) 74)).alloc (.cells (veC zc zx zA zn zk) 74) = w1 at *
  have k0 : ∀ V, Since w1 V → V.cell? ⟨w.heap.size, 0, none⟩ = some (.int .i64 yc) := fun V hV => (HX.out.below hV).e0
  have k1 : ∀ V, Since w1 V → V.cell? ⟨w.heap.size, 1, none⟩ = some (.int .i64 yx) := fun V hV => (HX.out.below hV).e1
  have k2 : ∀ V, Since w1 V → V.cell? ⟨w.heap.size + 1, 0, none⟩ = some (.int .i64 zc) := fun V hV => (HY.out.below hV).e0
  have k3 : ∀ V, Since w1 V → V.cell? ⟨w.heap.size + 1, 1, none⟩ = some (.int .i64 zx) := fun V hV => (HY.out.below hV).e1
  refine wp_region_since (by kernel_rfl) ?_
  have hS : Since w1 (World.drew w1) := (Below.refl _ _).drew
  refine wpAnyH_take (i := 0) (oi := ⟨some 5, _, _, _, _, _⟩) (v := ?_) rfl (by kernel_rfl) (by kernel_rfl) (by kernel_rfl) (fun _ _ _ h => h) (Or.inl ⟨by rfl, ?_⟩) hS ?_
  rotate_left
  · intro W hW; go_simp; with_reducible rfl
  try simp only [Act.put, List.setIfInBounds_toArray, List.set_cons_zero, List.set_cons_succ]
  refine wpAnyH_take (i := 1) (oi := ⟨some 6, _, _, _, _, _⟩) (v := ?_) rfl (by kernel_rfl) (by kernel_rfl) (by kernel_rfl) (fun _ _ _ h => h) (Or.inl ⟨by rfl, ?_⟩) hS ?_
  rotate_left
  · intro W hW; go_simp; with_reducible rfl
  try simp only [Act.put, List.setIfInBounds_toArray, List.set_cons_zero, List.set_cons_succ]
  refine wpAnyH_take (i := 2) (oi := ⟨some 7, _, _, _, _, _⟩) (v := ?_) rfl (by kernel_rfl) (by kernel_rfl) (by kernel_rfl) (fun _ _ _ h => h) (Or.inl ⟨by rfl, ?_⟩) hS ?_
  rotate_left
  · intro W hW; go_simp; with_reducible rfl
  try simp only [Act.put, List.setIfInBounds_toArray, List.set_cons_zero, List.set_cons_succ]
  refine wpAnyH_take (i := 3) (oi := ⟨some 8, _, _, _, _, _⟩) (v := ?_) rfl (by kernel_rfl) (by kernel_rfl) (by kernel_rfl) (fun _ _ _ h => h) (Or.inl ⟨by rfl, ?_⟩) hS ?_
  rotate_left
  · intro W hW; go_simp; with_reducible rfl
  try simp only [Act.put, List.setIfInBounds_toArray, List.set_cons_zero, List.set_cons_succ]
  refine wpAnyH_take (i := 5) (oi := ⟨some 10, _, _, _, _, _⟩) (v := ?_) rfl (by kernel_rfl) (by kernel_rfl) (by kernel_rfl) (fun _ _ _ h => h) (Or.inl ⟨by rfl, ?_⟩) hS ?_
  rotate_left
  · intro W hW; go_simp; with_reducible rfl
  try simp only [Act.put, List.setIfInBounds_toArray, List.set_cons_zero, List.set_cons_succ]
  refine wpAnyH_take (i := 6) (oi := ⟨some 11, _, _, _, _, _⟩) (v := ?_) rfl (by kernel_rfl) (by kernel_rfl) (by kernel_rfl) (fun _ _ _ h => h) (Or.inl ⟨by rfl, ?_⟩) hS ?_
  rotate_left
  · intro W hW; go_simp; with_reducible rfl
  try simp only [Act.put, List.setIfInBounds_toArray, List.set_cons_zero, List.set_cons_succ]
  refine wpAnyH_take (i := 7) (oi := ⟨some 12, _, _, _, _, _⟩) (v := ?_) rfl (by kernel_rfl) (by kernel_rfl) (by kernel_rfl) (fun _ _ _ h => h) (Or.inl ⟨by rfl, ?_⟩) hS ?_
  rotate_left
  · intro W hW; go_simp; with_reducible rfl
  try simp only [Act.put, List.setIfInBounds_toArray, List.set_cons_zero, List.set_cons_succ]
  refine wpAnyH_take (i := 8) (oi := ⟨some 13, _, _, _, _, _⟩) (v := ?_) rfl (by kernel_rfl) (by kernel_rfl) (by kernel_rfl) (fun _ _ _ h => h) (Or.inl ⟨by rfl, ?_⟩) hS ?_
  rotate_left
  · intro W hW; go_simp; with_reducible rfl
  try simp only [Act.put, List.setIfInBounds_toArray, List.set_cons_zero, List.set_cons_succ]
  refine wpAnyH_ready (rs := [4]) (by kernel_rfl) (by simp) ?_
  refine AllReadyH.cons (o := ⟨some 9, _, _, _, _, _⟩) rfl (fun Kr hKr => ?_) AllReadyH.nil
  -- operation 4: a call
  go_simp
  refine (HC1.out _).mono ?_
  rintro e V0 ⟨rfl, hv⟩
  subst hv
  show Kr _ _
  refine hKr.out _ _ ?_ (fun _ => ?_)
  · exact hS
  clear hKr Kr
  try simp only [Act.put, List.setIfInBounds_toArray, List.set_cons_zero, List.set_cons_succ]
  refine wpAnyH_ready (rs := [9]) (by kernel_rfl) (by simp) ?_
  refine AllReadyH.cons (o := ⟨some 14, _, _, _, _, _⟩) rfl (fun Kr hKr => ?_) AllReadyH.nil
  -- operation 9: a call
  go_simp
  refine (HC2.out _).mono ?_
  rintro e V0 ⟨rfl, hv⟩
  subst hv
  show Kr _ _
  refine hKr.out _ _ ?_ (fun _ => ?_)
  · exact hS
  clear hKr Kr
  try simp only [Act.put, List.setIfInBounds_toArray, List.set_cons_zero, List.set_cons_succ]
  refine wpAnyH_ready (rs := [10]) (by kernel_rfl) (by simp) ?_
  refine AllReadyH.cons (o := ⟨some 15, _, _, _, _, _⟩) rfl (fun Kr hKr => ?_) AllReadyH.nil
  -- operation 10: a step
  go_simp
  show Kr _ _
  refine hKr.out _ _ ?_ (fun _ => ?_)
  · exact since_trans hS (below_new _ _)
  clear hKr Kr
  replace hS : Since w1 ((World.drew w1).alloc (.cells #[.int .i64 E1, .int .i64 E2] 3)) := since_trans hS (below_new _ _)
  try simp only [Act.put, List.setIfInBounds_toArray, List.set_cons_zero, List.set_cons_succ]
  refine wpAnyH_ready (rs := [11]) (by kernel_rfl) (by simp) ?_
  refine AllReadyH.cons (o := ⟨some 16, _, _, _, _, _⟩) rfl (fun Kr hKr => ?_) AllReadyH.nil
  -- operation 11: a call
  go_simp
  refine (or_any (World.drew w1).heap.size E1 E2 _ ((cell_new (World.drew w1) #[.int .i64 E1, .int .i64 E2] 3 0).trans rfl) ((cell_new (World.drew w1) #[.int .i64 E1, .int .i64 E2] 3 1).trans rfl)).mono ?_
  rintro e V0 ⟨rfl, hv⟩
  subst hv
  show Kr _ _
  refine hKr.out _ _ ?_ (fun _ => ?_)
  · exact hS
  clear hKr Kr
  try simp only [Act.put, List.setIfInBounds_toArray, List.set_cons_zero, List.set_cons_succ]
  refine wpAnyH_take (i := 12) (oi := ⟨some 4, _, _, _, _, _⟩) (v := ?_) rfl (by kernel_rfl) (by kernel_rfl) (by kernel_rfl) (fun _ _ _ h => h) (Or.inl ⟨by rfl, ?_⟩) hS ?_
  rotate_left
  · intro W hW; go_simp; with_reducible rfl
  try simp only [Act.put, List.setIfInBounds_toArray, List.set_cons_zero, List.set_cons_succ]
  refine wpAnyH_done (by kernel_rfl) ?_ _
  rw [← HCF.out]
  go_wp2_with fail
  go_ret
  exact ⟨rfl, HB.out.trans (Below.mono hS HB.out.size)⟩
end Go.Proofs.Ytmhnjmfcenbogaa
