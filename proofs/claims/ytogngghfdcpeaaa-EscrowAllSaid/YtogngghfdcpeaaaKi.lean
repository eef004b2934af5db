/-
  What one who takes over pends does with one of them: keeps it.
-/
import Derived.Test.YtogngghfdcpeaaaKh
namespace Go.Proofs.Ytogngghfdcpeaaa
set_option maxRecDepth 100000
set_option linter.unusedVariables false
set_option linter.unusedSimpArgs false
open Go.RowKit

/-- the pend that is kept last, behind its two halves are added -/
theorem putH_cons {c x u d yc yx yu yd : Int} {r : List Pd} : putH ⟨c, x, u, d⟩ (⟨yc, yx, yu, yd⟩ :: r) = if yc = c ∧ yx = x then ⟨c, x, w64 (u + yu), w64 (d + yd)⟩ else ⟨c, x, u, d⟩ := rfl
theorem putT_cons {c x u d yc yx yu yd : Int} {r : List Pd} : putT ⟨c, x, u, d⟩ (⟨yc, yx, yu, yd⟩ :: r) = if yc = c ∧ yx = x then r else ⟨yc, yx, yu, yd⟩ :: r := rfl
theorem pdo_at (w : World) (g : Nat) (hg : w.heap.size = g) (c x u d : Int) : RPo.At (w.alloc (.cells (pdC c x u d) 75)) (some ⟨g, 0, none⟩) [⟨c, x, u, d⟩] := by
  subst hg; exact Rk.At.new rp_oko w ⟨c, x, u, d⟩ 75

theorem there_no {c x u d : Int} {L : List Pd} (h : thereB (keyP c x) L = false) : putH ⟨c, x, u, d⟩ L = ⟨c, x, u, d⟩ ∧ putT ⟨c, x, u, d⟩ L = L := by
  cases L with
  | nil => exact ⟨rfl, rfl⟩
  | cons y r =>
    have h2 : ¬ (y.c = c ∧ y.x = x) := of_decide_eq_false h
    exact ⟨if_neg h2, if_neg h2⟩
theorem there_yes {c x : Int} {L : List Pd} (h : thereB (keyP c x) L = true) : ∃ yu yd r, L = ⟨c, x, yu, yd⟩ :: r ∧ ∀ u d, putH ⟨c, x, u, d⟩ L = ⟨c, x, w64 (u + yu), w64 (d + yd)⟩ ∧ putT ⟨c, x, u, d⟩ L = r := by
  cases L with
  | nil => cases h
  | cons y r =>
    have h2 : y.c = c ∧ y.x = x := of_decide_eq_true h
    obtain ⟨yc, yx, yu, yd⟩ := y
    obtain ⟨e1, e2⟩ := h2
    simp only at e1 e2
    subst e1; subst e2
    exact ⟨yu, yd, r, rfl, fun u d => ⟨if_pos ⟨rfl, rfl⟩, if_pos ⟨rfl, rfl⟩⟩⟩

set_option maxHeartbeats 4000000 in
theorem keep_any (g B0 : Nat) (tx : Int) (cA : Option Addr) (n cc : Nat) (C : List Ct) (pv : Value) (X : List Pd) (rA : Option Addr) (rn rc : Nat) (R L1 L2 : List Pd) (c x u d : Int) (w : World)
    (hh : Hr w g B0 tx cA n cc C pv X rA rn rc R) (hs : R = L1 ++ L2) (h1 : ∀ y ∈ L1, y.L (keyP c tx)) (h2 : ∀ y ∈ L2, ¬ y.L (keyP c tx)) (hsz : X.length + rn ≤ 100000) :
    Calls Try.prog 33 #[.pointer (some ⟨g, 0, none⟩), pdV c x u d] w fun e w' => e = .returned (.tuple #[]) ∧
      (∃ pv' rA' rn' rc', Hr w' g B0 tx cA n cc C pv' (X ++ L1 ++ [putH ⟨c, tx, u, d⟩ L2]) rA' rn' rc' (putT ⟨c, tx, u, d⟩ L2) ∧ ∀ q, pv'.ownBlock = some q → pv.ownBlock = some q ∨ w.heap.size ≤ q) ∧ Turn (fun q => q = g ∨ pv.ownBlock = some q) w w' := by
  obtain ⟨A3, j1, j2, j3, j4⟩ := Rk.cut_to rp_oko Try.underlying32 rp_sz hh.rest hh.rl hh.rk hh.rs (k := L1.length) (by have := hh.rl; rw [hs, List.length_append] at this; omega)
  obtain ⟨A5, c5, k1, k2, k3, k6, k4, k5⟩ := Rk.cut_from rp_oko Try.underlying32 rp_sz hh.rest hh.rl hh.rk hh.rs (k := L1.length) (by have := hh.rl; rw [hs, List.length_append] at this; omega)
  have hl1 : L1.length + L2.length = rn := by have := hh.rl; rw [hs, List.length_append] at this; exact this
  have e1 : R.take L1.length = L1 := by rw [hs, List.take_left]
  have e2 : R.drop L1.length = L2 := by rw [hs, List.drop_left]
  rw [e1] at j1
  rw [e2] at k1
  have HPL := Lib.hid (fun V (hV : Below w.heap.size w V) => place_any rA rn rc R L1 L2 tx c hh.rl (by omega) V (hh.rest.below hV) hs h1 h2)
  obtain ⟨l1, hl⟩ : ∃ q, L1.length = q := ⟨_, rfl⟩
  obtain ⟨l2, hl2⟩ : ∃ q, rn - l1 = q := ⟨_, rfl⟩
  rw [hl] at j3 j4 k2 k4 k5 hl1 HPL
  rw [hl2] at k2 k4 k5
  have HLL := Lib.hid hl
  have HL2 := Lib.hid (show L2.length = l2 by omega)
  have HJ := Lib.hid j1
  have HK := Lib.hid k1
  have HKC := Lib.hid (⟨k2, k3, k6⟩ : l2 ≤ c5 ∧ (c5 = 0 ∨ Sp A5) ∧ (∀ b o, A5 = some ⟨b, o, none⟩ → ∃ o', rA = some ⟨b, o', none⟩))
  have HSP := Lib.hid (show L1 = [] ∨ Sp A3 by
    rcases j2 with h | h
    · exact .inl (List.eq_nil_of_length_eq_zero (by have := hh.rk; omega))
    · exact .inr h)
  have HLE := Lib.hid (show X.length + L1.length ≤ 100000 by omega)
  have hle1 : (l1 : Int) ≤ (rn : Int) := by omega
  have hle2 : l1 ≤ rn := by omega
  replace k4 : ∀ V : World, (Instr.slice 32 (.slice rA rn rc) (some (.int .i64 (l1 : Int))) none none).run Try.prog V = .ok (.slice A5 l2 c5) V := k4
  replace k5 : ∀ V : World, (Instr.sliceAt 32 (.slice rA rn rc) (some (.int .i64 (l1 : Int))) none none).run Try.prog V = .ok (.slice A5 l2 c5) V := k5
  replace j3 : ∀ V : World, (Instr.slice 32 (.slice rA rn rc) none (some (.int .i64 (l1 : Int))) none).run Try.prog V = .ok (.slice A3 l1 rc) V := j3
  replace j4 : ∀ V : World, (Instr.sliceAt 32 (.slice rA rn rc) none (some (.int .i64 (l1 : Int))) none).run Try.prog V = .ok (.slice A3 l1 rc) V := j4
  have HH := Lib.hid hh
  have HGW := Lib.hid (show g < w.heap.size from hh.bk.lt)
  obtain ⟨tb, htb⟩ : ∃ tb, thereB (keyP c tx) L2 = tb := ⟨_, rfl⟩
  rw [htb] at HPL
  have HTB := Lib.hid htb
  have hpl := HPL.out
  obtain ⟨b3, hb3⟩ : ∃ b3, b3 = w.heap.size := ⟨_, rfl⟩
  obtain ⟨w1, hw1⟩ : ∃ w1, w1 = w.alloc (.cells (pdC c x u d) 75) := ⟨_, rfl⟩
  have HX1 := Lib.hid (show Bk w1 b3 (pdC c x u d) 75 by rw [hw1, hb3]; exact Bk.new w _ _)
  have HB1 := Lib.hid (show Below w.heap.size w w1 by rw [hw1]; exact below_new w _)
  have HH1 := Lib.hid (hh.below HB1.out)
  have HGB := Lib.hid (show g < b3 by rw [hb3]; exact hh.bk.lt)
  have HB3 := Lib.hid (show w.heap.size ≤ b3 by rw [hb3]; exact Nat.le_refl _)
  have HBN := Lib.hid (show ∀ q, (q = g ∨ pv.ownBlock = some q) → q ≠ b3 from fun q h e => by
    rcases h with h | h
    · have := HGB.out; omega
    · have := (hh.past.lt q h).2; omega)
  have HRB := Lib.hid (show ∀ b o, rA = some ⟨b, o, none⟩ → b ≠ b3 from fun b o e => by have := (hh.rg b o e).1; have := HGB.out; omega)
  clear hh hs h1 h2 hsz e1 e2 hl hl1 hl2 j1 j2 k1 k2 k3 k6 htb HPL
  go_enter Try.func33, Try.ntmps33
  go_upto_region 1 with fail
  rw [← hw1, ← hb3]
  replace hpl := fun V (hV : Since w1 V) => hpl V (HB1.out.trans (Below.mono hV HB1.out.size))
  clear hw1 hb3
  have a0 : ∀ V, Since w1 V → V.cell? ⟨g, 0, none⟩ = some (.int .i64 tx) := fun V hV => (HH1.out.below hV).h0
  have a3 : ∀ V, Since w1 V → V.cell? ⟨g, 3, none⟩ = some (.slice rA rn rc) := fun V hV => (HH1.out.below hV).h3
  have p0 : ∀ V, Since w1 V → V.cell? ⟨b3, 0, none⟩ = some (.int .i64 c) := fun V hV => (HX1.out.below hV).p0
  go_cut [4, 5] from 6 to 88 (fun v4 v5 wc => v4 = .int .i64 (l1 : Int) ∧ v5 = .bool tb ∧ Hid (Since w1 wc))
  case first =>
    refine wp_region_since (by kernel_rfl) ?_
    have hS : Since w1 (World.drew w1) := (Below.refl _ _).drew
    refine wpAnyH_take (i := 0) (oi := ⟨some 7, _, _, _, _, _⟩) (v := ?_) rfl (by kernel_rfl) (by kernel_rfl) (by kernel_rfl) (fun _ _ _ h => h) (Or.inl ⟨by rfl, ?_⟩) hS ?_
    rotate_left
    · intro W hW; go_simp; with_reducible rfl
    try simp only [Act.put, List.setIfInBounds_toArray, List.set_cons_zero, List.set_cons_succ]
    refine wpAnyH_take (i := 1) (oi := ⟨some 8, _, _, _, _, _⟩) (v := ?_) rfl (by kernel_rfl) (by kernel_rfl) (by kernel_rfl) (fun _ _ _ h => h) (Or.inl ⟨by rfl, ?_⟩) hS ?_
    rotate_left
    · intro W hW; go_simp; with_reducible rfl
    try simp only [Act.put, List.setIfInBounds_toArray, List.set_cons_zero, List.set_cons_succ]
    refine wpAnyH_take (i := 2) (oi := ⟨some 9, _, _, _, _, _⟩) (v := ?_) rfl (by kernel_rfl) (by kernel_rfl) (by kernel_rfl) (fun _ _ _ h => h) (Or.inl ⟨by rfl, ?_⟩) hS ?_
    rotate_left
    · intro W hW; go_simp; with_reducible rfl
    try simp only [Act.put, List.setIfInBounds_toArray, List.set_cons_zero, List.set_cons_succ]
    refine wpAnyH_take (i := 3) (oi := ⟨some 10, _, _, _, _, _⟩) (v := ?_) rfl (by kernel_rfl) (by kernel_rfl) (by kernel_rfl) (fun _ _ _ h => h) (Or.inl ⟨by rfl, ?_⟩) hS ?_
    rotate_left
    · intro W hW; go_simp; with_reducible rfl
    try simp only [Act.put, List.setIfInBounds_toArray, List.set_cons_zero, List.set_cons_succ]
    refine wpAnyH_take (i := 4) (oi := ⟨some 11, _, _, _, _, _⟩) (v := ?_) rfl (by kernel_rfl) (by kernel_rfl) (by kernel_rfl) (fun _ _ _ h => h) (Or.inl ⟨by rfl, ?_⟩) hS ?_
    rotate_left
    · intro W hW; go_simp; with_reducible rfl
    try simp only [Act.put, List.setIfInBounds_toArray, List.set_cons_zero, List.set_cons_succ]
    refine wpAnyH_take (i := 5) (oi := ⟨some 12, _, _, _, _, _⟩) (v := ?_) rfl (by kernel_rfl) (by kernel_rfl) (by kernel_rfl) (fun _ _ _ h => h) (Or.inl ⟨by rfl, ?_⟩) hS ?_
    rotate_left
    · intro W hW; go_simp; with_reducible rfl
    try simp only [Act.put, List.setIfInBounds_toArray, List.set_cons_zero, List.set_cons_succ]
    refine wpAnyH_take (i := 6) (oi := ⟨some 13, _, _, _, _, _⟩) (v := ?_) rfl (by kernel_rfl) (by kernel_rfl) (by kernel_rfl) (fun _ _ _ h => h) (Or.inl ⟨by rfl, ?_⟩) hS ?_
    rotate_left
    · intro W hW; go_simp; with_reducible rfl
    try simp only [Act.put, List.setIfInBounds_toArray, List.set_cons_zero, List.set_cons_succ]
    refine wpAnyH_take (i := 7) (oi := ⟨some 14, _, _, _, _, _⟩) (v := ?_) rfl (by kernel_rfl) (by kernel_rfl) (by kernel_rfl) (fun _ _ _ h => h) (Or.inl ⟨by rfl, ?_⟩) hS ?_
    rotate_left
    · intro W hW; go_simp; with_reducible rfl
    try simp only [Act.put, List.setIfInBounds_toArray, List.set_cons_zero, List.set_cons_succ]
    refine wpAnyH_take (i := 8) (oi := ⟨some 15, _, _, _, _, _⟩) (v := ?_) rfl (by kernel_rfl) (by kernel_rfl) (by kernel_rfl) (fun _ _ _ h => h) (Or.inl ⟨by rfl, ?_⟩) hS ?_
    rotate_left
    · intro W hW; go_simp; with_reducible rfl
    try simp only [Act.put, List.setIfInBounds_toArray, List.set_cons_zero, List.set_cons_succ]
    refine wpAnyH_take (i := 9) (oi := ⟨some 16, _, _, _, _, _⟩) (v := ?_) rfl (by kernel_rfl) (by kernel_rfl) (by kernel_rfl) (fun _ _ _ h => h) (Or.inl ⟨by rfl, ?_⟩) hS ?_
    rotate_left
    · intro W hW; go_simp; with_reducible rfl
    try simp only [Act.put, List.setIfInBounds_toArray, List.set_cons_zero, List.set_cons_succ]
    refine wpAnyH_ready (rs := [10]) (by kernel_rfl) (by simp) ?_
    refine AllReadyH.cons (o := ⟨some 17, _, _, _, _, _⟩) rfl (fun Kr hKr => ?_) AllReadyH.nil
    -- operation 10: a call
    go_simp
    refine (hpl _ hS).mono ?_
    rintro e V0 ⟨rfl, hv⟩
    show Kr _ _
    refine hKr.out _ _ ?_ (fun _ => ?_)
    · exact since_trans hS hv
    clear hKr Kr
    replace hS : Since w1 V0 := since_trans hS hv
    try simp only [Act.put, List.setIfInBounds_toArray, List.set_cons_zero, List.set_cons_succ]
    refine wpAnyH_take (i := 11) (oi := ⟨some 6, _, _, _, _, _⟩) (v := ?_) rfl (by kernel_rfl) (by kernel_rfl) (by kernel_rfl) (fun _ _ _ h => h) (Or.inl ⟨by rfl, ?_⟩) hS ?_
    rotate_left
    · intro W hW; go_simp; with_reducible rfl
    try simp only [Act.put, List.setIfInBounds_toArray, List.set_cons_zero, List.set_cons_succ]
    refine wpAnyH_take (i := 12) (oi := ⟨some 18, _, _, _, _, _⟩) (v := ?_) rfl (by kernel_rfl) (by kernel_rfl) (by kernel_rfl) (fun _ _ _ h => h) (Or.inl ⟨by rfl, ?_⟩) hS ?_
    rotate_left
    · intro W hW; go_simp; with_reducible rfl
    try simp only [Act.put, List.setIfInBounds_toArray, List.set_cons_zero, List.set_cons_succ]
    refine wpAnyH_take (i := 13) (oi := ⟨some 19, _, _, _, _, _⟩) (v := ?_) rfl (by kernel_rfl) (by kernel_rfl) (by kernel_rfl) (fun _ _ _ h => h) (Or.inl ⟨by rfl, ?_⟩) hS ?_
    rotate_left
    · intro W hW; go_simp; with_reducible rfl
    try simp only [Act.put, List.setIfInBounds_toArray, List.set_cons_zero, List.set_cons_succ]
    refine wpAnyH_take (i := 14) (oi := ⟨some 4, _, _, _, _, _⟩) (v := ?_) rfl (by kernel_rfl) (by kernel_rfl) (by kernel_rfl) (fun _ _ _ h => h) (Or.inl ⟨by rfl, ?_⟩) hS ?_
    rotate_left
    · intro W hW; go_simp; with_reducible rfl
    try simp only [Act.put, List.setIfInBounds_toArray, List.set_cons_zero, List.set_cons_succ]
    refine wpAnyH_take (i := 15) (oi := ⟨some 5, _, _, _, _, _⟩) (v := ?_) rfl (by kernel_rfl) (by kernel_rfl) (by kernel_rfl) (fun _ _ _ h => h) (Or.inl ⟨by rfl, ?_⟩) hS ?_
    rotate_left
    · intro W hW; go_simp; with_reducible rfl
    try simp only [Act.put, List.setIfInBounds_toArray, List.set_cons_zero, List.set_cons_succ]
    refine wpAnyH_done (by kernel_rfl) ?_ _
    go_wp2_with fail
    go_meet
    case rel => exact ⟨rfl, rfl, hS⟩
  case rest =>
    obtain ⟨rfl, rfl, HS2⟩ := hcut
    obtain ⟨w2, hw2⟩ : ∃ w2, w2 = wc := ⟨_, rfl⟩
    subst hw2
    have HX2 := Lib.hid (HX1.out.below HS2.out)
    have HH2 := Lib.hid (HH1.out.below HS2.out)
    have HRD := Lib.hid (HH2.out.below (V := World.drew w2) ((Below.refl _ _).drew))
    have HJ2 := Lib.hid (HJ.out.below (HB1.out.trans (Below.mono HS2.out HB1.out.size)))
    have HK2 := Lib.hid (HK.out.below (HB1.out.trans (Below.mono HS2.out HB1.out.size)))
    replace HJ := HJ2
    have HBL2 := Lib.hid (show b3 < w2.heap.size from HX2.out.lt)
    have HGS := Lib.hid (show g + 1 ≤ (World.drew w2).heap.size from HH2.out.bk.lt)
    clear a0 a3 p0 hpl HX1 HH1
    have a2 : (World.drew w2).cell? ⟨g, 2, none⟩ = some pv := HRD.out.h2
    have a3 : (World.drew w2).cell? ⟨g, 3, none⟩ = some (.slice rA rn rc) := HRD.out.h3
    go_upto_region 2 with fail
    go_cut [] from 20 to 88 (fun wc => ∃ pv4, Hid (Hr wc g B0 tx cA n cc C pv4 (X ++ L1) rA rn rc R) ∧ Hid (∀ q, pv4.ownBlock = some q → q ≠ b3 ∧ (pv.ownBlock = some q ∨ w.heap.size ≤ q)) ∧ Hid (Turn (fun q => q = g ∨ pv.ownBlock = some q) w2 wc))
    case first =>
      refine wp_region_turn (X := (fun q => q = g ∨ pv.ownBlock = some q)) (by kernel_rfl) ?_
      have hS : Turn (fun q => q = g ∨ pv.ownBlock = some q) w2 (World.drew w2) := (Turn.refl _ _).drew
      refine wpAnyH_take (i := 0) (oi := ⟨some 20, _, _, _, _, _⟩) (v := ?_) rfl (by kernel_rfl) (by kernel_rfl) (by kernel_rfl) (fun _ _ _ h => h) (Or.inl ⟨by rfl, ?_⟩) hS ?_
      rotate_left
      · intro W hW; go_simp; with_reducible rfl
      try simp only [Act.put, List.setIfInBounds_toArray, List.set_cons_zero, List.set_cons_succ]
      refine wpAnyH_take (i := 1) (oi := ⟨some 21, _, _, _, _, _⟩) (v := ?_) rfl (by kernel_rfl) (by kernel_rfl) (by kernel_rfl) (fun _ _ _ h => h) (Or.inl ⟨by rfl, ?_⟩) hS ?_
      rotate_left
      · intro W hW; go_simp; with_reducible rfl
      try simp only [Act.put, List.setIfInBounds_toArray, List.set_cons_zero, List.set_cons_succ]
      refine wpAnyH_take (i := 2) (oi := ⟨some 22, _, _, _, _, _⟩) (v := ?_) rfl (by kernel_rfl) (by kernel_rfl) (by kernel_rfl) (fun _ _ _ h => h) (Or.inl ⟨by rfl, ?_⟩) hS ?_
      rotate_left
      · intro W hW; go_simp; with_reducible rfl
      try simp only [Act.put, List.setIfInBounds_toArray, List.set_cons_zero, List.set_cons_succ]
      refine wpAnyH_take (i := 3) (oi := ⟨some 23, _, _, _, _, _⟩) (v := ?_) rfl (by kernel_rfl) (by kernel_rfl) (by kernel_rfl) (fun _ _ _ h => h) (Or.inl ⟨by rfl, ?_⟩) hS ?_
      rotate_left
      · intro W hW; go_simp; with_reducible rfl
      try simp only [Act.put, List.setIfInBounds_toArray, List.set_cons_zero, List.set_cons_succ]
      refine wpAnyH_take (i := 5) (oi := ⟨some 25, _, _, _, _, _⟩) (v := ?_) rfl (by kernel_rfl) (by kernel_rfl) (by kernel_rfl) (fun _ _ _ h => h) (Or.inl ⟨by rfl, ?_⟩) hS ?_
      rotate_left
      · intro W hW; go_simp; with_reducible rfl
      try simp only [Act.put, List.setIfInBounds_toArray, List.set_cons_zero, List.set_cons_succ]
      refine wpAnyH_take (i := 6) (oi := ⟨some 26, _, _, _, _, _⟩) (v := ?_) rfl (by kernel_rfl) (by kernel_rfl) (by kernel_rfl) (fun _ _ _ h => h) (Or.inl ⟨by rfl, ?_⟩) hS ?_
      rotate_left
      · intro W hW; go_simp; with_reducible rfl
      try simp only [Act.put, List.setIfInBounds_toArray, List.set_cons_zero, List.set_cons_succ]
      refine wpAnyH_take (i := 7) (oi := ⟨some 27, _, _, _, _, _⟩) (v := ?_) rfl (by kernel_rfl) (by kernel_rfl) (by kernel_rfl) (fun _ _ _ h => h) (Or.inl ⟨by rfl, ?_⟩) hS ?_
      rotate_left
      · intro W hW; go_simp; with_reducible rfl
      try simp only [Act.put, List.setIfInBounds_toArray, List.set_cons_zero, List.set_cons_succ]
      refine wpAnyH_take (i := 9) (oi := ⟨some 29, _, _, _, _, _⟩) (v := ?_) rfl (by kernel_rfl) (by kernel_rfl) (by kernel_rfl) (fun _ _ _ h => h) (Or.inl ⟨by rfl, ?_⟩) hS ?_
      rotate_left
      · intro W hW; go_simp; with_reducible rfl
      try simp only [Act.put, List.setIfInBounds_toArray, List.set_cons_zero, List.set_cons_succ]
      refine wpAnyH_ready (rs := [4, 8]) (by kernel_rfl) (by simp) ?_
      refine AllReadyH.cons (o := ⟨some 24, _, _, _, _, _⟩) rfl (fun Kr hKr => ?_) (AllReadyH.cons (o := ⟨some 28, _, _, _, _, _⟩) rfl (fun Kr hKr => ?_) AllReadyH.nil)
      · skip
        -- operation 4: a step
        go_simp
        show Kr _ _
        refine hKr.out _ _ ?_ (fun _ => ?_)
        · exact hS
        clear hKr Kr
        try simp only [Act.put, List.setIfInBounds_toArray, List.set_cons_zero, List.set_cons_succ]
        refine wpAnyH_ready (rs := [8]) (by kernel_rfl) (by simp) ?_
        refine AllReadyH.cons (o := ⟨some 28, _, _, _, _, _⟩) rfl (fun Kr hKr => ?_) AllReadyH.nil
        -- operation 8: a step
        go_simp
        show Kr _ _
        refine hKr.out _ _ ?_ (fun _ => ?_)
        · exact hS
        clear hKr Kr
        try simp only [Act.put, List.setIfInBounds_toArray, List.set_cons_zero, List.set_cons_succ]
        refine wpAnyH_take (i := 10) (oi := ⟨some 30, _, _, _, _, _⟩) (v := ?_) rfl (by kernel_rfl) (by kernel_rfl) (by kernel_rfl) (fun _ _ _ h => h) (Or.inl ⟨by rfl, ?_⟩) hS ?_
        rotate_left
        · intro W hW; go_simp; with_reducible rfl
        try simp only [Act.put, List.setIfInBounds_toArray, List.set_cons_zero, List.set_cons_succ]
        refine wpAnyH_ready (rs := [11]) (by kernel_rfl) (by simp) ?_
        refine AllReadyH.cons (o := ⟨some 31, _, _, _, _, _⟩) rfl (fun Kr hKr => ?_) AllReadyH.nil
        -- operation 11: a step
        refine Rk.wp_append2 rp_oko (.tmp 24) (.tmp 30) rfl (g + 1) pv X L1 rfl HRD.out.past A3 l1 rc rfl (HJ.out.below ((Below.refl _ _).drew)) HLL.out HSP.out (by have := HLE.out; omega) (HGS.out) ?_
        intro v4 w4 hx1 hg1 ha1
        obtain ⟨n4, hn4⟩ : ∃ n4, (X ++ L1).length = n4 := ⟨_, rfl⟩
        obtain ⟨A4, c4, rfl⟩ := own_slice rp_oko hx1 hn4
        have HN4 := Lib.hid (show ∀ q, (Value.slice A4 n4 c4).ownBlock = some q → q ≠ b3 ∧ (pv.ownBlock = some q ∨ w.heap.size ≤ q) from fun q e => by rcases ha1 with h | h; exact ⟨HBN.out q (.inr (h.symm.trans e)), .inl (h.symm.trans e)⟩; have h2 : q = (World.drew w2).heap.size := Option.some.inj (e.symm.trans h); have h3 := HBL2.out; have h4 : (World.drew w2).heap.size = w2.heap.size := rfl; have h5 := HB3.out; exact ⟨by omega, .inr (by omega)⟩)
        clear hn4 ha1
        have HO4 := Lib.hid hx1
        have HG4 := Lib.hid hg1
        have HF4 := Lib.hid (HRD.out.bk.far hg1 (fun e => by have := (HRD.out.past.lt _ e.symm).1; omega))
        clear hx1 hg1
        have f4 := HF4.out.fr 2
        have f5 : w4.cell? ⟨g, 2, none⟩ = some pv := HF4.out.c 2 _ rfl
        show Kr _ _
        refine hKr.out _ _ ?_ (fun _ => ?_)
        · exact Turn.trans hS (Turn.grown (Turn.refl _ _) HG4.out (fun j e => .inl (.inr e)))
        clear hKr Kr
        replace hS : Turn (fun q => q = g ∨ pv.ownBlock = some q) w2 w4 := Turn.trans hS (Turn.grown (Turn.refl _ _) HG4.out (fun j e => .inl (.inr e)))
        try simp only [Act.put, List.setIfInBounds_toArray, List.set_cons_zero, List.set_cons_succ]
        refine wpAnyH_take (i := 12) (oi := ⟨some 32, _, _, _, _, _⟩) (v := ?_) rfl (by kernel_rfl) (by kernel_rfl) (by kernel_rfl) (fun _ _ _ h => h) (Or.inl ⟨by rfl, ?_⟩) hS ?_
        rotate_left
        · intro W hW; go_simp; with_reducible rfl
        try simp only [Act.put, List.setIfInBounds_toArray, List.set_cons_zero, List.set_cons_succ]
        refine wpAnyH_take (i := 13) (oi := ⟨some 33, _, _, _, _, _⟩) (v := ?_) rfl (by kernel_rfl) (by kernel_rfl) (by kernel_rfl) (fun _ _ _ h => h) (Or.inl ⟨by rfl, ?_⟩) hS ?_
        rotate_left
        · intro W hW; go_simp; with_reducible rfl
        try simp only [Act.put, List.setIfInBounds_toArray, List.set_cons_zero, List.set_cons_succ]
        refine wpAnyH_ready (rs := [14]) (by kernel_rfl) (by simp) ?_
        refine AllReadyH.cons (o := ⟨none, _, _, _, _, _⟩) rfl (fun Kr hKr => ?_) AllReadyH.nil
        -- operation 14: a step
        go_simp
        show Kr _ _
        refine hKr.out _ _ ?_ (fun _ => ?_)
        · exact Turn.trans hS ((Turn.refl _ _).setCell _ _ (.inl (.inl rfl)))
        clear hKr Kr
        replace hS : Turn (fun q => q = g ∨ pv.ownBlock = some q) w2 (w4.setCell ⟨g, 2, none⟩ (.slice A4 n4 c4)) := Turn.trans hS ((Turn.refl _ _).setCell _ _ (.inl (.inl rfl)))
        try simp only [Act.put, List.setIfInBounds_toArray, List.set_cons_zero, List.set_cons_succ]
        refine wpAnyH_done (by kernel_rfl) ?_ _
        go_wp2_with fail
        go_meet
        case rel => exact ⟨_, HRD.out.push HO4.out HG4.out, HN4.out, hS⟩
      · skip
        -- operation 8: a step
        go_simp
        show Kr _ _
        refine hKr.out _ _ ?_ (fun _ => ?_)
        · exact hS
        clear hKr Kr
        try simp only [Act.put, List.setIfInBounds_toArray, List.set_cons_zero, List.set_cons_succ]
        refine wpAnyH_take (i := 10) (oi := ⟨some 30, _, _, _, _, _⟩) (v := ?_) rfl (by kernel_rfl) (by kernel_rfl) (by kernel_rfl) (fun _ _ _ h => h) (Or.inl ⟨by rfl, ?_⟩) hS ?_
        rotate_left
        · intro W hW; go_simp; with_reducible rfl
        try simp only [Act.put, List.setIfInBounds_toArray, List.set_cons_zero, List.set_cons_succ]
        refine wpAnyH_ready (rs := [4]) (by kernel_rfl) (by simp) ?_
        refine AllReadyH.cons (o := ⟨some 24, _, _, _, _, _⟩) rfl (fun Kr hKr => ?_) AllReadyH.nil
        -- operation 4: a step
        go_simp
        show Kr _ _
        refine hKr.out _ _ ?_ (fun _ => ?_)
        · exact hS
        clear hKr Kr
        try simp only [Act.put, List.setIfInBounds_toArray, List.set_cons_zero, List.set_cons_succ]
        refine wpAnyH_ready (rs := [11]) (by kernel_rfl) (by simp) ?_
        refine AllReadyH.cons (o := ⟨some 31, _, _, _, _, _⟩) rfl (fun Kr hKr => ?_) AllReadyH.nil
        -- operation 11: a step
        refine Rk.wp_append2 rp_oko (.tmp 24) (.tmp 30) rfl (g + 1) pv X L1 rfl HRD.out.past A3 l1 rc rfl (HJ.out.below ((Below.refl _ _).drew)) HLL.out HSP.out (by have := HLE.out; omega) (HGS.out) ?_
        intro v4 w4 hx1 hg1 ha1
        obtain ⟨n4, hn4⟩ : ∃ n4, (X ++ L1).length = n4 := ⟨_, rfl⟩
        obtain ⟨A4, c4, rfl⟩ := own_slice rp_oko hx1 hn4
        have HN4 := Lib.hid (show ∀ q, (Value.slice A4 n4 c4).ownBlock = some q → q ≠ b3 ∧ (pv.ownBlock = some q ∨ w.heap.size ≤ q) from fun q e => by rcases ha1 with h | h; exact ⟨HBN.out q (.inr (h.symm.trans e)), .inl (h.symm.trans e)⟩; have h2 : q = (World.drew w2).heap.size := Option.some.inj (e.symm.trans h); have h3 := HBL2.out; have h4 : (World.drew w2).heap.size = w2.heap.size := rfl; have h5 := HB3.out; exact ⟨by omega, .inr (by omega)⟩)
        clear hn4 ha1
        have HO4 := Lib.hid hx1
        have HG4 := Lib.hid hg1
        have HF4 := Lib.hid (HRD.out.bk.far hg1 (fun e => by have := (HRD.out.past.lt _ e.symm).1; omega))
        clear hx1 hg1
        have f4 := HF4.out.fr 2
        have f5 : w4.cell? ⟨g, 2, none⟩ = some pv := HF4.out.c 2 _ rfl
        show Kr _ _
        refine hKr.out _ _ ?_ (fun _ => ?_)
        · exact Turn.trans hS (Turn.grown (Turn.refl _ _) HG4.out (fun j e => .inl (.inr e)))
        clear hKr Kr
        replace hS : Turn (fun q => q = g ∨ pv.ownBlock = some q) w2 w4 := Turn.trans hS (Turn.grown (Turn.refl _ _) HG4.out (fun j e => .inl (.inr e)))
        try simp only [Act.put, List.setIfInBounds_toArray, List.set_cons_zero, List.set_cons_succ]
        refine wpAnyH_take (i := 12) (oi := ⟨some 32, _, _, _, _, _⟩) (v := ?_) rfl (by kernel_rfl) (by kernel_rfl) (by kernel_rfl) (fun _ _ _ h => h) (Or.inl ⟨by rfl, ?_⟩) hS ?_
        rotate_left
        · intro W hW; go_simp; with_reducible rfl
        try simp only [Act.put, List.setIfInBounds_toArray, List.set_cons_zero, List.set_cons_succ]
        refine wpAnyH_take (i := 13) (oi := ⟨some 33, _, _, _, _, _⟩) (v := ?_) rfl (by kernel_rfl) (by kernel_rfl) (by kernel_rfl) (fun _ _ _ h => h) (Or.inl ⟨by rfl, ?_⟩) hS ?_
        rotate_left
        · intro W hW; go_simp; with_reducible rfl
        try simp only [Act.put, List.setIfInBounds_toArray, List.set_cons_zero, List.set_cons_succ]
        refine wpAnyH_ready (rs := [14]) (by kernel_rfl) (by simp) ?_
        refine AllReadyH.cons (o := ⟨none, _, _, _, _, _⟩) rfl (fun Kr hKr => ?_) AllReadyH.nil
        -- operation 14: a step
        go_simp
        show Kr _ _
        refine hKr.out _ _ ?_ (fun _ => ?_)
        · exact Turn.trans hS ((Turn.refl _ _).setCell _ _ (.inl (.inl rfl)))
        clear hKr Kr
        replace hS : Turn (fun q => q = g ∨ pv.ownBlock = some q) w2 (w4.setCell ⟨g, 2, none⟩ (.slice A4 n4 c4)) := Turn.trans hS ((Turn.refl _ _).setCell _ _ (.inl (.inl rfl)))
        try simp only [Act.put, List.setIfInBounds_toArray, List.set_cons_zero, List.set_cons_succ]
        refine wpAnyH_done (by kernel_rfl) ?_ _
        go_wp2_with fail
        go_meet
        case rel => exact ⟨_, HRD.out.push HO4.out HG4.out, HN4.out, hS⟩
    case rest =>
      obtain ⟨pv4, HH4, HN4, HT4⟩ := hcut
      obtain ⟨w4, hw4⟩ : ∃ w4, w4 = wc := ⟨_, rfl⟩
      subst hw4
      have HX4 := Lib.hid (HX2.out.turn HT4.out (fun h => HBN.out _ h rfl))
      have HK4 := Lib.hid (HK2.out.turn HT4.out (fun b o e => .inr fun h => by
        obtain ⟨o', e'⟩ := HKC.out.2.2 b o e
        have h1 := (HH2.out.rg b o' e').1
        rcases h with h | h
        · omega
        · have := (HH2.out.past.lt b h).1; omega))
      have HW4 := Lib.hid (show Turn (fun q => q = g ∨ pv.ownBlock = some q) w w4 from (Turn.ofBelow (HB1.out.trans (Below.mono HS2.out HB1.out.size))).trans HT4.out)
      clear HX2 HH2 HRD HJ2 HK2 HGS HT4 HJ a2 a3 j3 j4
      have a3 := HH4.out.h3
      have f3 := HH4.out.bk.fr 3
      go_upto_region 4 with fail
      have HH5 := Lib.hid (HH4.out.cut HK4.out HL2.out HKC.out.1 HKC.out.2.1 HKC.out.2.2)
      have HT5 : Hid (Turn (fun q => q = g) w4 (w4.setCell ⟨g, 3, none⟩ (.slice A5 l2 c5))) := (Turn.refl (fun q => q = g) w4).setCell _ _ (.inl rfl)
      have HX5 := Lib.hid (HX4.out.turn HT5.out (fun h => by have := HGB.out; omega))
      have HK5 := Lib.hid (HK4.out.turn HT5.out (fun b o e => .inr fun h => by
        obtain ⟨o', e'⟩ := HKC.out.2.2 b o e
        have h1 := (HH4.out.rg b o' e').1
        omega))
      have HW5 := Lib.hid (HW4.out.trans (HT5.out.mono (fun q h => .inl h)))
      generalize w4.setCell ⟨g, 3, none⟩ (.slice A5 l2 c5) = w5 at *
      clear HH4 HX4 HK4 HW4 HT5 a3 f3
      go_upto_if 43 with fail
      go_cut [] from 43 to 88 (fun wc => ∃ (rA6 : Option Addr) (rn6 rc6 : Nat) (u6 d6 : Int), Hid (Hr wc g B0 tx cA n cc C pv4 (X ++ L1) rA6 rn6 rc6 (putT ⟨c, tx, u, d⟩ L2)) ∧ Hid (Bk wc b3 (pdC c x u6 d6) 75) ∧ Hid (putH ⟨c, tx, u, d⟩ L2 = ⟨c, tx, u6, d6⟩) ∧ Hid (Turn (fun q => q = g ∨ pv.ownBlock = some q) w wc))
      case first =>
        cases tb
        · obtain ⟨e1, e2⟩ := there_no (u := u) (d := d) HTB.out
          have HE1 := Lib.hid e1
          have HE2 := Lib.hid e2
          clear e1 e2
          go_wp2_with fail
          go_meet
          case rel => exact ⟨_, _, _, u, d, by rw [HE2.out]; exact HH5, HX5, HE1, HW5⟩
        · obtain ⟨yu, yd, r, er, ep⟩ := there_yes HTB.out
          subst er
          have HE1 := Lib.hid (ep u d).1
          have HE2 := Lib.hid (ep u d).2
          clear ep
          have hlr : r.length + 1 = l2 := by have := HL2.out; rw [List.length_cons] at this; exact this
          obtain ⟨A7, c7, m1, m2, m3, m6, m4, m5⟩ := Rk.cut_from rp_oko Try.underlying32 rp_sz HK5.out HL2.out HKC.out.1 HKC.out.2.1 (k := 1) (by omega)
          have HM1 := Lib.hid (show RPo.At w5 A7 r from m1)
          obtain ⟨l7, hl7⟩ : ∃ q, l2 - 1 = q := ⟨_, rfl⟩
          rw [hl7] at m2 m4 m5
          have HM2 := Lib.hid (show r.length = l7 by omega)
          have HMC := Lib.hid (⟨m2, m3, m6⟩ : l7 ≤ c7 ∧ (c7 = 0 ∨ Sp A7) ∧ (∀ b o, A7 = some ⟨b, o, none⟩ → ∃ o', A5 = some ⟨b, o', none⟩))
          replace m4 : ∀ V : World, (Instr.slice 32 (.slice A5 l2 c5) (some (.int .i64 1)) none none).run Try.prog V = .ok (.slice A7 l7 c7) V := m4
          replace m5 : ∀ V : World, (Instr.sliceAt 32 (.slice A5 l2 c5) (some (.int .i64 1)) none none).run Try.prog V = .ok (.slice A7 l7 c7) V := m5
          obtain ⟨b5, o5, hA5, hb5, hget5, q0, q1, q2, q3⟩ := pd_o (i := 0) HK5.out HL2.out (by omega)
          subst hA5
          have q2 : w5.cell? ⟨b5, o5 + 2, none⟩ = some (.int .i64 yu) := by have h := q2; rw [Nat.zero_mul, Nat.add_zero] at h; exact h
          have q3 : w5.cell? ⟨b5, o5 + 3, none⟩ = some (.int .i64 yd) := by have h := q3; rw [Nat.zero_mul, Nat.add_zero] at h; exact h
          have HQ2 := Lib.hid q2
          have HQ3 := Lib.hid q3
          have HB5 := Lib.hid (show b5 < g by
            obtain ⟨o', e'⟩ := HKC.out.2.2 b5 o5 rfl
            exact (HH5.out.rg b5 o5 rfl).1)
          have hz1 : decide ((0 : Int) < (l2 : Int)) = true := decide_eq_true (by omega)
          have hz2 : decide (0 < l2) = true := decide_eq_true (by omega)
          have hz3 : (0 : Int) < (l2 : Int) := by omega
          have hz4 : 0 < l2 := by omega
          clear q0 q1 q2 q3 hb5 hget5 hlr hl7 m1 m2 m3 m6
          obtain ⟨z1, hz1'⟩ : ∃ z, w64 (u + yu) = z := ⟨_, rfl⟩
          obtain ⟨z2, hz2'⟩ : ∃ z, w64 (d + yd) = z := ⟨_, rfl⟩
          rw [hz1', hz2'] at HE1
          have ew1 : IntKind.i64.wrap (u + yu) = z1 := hz1'
          have ew2 : IntKind.i64.wrap (d + yd) = z2 := hz2'
          clear hz1' hz2'
          go_upto_region 5 with fail
          have b2 : (World.drew w5).cell? ⟨b3, 2, none⟩ = some (.int .i64 u) := HX5.out.p2
          have b2f : (World.drew w5).frozen? ⟨b3, 2, none⟩ = false := HX5.out.fr 2
          have a3 : ∀ V, Turn (fun q => q = b3) w5 V → V.cell? ⟨g, 3, none⟩ = some (.slice (some ⟨b5, o5, none⟩) l2 c5) := fun V hV => hV.cell HH5.out.h3 (fun h => by have := HGB.out; simp only at h; omega)
          have y2 : ∀ V, Turn (fun q => q = b3) w5 V → V.cell? ⟨b5, o5 + 2, none⟩ = some (.int .i64 yu) := fun V hV => hV.cell HQ2.out (fun h => by have := HGB.out; have := HB5.out; simp only at h; omega)
          refine wp_region_turn (X := (fun q => q = b3)) (by kernel_rfl) ?_
          have hS : Turn (fun q => q = b3) w5 (World.drew w5) := (Turn.refl _ _).drew
          refine wpAnyH_take (i := 0) (oi := ⟨some 44, _, _, _, _, _⟩) (v := ?_) rfl (by kernel_rfl) (by kernel_rfl) (by kernel_rfl) (fun _ _ _ h => h) (Or.inl ⟨by rfl, ?_⟩) hS ?_
          rotate_left
          · intro W hW; go_simp; with_reducible rfl
          try simp only [Act.put, List.setIfInBounds_toArray, List.set_cons_zero, List.set_cons_succ]
          refine wpAnyH_take (i := 2) (oi := ⟨some 46, _, _, _, _, _⟩) (v := ?_) rfl (by kernel_rfl) (by kernel_rfl) (by kernel_rfl) (fun _ _ _ h => h) (Or.inl ⟨by rfl, ?_⟩) hS ?_
          rotate_left
          · intro W hW; go_simp; with_reducible rfl
          try simp only [Act.put, List.setIfInBounds_toArray, List.set_cons_zero, List.set_cons_succ]
          refine wpAnyH_take (i := 3) (oi := ⟨some 47, _, _, _, _, _⟩) (v := ?_) rfl (by kernel_rfl) (by kernel_rfl) (by kernel_rfl) (fun _ _ _ h => h) (Or.inl ⟨by rfl, ?_⟩) hS ?_
          rotate_left
          · intro W hW; go_simp; with_reducible rfl
          try simp only [Act.put, List.setIfInBounds_toArray, List.set_cons_zero, List.set_cons_succ]
          refine wpAnyH_take (i := 4) (oi := ⟨some 48, _, _, _, _, _⟩) (v := ?_) rfl (by kernel_rfl) (by kernel_rfl) (by kernel_rfl) (fun _ _ _ h => h) (Or.inl ⟨by rfl, ?_⟩) hS ?_
          rotate_left
          · intro W hW; go_simp; with_reducible rfl
          try simp only [Act.put, List.setIfInBounds_toArray, List.set_cons_zero, List.set_cons_succ]
          refine wpAnyH_take (i := 5) (oi := ⟨some 49, _, _, _, _, _⟩) (v := ?_) rfl (by kernel_rfl) (by kernel_rfl) (by kernel_rfl) (fun _ _ _ h => h) (Or.inl ⟨by rfl, ?_⟩) hS ?_
          rotate_left
          · intro W hW; go_simp; with_reducible rfl
          try simp only [Act.put, List.setIfInBounds_toArray, List.set_cons_zero, List.set_cons_succ]
          refine wpAnyH_take (i := 6) (oi := ⟨some 50, _, _, _, _, _⟩) (v := ?_) rfl (by kernel_rfl) (by kernel_rfl) (by kernel_rfl) (fun _ _ _ h => h) (Or.inl ⟨by rfl, ?_⟩) hS ?_
          rotate_left
          · intro W hW; go_simp; with_reducible rfl
          try simp only [Act.put, List.setIfInBounds_toArray, List.set_cons_zero, List.set_cons_succ]
          refine wpAnyH_take (i := 7) (oi := ⟨some 51, _, _, _, _, _⟩) (v := ?_) rfl (by kernel_rfl) (by kernel_rfl) (by kernel_rfl) (fun _ _ _ h => h) (Or.inl ⟨by rfl, ?_⟩) hS ?_
          rotate_left
          · intro W hW; go_simp; with_reducible rfl
          try simp only [Act.put, List.setIfInBounds_toArray, List.set_cons_zero, List.set_cons_succ]
          refine wpAnyH_take (i := 8) (oi := ⟨some 52, _, _, _, _, _⟩) (v := ?_) rfl (by kernel_rfl) (by kernel_rfl) (by kernel_rfl) (fun _ _ _ h => h) (Or.inl ⟨by rfl, ?_⟩) hS ?_
          rotate_left
          · intro W hW; go_simp; with_reducible rfl
          try simp only [Act.put, List.setIfInBounds_toArray, List.set_cons_zero, List.set_cons_succ]
          refine wpAnyH_ready (rs := [1]) (by kernel_rfl) (by simp) ?_
          refine AllReadyH.cons (o := ⟨some 45, _, _, _, _, _⟩) rfl (fun Kr hKr => ?_) AllReadyH.nil
          -- operation 1: a step
          go_simp
          show Kr _ _
          refine hKr.out _ _ ?_ (fun _ => ?_)
          · exact hS
          clear hKr Kr
          try simp only [Act.put, List.setIfInBounds_toArray, List.set_cons_zero, List.set_cons_succ]
          refine wpAnyH_take (i := 9) (oi := ⟨some 53, _, _, _, _, _⟩) (v := ?_) rfl (by kernel_rfl) (by kernel_rfl) (by kernel_rfl) (fun _ _ _ h => h) (Or.inl ⟨by rfl, ?_⟩) hS ?_
          rotate_left
          · intro W hW; go_simp; with_reducible rfl
          try simp only [Act.put, List.setIfInBounds_toArray, List.set_cons_zero, List.set_cons_succ]
          refine wpAnyH_take (i := 10) (oi := ⟨some 54, _, _, _, _, _⟩) (v := ?_) rfl (by kernel_rfl) (by kernel_rfl) (by kernel_rfl) (fun _ _ _ h => h) (Or.inl ⟨by rfl, ?_⟩) hS ?_
          rotate_left
          · intro W hW; go_simp; with_reducible rfl
          try simp only [Act.put, List.setIfInBounds_toArray, List.set_cons_zero, List.set_cons_succ]
          refine wpAnyH_ready (rs := [11]) (by kernel_rfl) (by simp) ?_
          refine AllReadyH.cons (o := ⟨none, _, _, _, _, _⟩) rfl (fun Kr hKr => ?_) AllReadyH.nil
          -- operation 11: a step
          go_simp
          show Kr _ _
          refine hKr.out _ _ ?_ (fun _ => ?_)
          · exact ((Turn.refl (fun q => q = b3) w5).setCell _ _ (.inl rfl)).drew
          clear hKr Kr
          replace hS : Turn (fun q => q = b3) w5 (World.drew (w5.setCell ⟨b3, 2, none⟩ (.int .i64 z1))) := ((Turn.refl (fun q => q = b3) w5).setCell _ _ (.inl rfl)).drew
          try simp only [Act.put, List.setIfInBounds_toArray, List.set_cons_zero, List.set_cons_succ]
          refine wpAnyH_done (by kernel_rfl) ?_ _
          have HT6 := Lib.hid hS
          have HX6 := Lib.hid (show Bk (World.drew (w5.setCell ⟨b3, 2, none⟩ (.int .i64 z1))) b3 (pdC c x z1 d) 75 from bk_set HX5.out 2 (.int .i64 z1))
          clear hS b2 b2f a3 y2 ew1
          generalize World.drew (w5.setCell ⟨b3, 2, none⟩ (.int .i64 z1)) = w6 at *
          go_upto_region 6 with fail
          have b2 : (World.drew w6).cell? ⟨b3, 3, none⟩ = some (.int .i64 d) := HX6.out.p3
          have b2f : (World.drew w6).frozen? ⟨b3, 3, none⟩ = false := HX6.out.fr 3
          have a3 : ∀ V, Turn (fun q => q = b3) w6 V → V.cell? ⟨g, 3, none⟩ = some (.slice (some ⟨b5, o5, none⟩) l2 c5) := fun V hV => (HT6.out.trans hV).cell HH5.out.h3 (fun h => by have := HGB.out; simp only at h; omega)
          have y3 : ∀ V, Turn (fun q => q = b3) w6 V → V.cell? ⟨b5, o5 + 3, none⟩ = some (.int .i64 yd) := fun V hV => (HT6.out.trans hV).cell HQ3.out (fun h => by have := HGB.out; have := HB5.out; simp only at h; omega)
          refine wp_region_turn (X := (fun q => q = b3)) (by kernel_rfl) ?_
          have hS : Turn (fun q => q = b3) w6 (World.drew w6) := (Turn.refl _ _).drew
          refine wpAnyH_take (i := 0) (oi := ⟨some 55, _, _, _, _, _⟩) (v := ?_) rfl (by kernel_rfl) (by kernel_rfl) (by kernel_rfl) (fun _ _ _ h => h) (Or.inl ⟨by rfl, ?_⟩) hS ?_
          rotate_left
          · intro W hW; go_simp; with_reducible rfl
          try simp only [Act.put, List.setIfInBounds_toArray, List.set_cons_zero, List.set_cons_succ]
          refine wpAnyH_take (i := 2) (oi := ⟨some 57, _, _, _, _, _⟩) (v := ?_) rfl (by kernel_rfl) (by kernel_rfl) (by kernel_rfl) (fun _ _ _ h => h) (Or.inl ⟨by rfl, ?_⟩) hS ?_
          rotate_left
          · intro W hW; go_simp; with_reducible rfl
          try simp only [Act.put, List.setIfInBounds_toArray, List.set_cons_zero, List.set_cons_succ]
          refine wpAnyH_take (i := 3) (oi := ⟨some 58, _, _, _, _, _⟩) (v := ?_) rfl (by kernel_rfl) (by kernel_rfl) (by kernel_rfl) (fun _ _ _ h => h) (Or.inl ⟨by rfl, ?_⟩) hS ?_
          rotate_left
          · intro W hW; go_simp; with_reducible rfl
          try simp only [Act.put, List.setIfInBounds_toArray, List.set_cons_zero, List.set_cons_succ]
          refine wpAnyH_take (i := 4) (oi := ⟨some 59, _, _, _, _, _⟩) (v := ?_) rfl (by kernel_rfl) (by kernel_rfl) (by kernel_rfl) (fun _ _ _ h => h) (Or.inl ⟨by rfl, ?_⟩) hS ?_
          rotate_left
          · intro W hW; go_simp; with_reducible rfl
          try simp only [Act.put, List.setIfInBounds_toArray, List.set_cons_zero, List.set_cons_succ]
          refine wpAnyH_take (i := 5) (oi := ⟨some 60, _, _, _, _, _⟩) (v := ?_) rfl (by kernel_rfl) (by kernel_rfl) (by kernel_rfl) (fun _ _ _ h => h) (Or.inl ⟨by rfl, ?_⟩) hS ?_
          rotate_left
          · intro W hW; go_simp; with_reducible rfl
          try simp only [Act.put, List.setIfInBounds_toArray, List.set_cons_zero, List.set_cons_succ]
          refine wpAnyH_take (i := 6) (oi := ⟨some 61, _, _, _, _, _⟩) (v := ?_) rfl (by kernel_rfl) (by kernel_rfl) (by kernel_rfl) (fun _ _ _ h => h) (Or.inl ⟨by rfl, ?_⟩) hS ?_
          rotate_left
          · intro W hW; go_simp; with_reducible rfl
          try simp only [Act.put, List.setIfInBounds_toArray, List.set_cons_zero, List.set_cons_succ]
          refine wpAnyH_take (i := 7) (oi := ⟨some 62, _, _, _, _, _⟩) (v := ?_) rfl (by kernel_rfl) (by kernel_rfl) (by kernel_rfl) (fun _ _ _ h => h) (Or.inl ⟨by rfl, ?_⟩) hS ?_
          rotate_left
          · intro W hW; go_simp; with_reducible rfl
          try simp only [Act.put, List.setIfInBounds_toArray, List.set_cons_zero, List.set_cons_succ]
          refine wpAnyH_take (i := 8) (oi := ⟨some 63, _, _, _, _, _⟩) (v := ?_) rfl (by kernel_rfl) (by kernel_rfl) (by kernel_rfl) (fun _ _ _ h => h) (Or.inl ⟨by rfl, ?_⟩) hS ?_
          rotate_left
          · intro W hW; go_simp; with_reducible rfl
          try simp only [Act.put, List.setIfInBounds_toArray, List.set_cons_zero, List.set_cons_succ]
          refine wpAnyH_ready (rs := [1]) (by kernel_rfl) (by simp) ?_
          refine AllReadyH.cons (o := ⟨some 56, _, _, _, _, _⟩) rfl (fun Kr hKr => ?_) AllReadyH.nil
          -- operation 1: a step
          go_simp
          show Kr _ _
          refine hKr.out _ _ ?_ (fun _ => ?_)
          · exact hS
          clear hKr Kr
          try simp only [Act.put, List.setIfInBounds_toArray, List.set_cons_zero, List.set_cons_succ]
          refine wpAnyH_take (i := 9) (oi := ⟨some 64, _, _, _, _, _⟩) (v := ?_) rfl (by kernel_rfl) (by kernel_rfl) (by kernel_rfl) (fun _ _ _ h => h) (Or.inl ⟨by rfl, ?_⟩) hS ?_
          rotate_left
          · intro W hW; go_simp; with_reducible rfl
          try simp only [Act.put, List.setIfInBounds_toArray, List.set_cons_zero, List.set_cons_succ]
          refine wpAnyH_take (i := 10) (oi := ⟨some 65, _, _, _, _, _⟩) (v := ?_) rfl (by kernel_rfl) (by kernel_rfl) (by kernel_rfl) (fun _ _ _ h => h) (Or.inl ⟨by rfl, ?_⟩) hS ?_
          rotate_left
          · intro W hW; go_simp; with_reducible rfl
          try simp only [Act.put, List.setIfInBounds_toArray, List.set_cons_zero, List.set_cons_succ]
          refine wpAnyH_ready (rs := [11]) (by kernel_rfl) (by simp) ?_
          refine AllReadyH.cons (o := ⟨none, _, _, _, _, _⟩) rfl (fun Kr hKr => ?_) AllReadyH.nil
          -- operation 11: a step
          go_simp
          show Kr _ _
          refine hKr.out _ _ ?_ (fun _ => ?_)
          · exact ((Turn.refl (fun q => q = b3) w6).setCell _ _ (.inl rfl)).drew
          clear hKr Kr
          replace hS : Turn (fun q => q = b3) w6 (World.drew (w6.setCell ⟨b3, 3, none⟩ (.int .i64 z2))) := ((Turn.refl (fun q => q = b3) w6).setCell _ _ (.inl rfl)).drew
          try simp only [Act.put, List.setIfInBounds_toArray, List.set_cons_zero, List.set_cons_succ]
          refine wpAnyH_done (by kernel_rfl) ?_ _
          have HT7 := Lib.hid (HT6.out.trans hS)
          have HX7 := Lib.hid (show Bk (World.drew (w6.setCell ⟨b3, 3, none⟩ (.int .i64 z2))) b3 (pdC c x z1 z2) 75 from bk_set HX6.out 3 (.int .i64 z2))
          clear hS b2 b2f a3 y3 ew2 HT6 HX6
          generalize World.drew (w6.setCell ⟨b3, 3, none⟩ (.int .i64 z2)) = w7 at *
          have HH7 := Lib.hid (HH5.out.turn HT7.out (fun h => by have := HGB.out; omega) (fun q e h => by have h1 := HH5.out.cg q e; have := HGB.out; omega) (fun q e h => (HN4.out q e).1 h) (fun b o e h => by have h1 := (HH5.out.rg b o e).1; have := HGB.out; omega))
          have HM7 := Lib.hid (HM1.out.turn HT7.out (fun b o e => .inr fun h => by
            obtain ⟨o', e'⟩ := HMC.out.2.2 b o e
            have h1 := (HH5.out.rg b o' e').1
            have := HGB.out
            omega))
          have HW7 := Lib.hid (HW5.out.then HT7.out (fun q h1 h2 => by have := HB3.out; omega))
          have a3 := HH7.out.h3
          have f3 := HH7.out.bk.fr 3
          go_wp2_with fail
          go_meet
          case rel =>
            have hT8 : Turn (fun q => q = g) w7 (w7.setCell ⟨g, 3, none⟩ (.slice A7 l7 c7)) := (Turn.refl (fun q => q = g) w7).setCell _ _ (.inl rfl)
            exact ⟨_, _, _, z1, z2, by rw [HE2.out]; exact HH7.out.cut HM7.out HM2.out HMC.out.1 HMC.out.2.1 HMC.out.2.2, HX7.out.turn hT8 (fun h => by have := HGB.out; omega), HE1, HW7.out.trans (hT8.mono (fun q h => .inl h))⟩
      case rest =>
        obtain ⟨rA6, rn6, rc6, u6, d6, HH6, HX6, HPH, HW6⟩ := hcut
        obtain ⟨w6, hw6⟩ : ∃ w6, w6 = wc := ⟨_, rfl⟩
        subst hw6
        clear HH5 HX5 HK5 HW5 k4 k5 HKC HL2 HTB
        have a0 := HH6.out.h0
        have b1 := HX6.out.p1
        have b1f := HX6.out.fr 1
        go_upto_region 9 with fail
        have HT8 : Hid (Turn (fun q => q = b3) w6 (w6.setCell ⟨b3, 1, none⟩ (.int .i64 tx))) := (Turn.refl (fun q => q = b3) w6).setCell _ _ (.inl rfl)
        have HX8 := Lib.hid (show Bk (w6.setCell ⟨b3, 1, none⟩ (.int .i64 tx)) b3 (pdC c tx u6 d6) 75 from heap_setCell_same w6 b3 1 _ _ _ HX6.out)
        have HH8 := Lib.hid (HH6.out.turn HT8.out (fun h => by have := HGB.out; omega) (fun q e h => by have h1 := HH6.out.cg q e; have := HGB.out; omega) (fun q e h => (HN4.out q e).1 h) (fun b o e h => by have h1 := (HH6.out.rg b o e).1; have := HGB.out; omega))
        have HW8 := Lib.hid (HW6.out.then HT8.out (fun q h1 h2 => by have := HB3.out; omega))
        generalize w6.setCell ⟨b3, 1, none⟩ (.int .i64 tx) = w8 at *
        clear HH6 HX6 HW6 HT8 a0 b1 b1f
        have HB9 := Lib.hid (below_new (World.drew w8) (.cells (pdC c tx u6 d6) 75))
        have HHA := Lib.hid ((HH8.out.below (V := World.drew w8) ((Below.refl _ _).drew)).below HB9.out)
        have HPA := Lib.hid HHA.out.past
        have HSA := Lib.hid (show g + 1 ≤ ((World.drew w8).alloc (.cells (pdC c tx u6 d6) 75)).heap.size from HHA.out.bk.lt)
        have q0 : ∀ V, Turn (fun q => q = g ∨ pv4.ownBlock = some q) w8 V → V.cell? ⟨b3, 0, none⟩ = some (.int .i64 c) := fun V hV => (HX8.out.turn hV (fun h => by rcases h with h | h; have := HGB.out; omega; exact (HN4.out _ h).1 rfl)).p0
        have q1 : ∀ V, Turn (fun q => q = g ∨ pv4.ownBlock = some q) w8 V → V.cell? ⟨b3, 1, none⟩ = some (.int .i64 tx) := fun V hV => (HX8.out.turn hV (fun h => by rcases h with h | h; have := HGB.out; omega; exact (HN4.out _ h).1 rfl)).p1
        have q2 : ∀ V, Turn (fun q => q = g ∨ pv4.ownBlock = some q) w8 V → V.cell? ⟨b3, 2, none⟩ = some (.int .i64 u6) := fun V hV => (HX8.out.turn hV (fun h => by rcases h with h | h; have := HGB.out; omega; exact (HN4.out _ h).1 rfl)).p2
        have q3 : ∀ V, Turn (fun q => q = g ∨ pv4.ownBlock = some q) w8 V → V.cell? ⟨b3, 3, none⟩ = some (.int .i64 d6) := fun V hV => (HX8.out.turn hV (fun h => by rcases h with h | h; have := HGB.out; omega; exact (HN4.out _ h).1 rfl)).p3
        have k1 : (World.drew w8).cell? ⟨g, 2, none⟩ = some pv4 := HH8.out.h2
        have k2 : (World.drew (w8.alloc (.cells (pdC c tx u6 d6) 75))).cell? ⟨g, 2, none⟩ = some pv4 := HHA.out.h2
        have k3 : (w8.alloc (.cells (pdC c tx u6 d6) 75)).cell? ⟨g, 2, none⟩ = some pv4 := HHA.out.h2
        refine wp_region_turn (X := (fun q => q = g ∨ pv4.ownBlock = some q)) (by kernel_rfl) ?_
        have hS : Turn (fun q => q = g ∨ pv4.ownBlock = some q) w8 (World.drew w8) := (Turn.refl _ _).drew
        refine wpAnyH_take (i := 0) (oi := ⟨some 79, _, _, _, _, _⟩) (v := ?_) rfl (by kernel_rfl) (by kernel_rfl) (by kernel_rfl) (fun _ _ _ h => h) (Or.inl ⟨by rfl, ?_⟩) hS ?_
        rotate_left
        · intro W hW; go_simp; with_reducible rfl
        try simp only [Act.put, List.setIfInBounds_toArray, List.set_cons_zero, List.set_cons_succ]
        refine wpAnyH_take (i := 1) (oi := ⟨some 80, _, _, _, _, _⟩) (v := ?_) rfl (by kernel_rfl) (by kernel_rfl) (by kernel_rfl) (fun _ _ _ h => h) (Or.inl ⟨by rfl, ?_⟩) hS ?_
        rotate_left
        · intro W hW; go_simp; with_reducible rfl
        try simp only [Act.put, List.setIfInBounds_toArray, List.set_cons_zero, List.set_cons_succ]
        refine wpAnyH_take (i := 2) (oi := ⟨some 81, _, _, _, _, _⟩) (v := ?_) rfl (by kernel_rfl) (by kernel_rfl) (by kernel_rfl) (fun _ _ _ h => h) (Or.inl ⟨by rfl, ?_⟩) hS ?_
        rotate_left
        · intro W hW; go_simp; with_reducible rfl
        try simp only [Act.put, List.setIfInBounds_toArray, List.set_cons_zero, List.set_cons_succ]
        refine wpAnyH_take (i := 3) (oi := ⟨some 82, _, _, _, _, _⟩) (v := ?_) rfl (by kernel_rfl) (by kernel_rfl) (by kernel_rfl) (fun _ _ _ h => h) (Or.inl ⟨by rfl, ?_⟩) hS ?_
        rotate_left
        · intro W hW; go_simp; with_reducible rfl
        try simp only [Act.put, List.setIfInBounds_toArray, List.set_cons_zero, List.set_cons_succ]
        refine wpAnyH_take (i := 5) (oi := ⟨some 84, _, _, _, _, _⟩) (v := ?_) rfl (by kernel_rfl) (by kernel_rfl) (by kernel_rfl) (fun _ _ _ h => h) (Or.inl ⟨by rfl, ?_⟩) hS ?_
        rotate_left
        · intro W hW; go_simp; with_reducible rfl
        try simp only [Act.put, List.setIfInBounds_toArray, List.set_cons_zero, List.set_cons_succ]
        refine wpAnyH_ready (rs := [4, 6]) (by kernel_rfl) (by simp) ?_
        refine AllReadyH.cons (o := ⟨some 83, _, _, _, _, _⟩) rfl (fun Kr hKr => ?_) (AllReadyH.cons (o := ⟨some 85, _, _, _, _, _⟩) rfl (fun Kr hKr => ?_) AllReadyH.nil)
        · skip
          -- operation 4: a step
          go_simp
          show Kr _ _
          refine hKr.out _ _ ?_ (fun _ => ?_)
          · exact hS
          clear hKr Kr
          try simp only [Act.put, List.setIfInBounds_toArray, List.set_cons_zero, List.set_cons_succ]
          refine wpAnyH_ready (rs := [6]) (by kernel_rfl) (by simp) ?_
          refine AllReadyH.cons (o := ⟨some 85, _, _, _, _, _⟩) rfl (fun Kr hKr => ?_) AllReadyH.nil
          -- operation 6: a step
          go_simp
          show Kr _ _
          refine hKr.out _ _ ?_ (fun _ => ?_)
          · exact Turn.trans hS (Turn.ofBelow (below_new _ _))
          clear hKr Kr
          replace hS : Turn (fun q => q = g ∨ pv4.ownBlock = some q) w8 ((World.drew w8).alloc (.cells (pdC c tx u6 d6) 75)) := Turn.trans hS (Turn.ofBelow (below_new _ _))
          try simp only [Act.put, List.setIfInBounds_toArray, List.set_cons_zero, List.set_cons_succ]
          refine wpAnyH_ready (rs := [7]) (by kernel_rfl) (by simp) ?_
          refine AllReadyH.cons (o := ⟨some 86, _, _, _, _, _⟩) rfl (fun Kr hKr => ?_) AllReadyH.nil
          -- operation 7: a step
          refine Rk.wp_append rp_oko (.tmp 83) (.tmp 85) rfl (g + 1) pv4 (X ++ L1) [⟨c, tx, u6, d6⟩] rfl HPA.out _ 1 1 rfl (pdo_at (World.drew w8) (World.drew w8).heap.size rfl c tx u6 d6) rfl (.inr ⟨_, _, rfl⟩) (by have := HLE.out; rw [List.length_append, List.length_singleton]; omega) HSA.out ?_
          intro v9 w9 hx1 hg1 ha1
          obtain ⟨n9, hn9⟩ : ∃ n9, ((X ++ L1) ++ [(⟨c, tx, u6, d6⟩ : Pd)]).length = n9 := ⟨_, rfl⟩
          obtain ⟨A9, c9, rfl⟩ := own_slice rp_oko hx1 hn9
          have HN9 := Lib.hid (show ∀ q, (Value.slice A9 n9 c9).ownBlock = some q → pv.ownBlock = some q ∨ w.heap.size ≤ q from fun q e => by rcases ha1 with h | h; exact (HN4.out q (h.symm.trans e)).2; have h2 := Option.some.inj (e.symm.trans h); exact .inr (by rw [h2]; exact Nat.le_trans HW8.out.size HB9.out.size))
          clear hn9 ha1
          have HO9 := Lib.hid hx1
          have HG9 := Lib.hid hg1
          have HF9 := Lib.hid (HHA.out.bk.far hg1 (fun e => by have := (HHA.out.past.lt _ e.symm).1; omega))
          clear hx1 hg1
          have f9 := HF9.out.fr 2
          have f8 : w9.cell? ⟨g, 2, none⟩ = some pv4 := HF9.out.c 2 _ rfl
          show Kr _ _
          refine hKr.out _ _ ?_ (fun _ => ?_)
          · exact Turn.trans hS (Turn.grown (Turn.refl _ _) HG9.out (fun j e => .inl (.inr e)))
          clear hKr Kr
          replace hS : Turn (fun q => q = g ∨ pv4.ownBlock = some q) w8 w9 := Turn.trans hS (Turn.grown (Turn.refl _ _) HG9.out (fun j e => .inl (.inr e)))
          try simp only [Act.put, List.setIfInBounds_toArray, List.set_cons_zero, List.set_cons_succ]
          refine wpAnyH_take (i := 8) (oi := ⟨some 87, _, _, _, _, _⟩) (v := ?_) rfl (by kernel_rfl) (by kernel_rfl) (by kernel_rfl) (fun _ _ _ h => h) (Or.inl ⟨by rfl, ?_⟩) hS ?_
          rotate_left
          · intro W hW; go_simp; with_reducible rfl
          try simp only [Act.put, List.setIfInBounds_toArray, List.set_cons_zero, List.set_cons_succ]
          refine wpAnyH_take (i := 9) (oi := ⟨some 88, _, _, _, _, _⟩) (v := ?_) rfl (by kernel_rfl) (by kernel_rfl) (by kernel_rfl) (fun _ _ _ h => h) (Or.inl ⟨by rfl, ?_⟩) hS ?_
          rotate_left
          · intro W hW; go_simp; with_reducible rfl
          try simp only [Act.put, List.setIfInBounds_toArray, List.set_cons_zero, List.set_cons_succ]
          refine wpAnyH_ready (rs := [10]) (by kernel_rfl) (by simp) ?_
          refine AllReadyH.cons (o := ⟨none, _, _, _, _, _⟩) rfl (fun Kr hKr => ?_) AllReadyH.nil
          -- operation 10: a step
          go_simp
          show Kr _ _
          refine hKr.out _ _ ?_ (fun _ => ?_)
          · exact Turn.trans hS ((Turn.refl _ _).setCell _ _ (.inl (.inl rfl)))
          clear hKr Kr
          replace hS : Turn (fun q => q = g ∨ pv4.ownBlock = some q) w8 (w9.setCell ⟨g, 2, none⟩ (.slice A9 n9 c9)) := Turn.trans hS ((Turn.refl _ _).setCell _ _ (.inl (.inl rfl)))
          try simp only [Act.put, List.setIfInBounds_toArray, List.set_cons_zero, List.set_cons_succ]
          refine wpAnyH_done (by kernel_rfl) ?_ _
          go_wp2_with fail
          go_end0
          exact ⟨rfl, ⟨_, _, _, _, by rw [HPH.out]; exact HHA.out.push HO9.out HG9.out, HN9.out⟩, HW8.out.then hS (fun q h1 h2 => by rcases h2 with h2 | h2; exact .inl h2; rcases (HN4.out q h2).2 with h3 | h3; exact .inr h3; omega)⟩
        · skip
          -- operation 6: a step
          go_simp
          show Kr _ _
          refine hKr.out _ _ ?_ (fun _ => ?_)
          · exact Turn.trans hS (Turn.ofBelow (below_new _ _))
          clear hKr Kr
          replace hS : Turn (fun q => q = g ∨ pv4.ownBlock = some q) w8 ((World.drew w8).alloc (.cells (pdC c tx u6 d6) 75)) := Turn.trans hS (Turn.ofBelow (below_new _ _))
          try simp only [Act.put, List.setIfInBounds_toArray, List.set_cons_zero, List.set_cons_succ]
          refine wpAnyH_ready (rs := [4]) (by kernel_rfl) (by simp) ?_
          refine AllReadyH.cons (o := ⟨some 83, _, _, _, _, _⟩) rfl (fun Kr hKr => ?_) AllReadyH.nil
          -- operation 4: a step
          go_simp
          show Kr _ _
          refine hKr.out _ _ ?_ (fun _ => ?_)
          · exact hS
          clear hKr Kr
          try simp only [Act.put, List.setIfInBounds_toArray, List.set_cons_zero, List.set_cons_succ]
          refine wpAnyH_ready (rs := [7]) (by kernel_rfl) (by simp) ?_
          refine AllReadyH.cons (o := ⟨some 86, _, _, _, _, _⟩) rfl (fun Kr hKr => ?_) AllReadyH.nil
          -- operation 7: a step
          refine Rk.wp_append rp_oko (.tmp 83) (.tmp 85) rfl (g + 1) pv4 (X ++ L1) [⟨c, tx, u6, d6⟩] rfl HPA.out _ 1 1 rfl (pdo_at (World.drew w8) (World.drew w8).heap.size rfl c tx u6 d6) rfl (.inr ⟨_, _, rfl⟩) (by have := HLE.out; rw [List.length_append, List.length_singleton]; omega) HSA.out ?_
          intro v9 w9 hx1 hg1 ha1
          obtain ⟨n9, hn9⟩ : ∃ n9, ((X ++ L1) ++ [(⟨c, tx, u6, d6⟩ : Pd)]).length = n9 := ⟨_, rfl⟩
          obtain ⟨A9, c9, rfl⟩ := own_slice rp_oko hx1 hn9
          have HN9 := Lib.hid (show ∀ q, (Value.slice A9 n9 c9).ownBlock = some q → pv.ownBlock = some q ∨ w.heap.size ≤ q from fun q e => by rcases ha1 with h | h; exact (HN4.out q (h.symm.trans e)).2; have h2 := Option.some.inj (e.symm.trans h); exact .inr (by rw [h2]; exact Nat.le_trans HW8.out.size HB9.out.size))
          clear hn9 ha1
          have HO9 := Lib.hid hx1
          have HG9 := Lib.hid hg1
          have HF9 := Lib.hid (HHA.out.bk.far hg1 (fun e => by have := (HHA.out.past.lt _ e.symm).1; omega))
          clear hx1 hg1
          have f9 := HF9.out.fr 2
          have f8 : w9.cell? ⟨g, 2, none⟩ = some pv4 := HF9.out.c 2 _ rfl
          show Kr _ _
          refine hKr.out _ _ ?_ (fun _ => ?_)
          · exact Turn.trans hS (Turn.grown (Turn.refl _ _) HG9.out (fun j e => .inl (.inr e)))
          clear hKr Kr
          replace hS : Turn (fun q => q = g ∨ pv4.ownBlock = some q) w8 w9 := Turn.trans hS (Turn.grown (Turn.refl _ _) HG9.out (fun j e => .inl (.inr e)))
          try simp only [Act.put, List.setIfInBounds_toArray, List.set_cons_zero, List.set_cons_succ]
          refine wpAnyH_take (i := 8) (oi := ⟨some 87, _, _, _, _, _⟩) (v := ?_) rfl (by kernel_rfl) (by kernel_rfl) (by kernel_rfl) (fun _ _ _ h => h) (Or.inl ⟨by rfl, ?_⟩) hS ?_
          rotate_left
          · intro W hW; go_simp; with_reducible rfl
          try simp only [Act.put, List.setIfInBounds_toArray, List.set_cons_zero, List.set_cons_succ]
          refine wpAnyH_take (i := 9) (oi := ⟨some 88, _, _, _, _, _⟩) (v := ?_) rfl (by kernel_rfl) (by kernel_rfl) (by kernel_rfl) (fun _ _ _ h => h) (Or.inl ⟨by rfl, ?_⟩) hS ?_
          rotate_left
          · intro W hW; go_simp; with_reducible rfl
          try simp only [Act.put, List.setIfInBounds_toArray, List.set_cons_zero, List.set_cons_succ]
          refine wpAnyH_ready (rs := [10]) (by kernel_rfl) (by simp) ?_
          refine AllReadyH.cons (o := ⟨none, _, _, _, _, _⟩) rfl (fun Kr hKr => ?_) AllReadyH.nil
          -- operation 10: a step
          go_simp
          show Kr _ _
          refine hKr.out _ _ ?_ (fun _ => ?_)
          · exact Turn.trans hS ((Turn.refl _ _).setCell _ _ (.inl (.inl rfl)))
          clear hKr Kr
          replace hS : Turn (fun q => q = g ∨ pv4.ownBlock = some q) w8 (w9.setCell ⟨g, 2, none⟩ (.slice A9 n9 c9)) := Turn.trans hS ((Turn.refl _ _).setCell _ _ (.inl (.inl rfl)))
          try simp only [Act.put, List.setIfInBounds_toArray, List.set_cons_zero, List.set_cons_succ]
          refine wpAnyH_done (by kernel_rfl) ?_ _
          go_wp2_with fail
          go_end0
          exact ⟨rfl, ⟨_, _, _, _, by rw [HPH.out]; exact HHA.out.push HO9.out HG9.out, HN9.out⟩, HW8.out.then hS (fun q h1 h2 => by rcases h2 with h2 | h2; exact .inl h2; rcases (HN4.out q h2).2 with h3 | h3; exact .inr h3; omega)⟩
end Go.Proofs.Ytogngghfdcpeaaa
