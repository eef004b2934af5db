/-
  Whether wants may be: of some that may.
-/
import Derived.Test.YtbokhhialfbjcaaGreatHasA
namespace Go.Proofs.YtbokhhialfbjcaaGreat
set_option maxRecDepth 100000
set_option linter.unusedVariables false
open Go.RowKit Go.Shelf Go.Sort

/-- wants that may be -/
structure SQ (Q : List Wn) : Prop where
  n : Q.length ≤ 64
  may : ∀ w ∈ Q, MayW w
  one : Q.Pairwise fun a w => a.x ≠ w.x
theorem SQ.no {Q : List Wn} (h : SQ Q) {i : Nat} {y : Wn} (hy : Q[i]? = some y) : hasL (Q.take i) (y.x : Int) = false := by
  unfold hasL
  rw [List.any_eq_false]
  intro w hw
  obtain ⟨j, hj⟩ := List.getElem?_of_mem hw
  have hji : j < i := by have := (List.getElem?_eq_some_iff.1 hj).1; rw [List.length_take] at this; omega
  rw [List.getElem?_take_of_lt hji] at hj
  have hp := h.one
  rw [List.pairwise_iff_getElem] at hp
  obtain ⟨h1, h2⟩ := List.getElem?_eq_some_iff.1 hj
  obtain ⟨h3, h4⟩ := List.getElem?_eq_some_iff.1 hy
  have := hp j i h1 h3 hji
  rw [h2, h4] at this
  simp; omega

set_option maxHeartbeats 1000000 in
theorem saneq_any (A : Option Addr) (Q : List Wn) (n k : Nat) (hN : Q.length = n) (hnk : n ≤ k) (hq : SQ Q) (w : World) (hQ : RW.At w A Q) :
    Calls Tryz.prog 8 #[.agg #[.slice A n k]] w fun e w' => e = .returned (.bool true) ∧ Below w.heap.size w w' := by
  have HN := Lib.hid hN
  have HQ := Lib.hid hQ
  have HG := Lib.hid hq
  have hn16 : n ≤ 64 := by rw [← hN]; exact hq.n
  have HB0 := Lib.hid (below_new w (.cells #[.slice A n k] 28))
  have HX0 := Lib.hid (show (w.alloc (.cells #[.slice A n k] 28)).cell? ⟨w.heap.size, 0, none⟩ = some (.slice A n k) from (cell_new w _ _ 0).trans rfl)
  clear hN hQ hq
  go_enter Tryz.func8, Tryz.ntmps8
  go_wp2_with fail
  go_loopw [12] (fun iv wr => ∃ j : Nat, iv = .int .i64 (j : Int) ∧ j ≤ n ∧ Hid (wr.cell? ⟨w.heap.size, 0, none⟩ = some (.slice A n k)) ∧ Hid (Below w.heap.size w wr)) (fun iv _ => n - (intOf iv).toNat)
  case atStart => exact ⟨0, rfl, Nat.zero_le _, HX0.out, HB0.out⟩
  case round =>
    obtain ⟨j, rfl, hj, HX, HB⟩ := hrel
    clear HB0 HX0
    rcases Nat.lt_or_ge j n with hlt | hge
    · obtain ⟨y, hy⟩ : ∃ y, Q[j]? = some y := ⟨Q[j]'(by rw [HN.out]; exact hlt), List.getElem?_eq_getElem (by rw [HN.out]; exact hlt)⟩
      have HM := Lib.hid (HG.out.may y (List.mem_of_getElem? hy))
      have HNO := Lib.hid (HG.out.no hy)
      have HQR := Lib.hid (HQ.out.below HB.out)
      obtain ⟨b, o, rfl, hb, hc⟩ := HQR.out.get rw_ok hy
      obtain ⟨wz, hwz⟩ : ∃ wz, wz = wr.alloc (.cells #[.int .i64 (y.x : Int), .int .i64 y.b, .int .i64 y.m] 52) := ⟨_, rfl⟩
      have hbz : Below wr.heap.size wr wz := by rw [hwz]; exact below_new _ _
      have hy4 : Bk wz wr.heap.size #[.int .i64 (y.x : Int), .int .i64 y.b, .int .i64 y.m] 52 := by rw [hwz]; exact Bk.new wr _ _
      have hX := hbz.cell (block_lt_of_cell (a := ⟨w.heap.size, 0, none⟩) HX.out) |>.trans HX.out
      have HBZ := Lib.hid (HB.out.trans (hbz.mono HB.out.size))
      have HXZ := Lib.hid hX
      have hc0 : wr.cell? ⟨b, o + j * 3, none⟩ = some (.int .i64 (y.x : Int)) := hc 0 _ rfl
      have hc1 : wr.cell? ⟨b, o + j * 3 + 1, none⟩ = some (.int .i64 y.b) := by have := hc 1 _ rfl; rwa [← Nat.add_assoc] at this
      have hc2 : wr.cell? ⟨b, o + j * 3 + 2, none⟩ = some (.int .i64 y.m) := by have := hc 2 _ rfl; rwa [← Nat.add_assoc] at this
      have k0 : ∀ V, Since wz V → V.cell? ⟨wr.heap.size, 0, none⟩ = some (.int .i64 (y.x : Int)) := fun V hV => (hy4.below hV).c 0 _ rfl
      have k1 : ∀ V, Since wz V → V.cell? ⟨wr.heap.size, 1, none⟩ = some (.int .i64 y.b) := fun V hV => (hy4.below hV).c 1 _ rfl
      have k2 : ∀ V, Since wz V → V.cell? ⟨wr.heap.size, 2, none⟩ = some (.int .i64 y.m) := fun V hV => (hy4.below hV).c 2 _ rfl
      have k3 : ∀ V, Since wz V → V.cell? ⟨w.heap.size, 0, none⟩ = some (.slice (some ⟨b, o, none⟩) n k) := fun V hV => (Below.cell hV (block_lt_of_cell (a := ⟨w.heap.size, 0, none⟩) hX)).trans hX
      have hjk : j ≤ k := by omega
      have HTJ := Lib.hid (show (Q.take j).length = j by rw [List.length_take, HN.out]; omega)
      have HHA : ∀ V, Since wz V → Calls Tryz.prog 25 #[.slice (some ⟨b, o, none⟩) j k, .int .i64 (y.x : Int)] V fun e w' => e = .returned (.bool false) ∧ Below V.heap.size V w' := fun V hV => by
        have h := has_any (some ⟨b, o, none⟩) (Q.take j) j k (y.x : Int) HTJ.out (by omega) V ((HQR.out.take j).below (hbz.trans (Below.mono hV hbz.size))) (.inr ⟨b, o, rfl⟩)
        rwa [HNO.out] at h
      have HHA := Lib.hid HHA
      clear hc hX hy4 hy
      go_upto_region 6 with fail
      rw [← hwz]
      clear hwz hc0 hc1 hc2
      refine wp_region_since (by kernel_rfl) ?_
      have hS : Since wz (World.drew wz) := (Below.refl _ _).drew
      refine wpAnyH_take (i := 0) (oi := ⟨some 17, _, _, _, _, _⟩) (v := ?_) rfl (by kernel_rfl) (by kernel_rfl) (by kernel_rfl) (fun _ _ _ h => h) (Or.inl ⟨by rfl, ?_⟩) hS ?_
      rotate_left
      · intro W hW; go_simp; with_reducible rfl
      try simp only [Act.put, List.setIfInBounds_toArray, List.set_cons_zero, List.set_cons_succ]
      refine wpAnyH_ready (rs := [1]) (by kernel_rfl) (by simp) ?_
      refine AllReadyH.cons (o := ⟨some 18, _, _, _, _, _⟩) rfl (fun Kr hKr => ?_) AllReadyH.nil
      -- operation 1: a call
      go_simp
      refine (mayw_any y HM.out _).mono ?_
      rintro e V0 ⟨rfl, hv⟩
      show Kr _ _
      refine hKr.out _ _ ?_ (fun _ => ?_)
      · exact since_trans hS hv.below
      clear hKr Kr
      replace hS : Since wz V0 := since_trans hS hv.below
      try simp only [Act.put, List.setIfInBounds_toArray, List.set_cons_zero, List.set_cons_succ]
      refine wpAnyH_take (i := 2) (oi := ⟨some 19, _, _, _, _, _⟩) (v := ?_) rfl (by kernel_rfl) (by kernel_rfl) (by kernel_rfl) (fun _ _ _ h => h) (Or.inl ⟨by rfl, ?_⟩) hS ?_
      rotate_left
      · intro W hW; go_simp; with_reducible rfl
      try simp only [Act.put, List.setIfInBounds_toArray, List.set_cons_zero, List.set_cons_succ]
      refine wpAnyH_take (i := 3) (oi := ⟨some 20, _, _, _, _, _⟩) (v := ?_) rfl (by kernel_rfl) (by kernel_rfl) (by kernel_rfl) (fun _ _ _ h => h) (Or.inl ⟨by rfl, ?_⟩) hS ?_
      rotate_left
      · intro W hW; go_simp; with_reducible rfl
      try simp only [Act.put, List.setIfInBounds_toArray, List.set_cons_zero, List.set_cons_succ]
      refine wpAnyH_take (i := 4) (oi := ⟨some 21, _, _, _, _, _⟩) (v := ?_) rfl (by kernel_rfl) (by kernel_rfl) (by kernel_rfl) (fun _ _ _ h => h) (Or.inl ⟨by rfl, ?_⟩) hS ?_
      rotate_left
      · intro W hW; go_simp; with_reducible rfl
      try simp only [Act.put, List.setIfInBounds_toArray, List.set_cons_zero, List.set_cons_succ]
      refine wpAnyH_take (i := 5) (oi := ⟨some 22, _, _, _, _, _⟩) (v := ?_) rfl (by kernel_rfl) (by kernel_rfl) (by kernel_rfl) (fun _ _ _ h => h) (Or.inl ⟨by rfl, ?_⟩) hS ?_
      rotate_left
      · intro W hW; go_simp; with_reducible rfl
      try simp only [Act.put, List.setIfInBounds_toArray, List.set_cons_zero, List.set_cons_succ]
      refine wpAnyH_take (i := 6) (oi := ⟨some 23, _, _, _, _, _⟩) (v := ?_) rfl (by kernel_rfl) (by kernel_rfl) (by kernel_rfl) (fun _ _ _ h => h) (Or.inl ⟨by rfl, ?_⟩) hS ?_
      rotate_left
      · intro W hW; go_simp; with_reducible rfl
      try simp only [Act.put, List.setIfInBounds_toArray, List.set_cons_zero, List.set_cons_succ]
      refine wpAnyH_take (i := 7) (oi := ⟨some 24, _, _, _, _, _⟩) (v := ?_) rfl (by kernel_rfl) (by kernel_rfl) (by kernel_rfl) (fun _ _ _ h => h) (Or.inl ⟨by rfl, ?_⟩) hS ?_
      rotate_left
      · intro W hW; go_simp; with_reducible rfl
      try simp only [Act.put, List.setIfInBounds_toArray, List.set_cons_zero, List.set_cons_succ]
      refine wpAnyH_take (i := 8) (oi := ⟨some 25, _, _, _, _, _⟩) (v := ?_) rfl (by kernel_rfl) (by kernel_rfl) (by kernel_rfl) (fun _ _ _ h => h) (Or.inl ⟨by rfl, ?_⟩) hS ?_
      rotate_left
      · intro W hW; go_simp; with_reducible rfl
      try simp only [Act.put, List.setIfInBounds_toArray, List.set_cons_zero, List.set_cons_succ]
      refine wpAnyH_take (i := 9) (oi := ⟨some 26, _, _, _, _, _⟩) (v := ?_) rfl (by kernel_rfl) (by kernel_rfl) (by kernel_rfl) (fun _ _ _ h => h) (Or.inl ⟨by rfl, ?_⟩) hS ?_
      rotate_left
      · intro W hW; go_simp; with_reducible rfl
      try simp only [Act.put, List.setIfInBounds_toArray, List.set_cons_zero, List.set_cons_succ]
      refine wpAnyH_ready (rs := [10]) (by kernel_rfl) (by simp) ?_
      refine AllReadyH.cons (o := ⟨some 27, _, _, _, _, _⟩) rfl (fun Kr hKr => ?_) AllReadyH.nil
      -- operation 10: a call
      go_simp
      refine (HHA.out _ hS).mono ?_
      rintro e V1 ⟨rfl, hv⟩
      show Kr _ _
      refine hKr.out _ _ ?_ (fun _ => ?_)
      · exact since_trans hS hv
      clear hKr Kr
      replace hS : Since wz V1 := since_trans hS hv
      try simp only [Act.put, List.setIfInBounds_toArray, List.set_cons_zero, List.set_cons_succ]
      refine wpAnyH_take (i := 11) (oi := ⟨some 28, _, _, _, _, _⟩) (v := ?_) rfl (by kernel_rfl) (by kernel_rfl) (by kernel_rfl) (fun _ _ _ h => h) (Or.inl ⟨by rfl, ?_⟩) hS ?_
      rotate_left
      · intro W hW; go_simp; with_reducible rfl
      try simp only [Act.put, List.setIfInBounds_toArray, List.set_cons_zero, List.set_cons_succ]
      refine wpAnyH_done (by kernel_rfl) ?_ _
      have HS := Lib.hid hS
      go_wp2
      go_roundw
      case rel => exact ⟨j + 1, by simp, by omega, (Below.cell HS.out (block_lt_of_cell (a := ⟨w.heap.size, 0, none⟩) HXZ.out)).trans HXZ.out, HBZ.out.trans (Below.mono HS.out HBZ.out.size)⟩
      case measure => simp [intOf]; omega
    · go_wp2
      go_ret
      exact ⟨rfl, HB.out⟩
end Go.Proofs.YtbokhhialfbjcaaGreat
