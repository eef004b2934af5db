/-
  Whether a table may be: of one that may.
-/
import Derived.Test.YtmhnjmfcenbogaaPd
import Derived.Test.YtmhnjmfcenbogaaGs
namespace Go.Proofs.Ytmhnjmfcenbogaa
set_option maxRecDepth 100000
set_option linter.unusedVariables false
set_option linter.unusedSimpArgs false
open Go.RowKit

theorem rise_next {P : List Vn} (h : RiseV P) {i : Nat} (hi : i + 1 < P.length) : (P.getD i vnD).L (keyVn (P.getD (i + 1) vnD).b (P.getD (i + 1) vnD).x) := by
  have hg : ∀ i (hi : i < P.length), P.getD i vnD = P[i] := fun i hi => by rw [List.getD_eq_getElem?_getD, List.getElem?_eq_getElem hi]; rfl
  rw [hg i (by omega), hg (i + 1) hi]
  exact List.pairwise_iff_getElem.1 h i (i + 1) (by omega) hi (by omega)

set_option maxHeartbeats 2000000 in
theorem sane_any : SaneOk := by
  intro A B n a m b t w ht hs hl
  obtain ⟨ss, hss⟩ := ht.base
  obtain ⟨vs, hvs⟩ := ht.vers
  have hm : m ≤ 1000 := by rw [← hvs.k]; exact hl
  have hfew : n ≤ 256 := by rw [← hss.k]; exact hs.n
  have HE := Lib.hid (show ∀ i, i < n → (t.B.getD i []).length = 32 from fun i hi => by
    have hi : i < t.B.length := by rw [hss.k]; exact hi
    rw [List.getD_eq_getElem?_getD, List.getElem?_eq_getElem hi]
    exact hs.e _ (List.getElem_mem _))
  have HM := Lib.hid (show ∀ i, i < m → ((0 ≤ (t.L.getD i vnD).b ∧ (t.L.getD i vnD).b < (n : Int)) ∧ (0 ≤ (t.L.getD i vnD).x ∧ (t.L.getD i vnD).x ≤ 63)) ∧ (t.L.getD i vnD).d.length = 32 from fun i hi => by
    have hi : i < t.L.length := by rw [hvs.k]; exact hi
    rw [List.getD_eq_getElem?_getD, List.getElem?_eq_getElem hi]
    have h := hs.may _ (List.getElem_mem hi)
    rw [hss.k] at h
    exact ⟨⟨h.1, h.2.1⟩, h.2.2⟩)
  have HUP := Lib.hid (show ∀ i, i + 1 < m → cmpV (t.L.getD i vnD).b (t.L.getD i vnD).x (t.L.getD (i + 1) vnD).b (t.L.getD (i + 1) vnD).x < 0 from fun i hi => (cmpV_facts _ _ _).1.2 (rise_next hs.up (by rw [hvs.k]; exact hi)))
  have HSS := Lib.hid hss
  have HVS := Lib.hid hvs
  have HX := Lib.hid (Bk.new w (vtC A n a B m b) 30)
  have HB := Lib.hid (below_new w (.cells (vtC A n a B m b) 30))
  clear ht hs hl hss hvs
  go_enter Try.func13, Try.ntmps13
  have hd : decide ((n : Int) > 256) = false := decide_eq_false (by omega)
  have hd2 : decide ((256 : Int) < (n : Int)) = false := decide_eq_false (by omega)
  have hd3 : decide (256 < n) = false := decide_eq_false (by omega)
  go_wp2_with fail
  clear hd hd2 hd3
  go_loopw [14] (fun u wr => ∃ j : Nat, u = .int .i64 (j : Int) ∧ j ≤ n ∧ Hid (Bk wr w.heap.size (vtC A n a B m b) 30) ∧ Hid (Below w.heap.size w wr)) (fun u _ => n - (intOf u).toNat)
  case atStart => exact ⟨0, rfl, Nat.zero_le _, HX, HB⟩
  case round =>
    obtain ⟨j, rfl, hj, HXj, HBj⟩ := hrel
    rcases Nat.lt_or_ge j n with hlt | hge
    · obtain ⟨b2, o, Ax, nx, cx, hA, hbl, q0, hd⟩ := bas_cells HSS.out hlt
      subst hA
      obtain rfl : 32 = nx := by have := HE.out j hlt; have h2 := hd.n; simp only at h2; omega
      have c0 := (HBj.out.cell (p := ⟨b2, o + j, none⟩) hbl).trans q0
      have hd4 : decide ((j : Int) < (n : Int)) = true := decide_eq_true (by omega)
      have hd5 : decide (j < n) = true := decide_eq_true hlt
      have hi1 : (j : Int) < (n : Int) := by omega
      clear q0 hbl hd
      go_wp2_with fail
      exact ⟨⟨j + 1, rfl, hlt, HXj, HBj⟩, by simp [intOf]; omega⟩
    · obtain rfl : j = n := by omega
      have hd4 : decide ((j : Int) < (j : Int)) = false := decide_eq_false (by omega)
      have hd5 : decide (j < j) = false := decide_eq_false (by omega)
      have x1 := HXj.out.v1
      go_wp2_with fail
      clear x1 hd4 hd5
      go_loopw [25] (fun u wr2 => ∃ i : Nat, u = .int .i64 (i : Int) ∧ i ≤ m ∧ Hid (Bk wr2 w.heap.size (vtC A j a B m b) 30) ∧ Hid (Below w.heap.size w wr2)) (fun u _ => m - (intOf u).toNat)
      case atStart => exact ⟨0, rfl, Nat.zero_le _, HXj, HBj⟩
      case round =>
        clear HXj HBj
        obtain ⟨i, rfl, hi, HXj, HBj⟩ := hrel
        rcases Nat.lt_or_ge i m with hlt | hge2
        · obtain ⟨b2, o, zA, zn, zk, hA, hbl, _, q0, q1, q2, hdz⟩ := ver_cells rfl rv_oko HVS.out hlt
          subst hA
          obtain ⟨hmy, hmd⟩ := HM.out i hlt
          obtain rfl : 32 = zn := by have h2 := hdz.n; simp only at h2; omega
          have HCN := Lib.hid (show ∀ k, k < m → ∃ yA yn yk, w.cell? ⟨b2, o + k * 3, none⟩ = some (.int .i64 (t.L.getD k vnD).b) ∧ w.cell? ⟨b2, o + k * 3 + 1, none⟩ = some (.int .i64 (t.L.getD k vnD).x) ∧ w.cell? ⟨b2, o + k * 3 + 2, none⟩ = some (.slice yA yn yk) from fun k hk => by
            obtain ⟨b3, o3, yA, yn, yk, e3, _, _, r0, r1, r2, _⟩ := ver_cells rfl rv_oko HVS.out hk
            injection e3 with e3
            injection e3 with e3 e4
            subst e3; subst e4
            exact ⟨yA, yn, yk, r0, r1, r2⟩)
          have HP := Lib.hid (HUP.out (i - 1))
          obtain ⟨p, hp⟩ : ∃ p, t.L.getD i vnD = p := ⟨_, rfl⟩
          rw [hp] at q0 q1 hmy
          obtain ⟨pc, px, pd⟩ := p
          simp only at q0 q1 hmy
          have HMY := Lib.hid (fun V => vmay_any pc px zA zk j hmy.1 hmy.2 V)
          have HPP := Lib.hid hp
          have c0 := (HBj.out.cell (p := ⟨b2, o + i * 3, none⟩) hbl).trans q0
          have c1 := (HBj.out.cell (p := ⟨b2, o + i * 3 + 1, none⟩) hbl).trans q1
          have c2 := (HBj.out.cell (p := ⟨b2, o + i * 3 + 2, none⟩) hbl).trans q2
          have hd4 : decide ((i : Int) < (m : Int)) = true := decide_eq_true (by omega)
          have hd5 : decide (i < m) = true := decide_eq_true hlt
          have hi1 : (i : Int) < (m : Int) := by omega
          have hi2 : i < m := hlt
          have x0 := HXj.out.v0
          have x1 := HXj.out.v1
          have HBL := Lib.hid hbl
          clear q0 q1 q2 hbl hp hmy hmd hdz
          go_upto_region 12 with fail
          have HX2 := Lib.hid (HXj.out.al (.cells (veC pc px zA 32 zk) 74))
          have HB2 := Lib.hid (HBj.out.trans ((below_new wr (.cells (veC pc px zA 32 zk) 74)).mono HBj.out.size))
          have HK := Lib.hid (Bk.new wr (veC pc px zA 32 zk) 74)
          clear HXj HBj x0 x1 c0 c1 c2
          generalize wr.heap.size = g at *
          generalize wr.alloc (.cells (veC pc px zA 32 zk) 74) = wk at *
          have x0 : ∀ V, Since wk V → V.cell? ⟨w.heap.size, 0, none⟩ = some (.slice A j a) := fun V hV => (HX2.out.below hV).v0
          have x1 : ∀ V, Since wk V → V.cell? ⟨w.heap.size, 1, none⟩ = some (.slice (some ⟨b2, o, none⟩) m b) := fun V hV => (HX2.out.below hV).v1
          have p0 : ∀ V, Since wk V → V.cell? ⟨g, 0, none⟩ = some (.int .i64 pc) := fun V hV => (HK.out.below hV).e0
          have p1 : ∀ V, Since wk V → V.cell? ⟨g, 1, none⟩ = some (.int .i64 px) := fun V hV => (HK.out.below hV).e1
          have p2 : ∀ V, Since wk V → V.cell? ⟨g, 2, none⟩ = some (.slice zA 32 zk) := fun V hV => (HK.out.below hV).e2
          rcases Nat.eq_zero_or_pos i with rfl | hj0
          · have hz1 : decide ((0 : Int) > 0) = false := by decide
            have hz2 : decide ((0 : Int) < 0) = false := by decide
            have hz3 : decide (((0 : Nat) : Int) > 0) = false := by decide
            refine wp_region_since (by kernel_rfl) ?_
            have hS : Since wk (World.drew wk) := (Below.refl _ _).drew
            refine wpAnyH_take (i := 0) (oi := ⟨some 30, _, _, _, _, _⟩) (v := ?_) rfl (by kernel_rfl) (by kernel_rfl) (by kernel_rfl) (fun _ _ _ h => h) (Or.inl ⟨by rfl, ?_⟩) hS ?_
            rotate_left
            · intro W hW; go_simp; with_reducible rfl
            try simp only [Act.put, List.setIfInBounds_toArray, List.set_cons_zero, List.set_cons_succ]
            refine wpAnyH_take (i := 1) (oi := ⟨some 31, _, _, _, _, _⟩) (v := ?_) rfl (by kernel_rfl) (by kernel_rfl) (by kernel_rfl) (fun _ _ _ h => h) (Or.inl ⟨by rfl, ?_⟩) hS ?_
            rotate_left
            · intro W hW; go_simp; with_reducible rfl
            try simp only [Act.put, List.setIfInBounds_toArray, List.set_cons_zero, List.set_cons_succ]
            refine wpAnyH_take (i := 2) (oi := ⟨some 32, _, _, _, _, _⟩) (v := ?_) rfl (by kernel_rfl) (by kernel_rfl) (by kernel_rfl) (fun _ _ _ h => h) (Or.inl ⟨by rfl, ?_⟩) hS ?_
            rotate_left
            · intro W hW; go_simp; with_reducible rfl
            try simp only [Act.put, List.setIfInBounds_toArray, List.set_cons_zero, List.set_cons_succ]
            refine wpAnyH_take (i := 3) (oi := ⟨some 33, _, _, _, _, _⟩) (v := ?_) rfl (by kernel_rfl) (by kernel_rfl) (by kernel_rfl) (fun _ _ _ h => h) (Or.inl ⟨by rfl, ?_⟩) hS ?_
            rotate_left
            · intro W hW; go_simp; with_reducible rfl
            try simp only [Act.put, List.setIfInBounds_toArray, List.set_cons_zero, List.set_cons_succ]
            refine wpAnyH_ready (rs := [4]) (by kernel_rfl) (by simp) ?_
            refine AllReadyH.cons (o := ⟨some 34, _, _, _, _, _⟩) rfl (fun Kr hKr => ?_) AllReadyH.nil
            -- operation 4: a call
            go_simp
            refine (HMY.out _).mono ?_
            rintro e V0 ⟨rfl, hv⟩
            show Kr _ _
            refine hKr.out _ _ ?_ (fun _ => ?_)
            · exact since_trans hS hv
            clear hKr Kr
            replace hS : Since wk V0 := since_trans hS hv
            try simp only [Act.put, List.setIfInBounds_toArray, List.set_cons_zero, List.set_cons_succ]
            refine wpAnyH_take (i := 5) (oi := ⟨some 35, _, _, _, _, _⟩) (v := ?_) rfl (by kernel_rfl) (by kernel_rfl) (by kernel_rfl) (fun _ _ _ h => h) (Or.inl ⟨by rfl, ?_⟩) hS ?_
            rotate_left
            · intro W hW; go_simp; with_reducible rfl
            try simp only [Act.put, List.setIfInBounds_toArray, List.set_cons_zero, List.set_cons_succ]
            refine wpAnyH_take (i := 6) (oi := ⟨some 36, _, _, _, _, _⟩) (v := ?_) rfl (by kernel_rfl) (by kernel_rfl) (by kernel_rfl) (fun _ _ _ h => h) (Or.inl ⟨by rfl, ?_⟩) hS ?_
            rotate_left
            · intro W hW; go_simp; with_reducible rfl
            try simp only [Act.put, List.setIfInBounds_toArray, List.set_cons_zero, List.set_cons_succ]
            refine wpAnyH_take (i := 7) (oi := ⟨some 37, _, _, _, _, _⟩) (v := ?_) rfl (by kernel_rfl) (by kernel_rfl) (by kernel_rfl) (fun _ _ _ h => h) (Or.inl ⟨by rfl, ?_⟩) hS ?_
            rotate_left
            · intro W hW; go_simp; with_reducible rfl
            try simp only [Act.put, List.setIfInBounds_toArray, List.set_cons_zero, List.set_cons_succ]
            refine wpAnyH_take (i := 8) (oi := ⟨some 38, _, _, _, _, _⟩) (v := ?_) rfl (by kernel_rfl) (by kernel_rfl) (by kernel_rfl) (fun _ _ _ h => h) (Or.inl ⟨by rfl, ?_⟩) hS ?_
            rotate_left
            · intro W hW; go_simp; with_reducible rfl
            try simp only [Act.put, List.setIfInBounds_toArray, List.set_cons_zero, List.set_cons_succ]
            refine wpAnyH_take (i := 9) (oi := ⟨some 39, _, _, _, _, _⟩) (v := ?_) rfl (by kernel_rfl) (by kernel_rfl) (by kernel_rfl) (fun _ _ _ h => h) (Or.inl ⟨by rfl, ?_⟩) hS ?_
            rotate_left
            · intro W hW; go_simp; with_reducible rfl
            try simp only [Act.put, List.setIfInBounds_toArray, List.set_cons_zero, List.set_cons_succ]
            refine wpAnyH_take (i := 10) (oi := ⟨some 40, _, _, _, _, _⟩) (v := undef) rfl (by kernel_rfl) (by kernel_rfl) (by kernel_rfl) (fun _ _ _ h => h) (Or.inr ⟨by rfl, rfl⟩) hS ?_
            try simp only [Act.put, List.setIfInBounds_toArray, List.set_cons_zero, List.set_cons_succ]
            refine wpAnyH_take (i := 11) (oi := ⟨some 41, _, _, _, _, _⟩) (v := undef) rfl (by kernel_rfl) (by kernel_rfl) (by kernel_rfl) (fun _ _ _ h => h) (Or.inr ⟨by rfl, rfl⟩) hS ?_
            try simp only [Act.put, List.setIfInBounds_toArray, List.set_cons_zero, List.set_cons_succ]
            refine wpAnyH_take (i := 12) (oi := ⟨some 42, _, _, _, _, _⟩) (v := undef) rfl (by kernel_rfl) (by kernel_rfl) (by kernel_rfl) (fun _ _ _ h => h) (Or.inr ⟨by rfl, rfl⟩) hS ?_
            try simp only [Act.put, List.setIfInBounds_toArray, List.set_cons_zero, List.set_cons_succ]
            refine wpAnyH_take (i := 13) (oi := ⟨some 43, _, _, _, _, _⟩) (v := undef) rfl (by kernel_rfl) (by kernel_rfl) (by kernel_rfl) (fun _ _ _ h => h) (Or.inr ⟨by rfl, rfl⟩) hS ?_
            try simp only [Act.put, List.setIfInBounds_toArray, List.set_cons_zero, List.set_cons_succ]
            refine wpAnyH_take (i := 14) (oi := ⟨some 44, _, _, _, _, _⟩) (v := undef) rfl (by kernel_rfl) (by kernel_rfl) (by kernel_rfl) (fun _ _ _ h => h) (Or.inr ⟨by rfl, rfl⟩) hS ?_
            try simp only [Act.put, List.setIfInBounds_toArray, List.set_cons_zero, List.set_cons_succ]
            refine wpAnyH_take (i := 15) (oi := ⟨some 45, _, _, _, _, _⟩) (v := undef) rfl (by kernel_rfl) (by kernel_rfl) (by kernel_rfl) (fun _ _ _ h => h) (Or.inr ⟨by rfl, rfl⟩) hS ?_
            try simp only [Act.put, List.setIfInBounds_toArray, List.set_cons_zero, List.set_cons_succ]
            refine wpAnyH_take (i := 16) (oi := ⟨some 46, _, _, _, _, _⟩) (v := undef) rfl (by kernel_rfl) (by kernel_rfl) (by kernel_rfl) (fun _ _ _ h => h) (Or.inr ⟨by rfl, rfl⟩) hS ?_
            try simp only [Act.put, List.setIfInBounds_toArray, List.set_cons_zero, List.set_cons_succ]
            refine wpAnyH_take (i := 17) (oi := ⟨some 47, _, _, _, _, _⟩) (v := undef) rfl (by kernel_rfl) (by kernel_rfl) (by kernel_rfl) (fun _ _ _ h => h) (Or.inr ⟨by rfl, rfl⟩) hS ?_
            try simp only [Act.put, List.setIfInBounds_toArray, List.set_cons_zero, List.set_cons_succ]
            refine wpAnyH_take (i := 18) (oi := ⟨some 48, _, _, _, _, _⟩) (v := undef) rfl (by kernel_rfl) (by kernel_rfl) (by kernel_rfl) (fun _ _ _ h => h) (Or.inr ⟨by rfl, rfl⟩) hS ?_
            try simp only [Act.put, List.setIfInBounds_toArray, List.set_cons_zero, List.set_cons_succ]
            refine wpAnyH_take (i := 19) (oi := ⟨some 49, _, _, _, _, _⟩) (v := ?_) rfl (by kernel_rfl) (by kernel_rfl) (by kernel_rfl) (fun _ _ _ h => h) (Or.inl ⟨by rfl, ?_⟩) hS ?_
            rotate_left
            · intro W hW; go_simp; with_reducible rfl
            try simp only [Act.put, List.setIfInBounds_toArray, List.set_cons_zero, List.set_cons_succ]
            refine wpAnyH_take (i := 20) (oi := ⟨some 50, _, _, _, _, _⟩) (v := ?_) rfl (by kernel_rfl) (by kernel_rfl) (by kernel_rfl) (fun _ _ _ h => h) (Or.inl ⟨by rfl, ?_⟩) hS ?_
            rotate_left
            · intro W hW; go_simp; with_reducible rfl
            try simp only [Act.put, List.setIfInBounds_toArray, List.set_cons_zero, List.set_cons_succ]
            refine wpAnyH_done (by kernel_rfl) ?_ _
            go_wp2_with fail
            exact ⟨⟨1, rfl, hlt, Lib.hid (HX2.out.below hS), Lib.hid (HB2.out.trans (Below.mono hS HB2.out.size))⟩, by simp [intOf]; omega⟩
          · obtain ⟨k, rfl⟩ : ∃ k, i = k + 1 := ⟨i - 1, by omega⟩
            have HQ := Lib.hid (show cmpV (t.L.getD k vnD).b (t.L.getD k vnD).x pc px < 0 by have h := HP.out (by omega); rw [Nat.add_sub_cancel, HPP.out] at h; exact h)
            obtain ⟨yA, yn, yk, r0, r1, r2⟩ := HCN.out k (by omega)
            generalize t.L.getD k vnD = y at *
            obtain ⟨yc, yx, yd⟩ := y
            simp only at r0 r1
            have HQ2 : Hid (cmpV yc yx pc px < 0) := HQ
            have HCC := Lib.hid (fun V => compare_any yc yx pc px yA yn yk zA 32 zk V)
            generalize cmpV yc yx pc px = q at *
            have hg1 : decide (q ≥ 0) = false := decide_eq_false (by have := HQ2.out; omega)
            have hg2 : decide (0 ≤ q) = false := decide_eq_false (by have := HQ2.out; omega)
            have C0 : ∀ V, Since wk V → V.cell? ⟨b2, o + k * 3, none⟩ = some (.int .i64 yc) := fun V hV => ((HB2.out.trans (Below.mono hV HB2.out.size)).cell (p := ⟨b2, o + k * 3, none⟩) HBL.out).trans r0
            have C1 : ∀ V, Since wk V → V.cell? ⟨b2, o + k * 3 + 1, none⟩ = some (.int .i64 yx) := fun V hV => ((HB2.out.trans (Below.mono hV HB2.out.size)).cell (p := ⟨b2, o + k * 3 + 1, none⟩) HBL.out).trans r1
            have C2 : ∀ V, Since wk V → V.cell? ⟨b2, o + k * 3 + 2, none⟩ = some (.slice yA yn yk) := fun V hV => ((HB2.out.trans (Below.mono hV HB2.out.size)).cell (p := ⟨b2, o + k * 3 + 2, none⟩) HBL.out).trans r2
            have ew : IntKind.i64.wrap (((k + 1 : Nat) : Int) - 1) = (k : Int) := by rw [IntKind.wrap_i64]; omega
            have hz1 : decide (((k + 1 : Nat) : Int) > 0) = true := decide_eq_true (by omega)
            have hz2 : decide ((0 : Int) < ((k + 1 : Nat) : Int)) = true := decide_eq_true (by omega)
            have hz3 : decide (0 < k + 1) = true := decide_eq_true (by omega)
            have hi5 : k < m := by omega
            have hi6 : (k : Int) < (m : Int) := by omega
            clear r0 r1 r2 hj0 HQ
            obtain ⟨z, hzz⟩ : ∃ z : Nat, z = k + 1 := ⟨_, rfl⟩
            rw [← hzz] at ew hz1 hz2 hz3 hd4 hd5 hi1 hi2 hlt hi ⊢
            have HZ := Lib.hid hzz
            clear hzz HCN HP HPP
            refine wp_region_since (by kernel_rfl) ?_
            have hS : Since wk (World.drew wk) := (Below.refl _ _).drew
            refine wpAnyH_take (i := 0) (oi := ⟨some 30, _, _, _, _, _⟩) (v := ?_) rfl (by kernel_rfl) (by kernel_rfl) (by kernel_rfl) (fun _ _ _ h => h) (Or.inl ⟨by rfl, ?_⟩) hS ?_
            rotate_left
            · intro W hW; go_simp; with_reducible rfl
            try simp only [Act.put, List.setIfInBounds_toArray, List.set_cons_zero, List.set_cons_succ]
            refine wpAnyH_take (i := 1) (oi := ⟨some 31, _, _, _, _, _⟩) (v := ?_) rfl (by kernel_rfl) (by kernel_rfl) (by kernel_rfl) (fun _ _ _ h => h) (Or.inl ⟨by rfl, ?_⟩) hS ?_
            rotate_left
            · intro W hW; go_simp; with_reducible rfl
            try simp only [Act.put, List.setIfInBounds_toArray, List.set_cons_zero, List.set_cons_succ]
            refine wpAnyH_take (i := 2) (oi := ⟨some 32, _, _, _, _, _⟩) (v := ?_) rfl (by kernel_rfl) (by kernel_rfl) (by kernel_rfl) (fun _ _ _ h => h) (Or.inl ⟨by rfl, ?_⟩) hS ?_
            rotate_left
            · intro W hW; go_simp; with_reducible rfl
            try simp only [Act.put, List.setIfInBounds_toArray, List.set_cons_zero, List.set_cons_succ]
            refine wpAnyH_take (i := 3) (oi := ⟨some 33, _, _, _, _, _⟩) (v := ?_) rfl (by kernel_rfl) (by kernel_rfl) (by kernel_rfl) (fun _ _ _ h => h) (Or.inl ⟨by rfl, ?_⟩) hS ?_
            rotate_left
            · intro W hW; go_simp; with_reducible rfl
            try simp only [Act.put, List.setIfInBounds_toArray, List.set_cons_zero, List.set_cons_succ]
            refine wpAnyH_ready (rs := [4]) (by kernel_rfl) (by simp) ?_
            refine AllReadyH.cons (o := ⟨some 34, _, _, _, _, _⟩) rfl (fun Kr hKr => ?_) AllReadyH.nil
            -- operation 4: a call
            go_simp
            refine (HMY.out _).mono ?_
            rintro e V0 ⟨rfl, hv⟩
            show Kr _ _
            refine hKr.out _ _ ?_ (fun _ => ?_)
            · exact since_trans hS hv
            clear hKr Kr
            replace hS : Since wk V0 := since_trans hS hv
            try simp only [Act.put, List.setIfInBounds_toArray, List.set_cons_zero, List.set_cons_succ]
            refine wpAnyH_take (i := 5) (oi := ⟨some 35, _, _, _, _, _⟩) (v := ?_) rfl (by kernel_rfl) (by kernel_rfl) (by kernel_rfl) (fun _ _ _ h => h) (Or.inl ⟨by rfl, ?_⟩) hS ?_
            rotate_left
            · intro W hW; go_simp; with_reducible rfl
            try simp only [Act.put, List.setIfInBounds_toArray, List.set_cons_zero, List.set_cons_succ]
            refine wpAnyH_take (i := 6) (oi := ⟨some 36, _, _, _, _, _⟩) (v := ?_) rfl (by kernel_rfl) (by kernel_rfl) (by kernel_rfl) (fun _ _ _ h => h) (Or.inl ⟨by rfl, ?_⟩) hS ?_
            rotate_left
            · intro W hW; go_simp; with_reducible rfl
            try simp only [Act.put, List.setIfInBounds_toArray, List.set_cons_zero, List.set_cons_succ]
            refine wpAnyH_take (i := 7) (oi := ⟨some 37, _, _, _, _, _⟩) (v := ?_) rfl (by kernel_rfl) (by kernel_rfl) (by kernel_rfl) (fun _ _ _ h => h) (Or.inl ⟨by rfl, ?_⟩) hS ?_
            rotate_left
            · intro W hW; go_simp; with_reducible rfl
            try simp only [Act.put, List.setIfInBounds_toArray, List.set_cons_zero, List.set_cons_succ]
            refine wpAnyH_take (i := 8) (oi := ⟨some 38, _, _, _, _, _⟩) (v := ?_) rfl (by kernel_rfl) (by kernel_rfl) (by kernel_rfl) (fun _ _ _ h => h) (Or.inl ⟨by rfl, ?_⟩) hS ?_
            rotate_left
            · intro W hW; go_simp; with_reducible rfl
            try simp only [Act.put, List.setIfInBounds_toArray, List.set_cons_zero, List.set_cons_succ]
            refine wpAnyH_take (i := 9) (oi := ⟨some 39, _, _, _, _, _⟩) (v := ?_) rfl (by kernel_rfl) (by kernel_rfl) (by kernel_rfl) (fun _ _ _ h => h) (Or.inl ⟨by rfl, ?_⟩) hS ?_
            rotate_left
            · intro W hW; go_simp; with_reducible rfl
            try simp only [Act.put, List.setIfInBounds_toArray, List.set_cons_zero, List.set_cons_succ]
            refine wpAnyH_take (i := 10) (oi := ⟨some 40, _, _, _, _, _⟩) (v := ?_) rfl (by kernel_rfl) (by kernel_rfl) (by kernel_rfl) (fun _ _ _ h => h) (Or.inl ⟨by rfl, ?_⟩) hS ?_
            rotate_left
            · intro W hW; go_simp; with_reducible rfl
            try simp only [Act.put, List.setIfInBounds_toArray, List.set_cons_zero, List.set_cons_succ]
            refine wpAnyH_take (i := 11) (oi := ⟨some 41, _, _, _, _, _⟩) (v := ?_) rfl (by kernel_rfl) (by kernel_rfl) (by kernel_rfl) (fun _ _ _ h => h) (Or.inl ⟨by rfl, ?_⟩) hS ?_
            rotate_left
            · intro W hW; go_simp; with_reducible rfl
            try simp only [Act.put, List.setIfInBounds_toArray, List.set_cons_zero, List.set_cons_succ]
            refine wpAnyH_take (i := 12) (oi := ⟨some 42, _, _, _, _, _⟩) (v := ?_) rfl (by kernel_rfl) (by kernel_rfl) (by kernel_rfl) (fun _ _ _ h => h) (Or.inl ⟨by rfl, ?_⟩) hS ?_
            rotate_left
            · intro W hW; go_simp; with_reducible rfl
            try simp only [Act.put, List.setIfInBounds_toArray, List.set_cons_zero, List.set_cons_succ]
            refine wpAnyH_take (i := 13) (oi := ⟨some 43, _, _, _, _, _⟩) (v := ?_) rfl (by kernel_rfl) (by kernel_rfl) (by kernel_rfl) (fun _ _ _ h => h) (Or.inl ⟨by rfl, ?_⟩) hS ?_
            rotate_left
            · intro W hW; go_simp; with_reducible rfl
            try simp only [Act.put, List.setIfInBounds_toArray, List.set_cons_zero, List.set_cons_succ]
            refine wpAnyH_take (i := 14) (oi := ⟨some 44, _, _, _, _, _⟩) (v := ?_) rfl (by kernel_rfl) (by kernel_rfl) (by kernel_rfl) (fun _ _ _ h => h) (Or.inl ⟨by rfl, ?_⟩) hS ?_
            rotate_left
            · intro W hW; go_simp; with_reducible rfl
            try simp only [Act.put, List.setIfInBounds_toArray, List.set_cons_zero, List.set_cons_succ]
            refine wpAnyH_take (i := 15) (oi := ⟨some 45, _, _, _, _, _⟩) (v := ?_) rfl (by kernel_rfl) (by kernel_rfl) (by kernel_rfl) (fun _ _ _ h => h) (Or.inl ⟨by rfl, ?_⟩) hS ?_
            rotate_left
            · intro W hW; go_simp; with_reducible rfl
            try simp only [Act.put, List.setIfInBounds_toArray, List.set_cons_zero, List.set_cons_succ]
            refine wpAnyH_take (i := 16) (oi := ⟨some 46, _, _, _, _, _⟩) (v := ?_) rfl (by kernel_rfl) (by kernel_rfl) (by kernel_rfl) (fun _ _ _ h => h) (Or.inl ⟨by rfl, ?_⟩) hS ?_
            rotate_left
            · intro W hW; go_simp; with_reducible rfl
            try simp only [Act.put, List.setIfInBounds_toArray, List.set_cons_zero, List.set_cons_succ]
            refine wpAnyH_ready (rs := [17]) (by kernel_rfl) (by simp) ?_
            refine AllReadyH.cons (o := ⟨some 47, _, _, _, _, _⟩) rfl (fun Kr hKr => ?_) AllReadyH.nil
            -- operation 17: a call
            go_simp
            refine (HCC.out _).mono ?_
            rintro e V1 ⟨rfl, hv1⟩
            show Kr _ _
            refine hKr.out _ _ ?_ (fun _ => ?_)
            · exact since_trans hS hv1
            clear hKr Kr
            replace hS : Since wk V1 := since_trans hS hv1
            try simp only [Act.put, List.setIfInBounds_toArray, List.set_cons_zero, List.set_cons_succ]
            refine wpAnyH_take (i := 18) (oi := ⟨some 48, _, _, _, _, _⟩) (v := ?_) rfl (by kernel_rfl) (by kernel_rfl) (by kernel_rfl) (fun _ _ _ h => h) (Or.inl ⟨by rfl, ?_⟩) hS ?_
            rotate_left
            · intro W hW; go_simp; with_reducible rfl
            try simp only [Act.put, List.setIfInBounds_toArray, List.set_cons_zero, List.set_cons_succ]
            refine wpAnyH_take (i := 19) (oi := ⟨some 49, _, _, _, _, _⟩) (v := ?_) rfl (by kernel_rfl) (by kernel_rfl) (by kernel_rfl) (fun _ _ _ h => h) (Or.inl ⟨by rfl, ?_⟩) hS ?_
            rotate_left
            · intro W hW; go_simp; with_reducible rfl
            try simp only [Act.put, List.setIfInBounds_toArray, List.set_cons_zero, List.set_cons_succ]
            refine wpAnyH_take (i := 20) (oi := ⟨some 50, _, _, _, _, _⟩) (v := ?_) rfl (by kernel_rfl) (by kernel_rfl) (by kernel_rfl) (fun _ _ _ h => h) (Or.inl ⟨by rfl, ?_⟩) hS ?_
            rotate_left
            · intro W hW; go_simp; with_reducible rfl
            try simp only [Act.put, List.setIfInBounds_toArray, List.set_cons_zero, List.set_cons_succ]
            refine wpAnyH_done (by kernel_rfl) ?_ _
            go_wp2_with fail
            exact ⟨⟨z + 1, rfl, hlt, Lib.hid (HX2.out.below hS), Lib.hid (HB2.out.trans (Below.mono hS HB2.out.size))⟩, by have := HZ.out; simp [intOf]; omega⟩
        · obtain rfl : i = m := by omega
          have hd6 : decide ((i : Int) < (i : Int)) = false := decide_eq_false (by omega)
          have hd7 : decide (i < i) = false := decide_eq_false (by omega)
          go_wp2_with fail
          go_ret
          exact ⟨rfl, HBj.out⟩
end Go.Proofs.Ytmhnjmfcenbogaa
