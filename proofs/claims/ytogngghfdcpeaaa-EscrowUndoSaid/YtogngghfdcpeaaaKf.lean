/-
  Whether a table may be.
-/
import Derived.Test.YtogngghfdcpeaaaKe
import Derived.Test.YtogngghfdcpeaaaLx
namespace Go.Proofs.Ytogngghfdcpeaaa
set_option maxRecDepth 100000
set_option linter.unusedVariables false
set_option linter.unusedSimpArgs false
open Go.RowKit

theorem stepP_no {n j : Nat} {P : List Pd} (h : (P.getD j pdD).may n = false) : stepP n P j = false := by unfold stepP; rw [h]; rfl
theorem stepP_first {n : Nat} {P : List Pd} (h : (P.getD 0 pdD).may n = true) : stepP n P 0 = true := by unfold stepP; rw [h]; rfl
theorem stepP_next {n i : Nat} {P : List Pd} (h : (P.getD (i + 1) pdD).may n = true) : stepP n P (i + 1) = (P.getD i pdD).lt (P.getD (i + 1) pdD) := by
  unfold stepP; rw [h]; simp
theorem cmp_lt (p q : Pd) : decide (0 ≤ cmpP p q) = !p.lt q := by
  have h1 := (cmpP_facts p q).2.2
  have h2 := Pd.lt_iff p q
  cases h : p.lt q
  · have : ¬ p.L q := fun e => by rw [h2.2 e] at h; cases h
    simpa using h1.2 this
  · have : p.L q := h2.1 h
    simp
    have h3 := (cmpP_facts p q).1
    exact h3.2 this

set_option maxHeartbeats 2000000 in
theorem psane_any (A B : Option Addr) (n a m b : Nat) (t : Tb) (hm : m ≤ 1000) (hmb : m ≤ b) (hsp : b = 0 ∨ Sp B) (w : World) (ht : TbAto w A n B m t) :
    Calls Try.prog 15 #[tbV A n a B m b] w fun e w' => e = .returned (.bool t.sane) ∧ Below w.heap.size w w' := by
  have HT := Lib.hid ht
  have HSP := Lib.hid hsp
  have HX := Lib.hid (Bk.new w (tbC A n a B m b) 34)
  have HB := Lib.hid (below_new w (.cells (tbC A n a B m b) 34))
  clear ht hsp
  go_enter Try.func15, Try.ntmps15
  rcases Nat.lt_or_ge 64 n with hbig | hfew
  · have HNO := Lib.hid (Tb.sane_many HT.out.cl hbig)
    have hd : decide ((n : Int) > 64) = true := decide_eq_true (by omega)
    have hd2 : decide ((64 : Int) < (n : Int)) = true := decide_eq_true (by omega)
    have hd3 : decide (64 < n) = true := decide_eq_true hbig
    go_wp2_with fail
    go_ret
    exact ⟨by rw [HNO.out]; rfl, HB.out⟩
  have hd : decide ((n : Int) > 64) = false := decide_eq_false (by omega)
  have hd2 : decide ((64 : Int) < (n : Int)) = false := decide_eq_false (by omega)
  have hd3 : decide (64 < n) = false := decide_eq_false (by omega)
  go_wp2_with fail
  clear hd hd2 hd3
  go_loopw [14] (fun u wr => ∃ j : Nat, u = .int .i64 (j : Int) ∧ j ≤ m ∧ Hid ((List.range j).all (stepP n t.P) = true) ∧ Hid (Bk wr w.heap.size (tbC A n a B m b) 34) ∧ Hid (Below w.heap.size w wr)) (fun u _ => m - (intOf u).toNat)
  case atStart => exact ⟨0, rfl, Nat.zero_le _, Lib.hid rfl, HX, HB⟩
  case round =>
    obtain ⟨j, rfl, hj, HAL, HXj, HBj⟩ := hrel
    rcases Nat.lt_or_ge j m with hlt | hge
    · obtain ⟨b2, o, hA, hbl, hget, q0, q1, q2, q3⟩ := pd_o HT.out.atP HT.out.pl hlt
      subst hA
      have HNX := Lib.hid (fun i (hi : i < m) => pd_o HT.out.atP HT.out.pl hi)
      have HNOP := Lib.hid (fun h => Tb.sane_noP HT.out.cl HT.out.pl hlt h)
      have HNM := Lib.hid (fun h => stepP_no (n := n) (j := j) (P := t.P) h)
      have HF0 := Lib.hid (fun h => stepP_first (n := n) (P := t.P) h)
      have HFN := Lib.hid (fun i h => stepP_next (n := n) (i := i) (P := t.P) h)
      obtain ⟨p, hp⟩ : ∃ p, t.P.getD j pdD = p := ⟨_, rfl⟩
      rw [hp] at q0 q1 q2 q3 hget
      have HP := Lib.hid hp
      clear hp
      obtain ⟨pc, px, u, d⟩ := p
      have c0 := (HBj.out.cell (p := ⟨b2, o + j * 4, none⟩) hbl).trans q0
      have c1 := (HBj.out.cell (p := ⟨b2, o + j * 4 + 1, none⟩) hbl).trans q1
      have c2 := (HBj.out.cell (p := ⟨b2, o + j * 4 + 2, none⟩) hbl).trans q2
      have c3 := (HBj.out.cell (p := ⟨b2, o + j * 4 + 3, none⟩) hbl).trans q3
      simp only at c0 c1 c2 c3
      have hd4 : decide ((j : Int) < (m : Int)) = true := decide_eq_true (by omega)
      have hd5 : decide (j < m) = true := decide_eq_true hlt
      have hi1 : (j : Int) < (m : Int) := by omega
      have hi2 : j < m := hlt
      have x0 := HXj.out.t0
      have x1 := HXj.out.t1
      have HBL := Lib.hid hbl
      clear q0 q1 q2 q3 hbl hget
      go_upto_region 6 with fail
      have HX2 := Lib.hid (HXj.out.al (.cells #[.int .i64 pc, .int .i64 px, .int .i64 u, .int .i64 d] 75))
      have HB2 := Lib.hid (HBj.out.trans ((below_new wr (.cells #[.int .i64 pc, .int .i64 px, .int .i64 u, .int .i64 d] 75)).mono HBj.out.size))
      have HK := Lib.hid (Bk.new wr #[.int .i64 pc, .int .i64 px, .int .i64 u, .int .i64 d] 75)
      clear HXj HBj x0 x1 c0 c1 c2 c3
      generalize wr.heap.size = g at *
      generalize wr.alloc (.cells #[.int .i64 pc, .int .i64 px, .int .i64 u, .int .i64 d] 75) = wk at *
      have x0 : ∀ V, Since wk V → V.cell? ⟨w.heap.size, 0, none⟩ = some (.slice A n a) := fun V hV => (HX2.out.below hV).t0
      have x1 : ∀ V, Since wk V → V.cell? ⟨w.heap.size, 1, none⟩ = some (.slice (some ⟨b2, o, none⟩) m b) := fun V hV => (HX2.out.below hV).t1
      have p0 : ∀ V, Since wk V → V.cell? ⟨g, 0, none⟩ = some (.int .i64 pc) := fun V hV => (HK.out.below hV).c 0 _ rfl
      have p1 : ∀ V, Since wk V → V.cell? ⟨g, 1, none⟩ = some (.int .i64 px) := fun V hV => (HK.out.below hV).c 1 _ rfl
      have p2 : ∀ V, Since wk V → V.cell? ⟨g, 2, none⟩ = some (.int .i64 u) := fun V hV => (HK.out.below hV).c 2 _ rfl
      have p3 : ∀ V, Since wk V → V.cell? ⟨g, 3, none⟩ = some (.int .i64 d) := fun V hV => (HK.out.below hV).c 3 _ rfl
      have HMY := Lib.hid (fun V => pmay_any pc px u d n V)
      obtain ⟨my, hmy⟩ : ∃ q, (Pd.mk pc px u d).may n = q := ⟨_, rfl⟩
      rw [hmy] at HMY
      have HM := Lib.hid hmy
      clear hmy
      cases my
      · have HNO := Lib.hid (HNOP.out (HNM.out (by rw [HP.out]; exact HM.out)))
        refine wp_region_since (by kernel_rfl) ?_
        have hS : Since wk (World.drew wk) := (Below.refl _ _).drew
        refine wpAnyH_take (i := 0) (oi := ⟨some 19, _, _, _, _, _⟩) (v := ?_) rfl (by kernel_rfl) (by kernel_rfl) (by kernel_rfl) (fun _ _ _ h => h) (Or.inl ⟨by rfl, ?_⟩) hS ?_
        rotate_left
        · intro W hW; go_simp; with_reducible rfl
        try simp only [Act.put, List.setIfInBounds_toArray, List.set_cons_zero, List.set_cons_succ]
        refine wpAnyH_take (i := 1) (oi := ⟨some 20, _, _, _, _, _⟩) (v := ?_) rfl (by kernel_rfl) (by kernel_rfl) (by kernel_rfl) (fun _ _ _ h => h) (Or.inl ⟨by rfl, ?_⟩) hS ?_
        rotate_left
        · intro W hW; go_simp; with_reducible rfl
        try simp only [Act.put, List.setIfInBounds_toArray, List.set_cons_zero, List.set_cons_succ]
        refine wpAnyH_take (i := 2) (oi := ⟨some 21, _, _, _, _, _⟩) (v := ?_) rfl (by kernel_rfl) (by kernel_rfl) (by kernel_rfl) (fun _ _ _ h => h) (Or.inl ⟨by rfl, ?_⟩) hS ?_
        rotate_left
        · intro W hW; go_simp; with_reducible rfl
        try simp only [Act.put, List.setIfInBounds_toArray, List.set_cons_zero, List.set_cons_succ]
        refine wpAnyH_take (i := 3) (oi := ⟨some 22, _, _, _, _, _⟩) (v := ?_) rfl (by kernel_rfl) (by kernel_rfl) (by kernel_rfl) (fun _ _ _ h => h) (Or.inl ⟨by rfl, ?_⟩) hS ?_
        rotate_left
        · intro W hW; go_simp; with_reducible rfl
        try simp only [Act.put, List.setIfInBounds_toArray, List.set_cons_zero, List.set_cons_succ]
        refine wpAnyH_ready (rs := [4]) (by kernel_rfl) (by simp) ?_
        refine AllReadyH.cons (o := ⟨some 23, _, _, _, _, _⟩) rfl (fun Kr hKr => ?_) AllReadyH.nil
        -- operation 4: a call
        go_simp
        refine (HMY.out _).mono ?_
        rintro e V0 ⟨rfl, hv⟩
        show Kr _ _
        refine hKr.out _ _ ?_ (fun _ => ?_)
        · exact since_trans hS hv
        clear hKr Kr
        replace hS : Since wk V0 := since_trans hS hv
        try simp only [Act.put, List.setIfInBounds_toArray, List.set_cons_zero, List.set_cons_succ]
        refine wpAnyH_take (i := 5) (oi := ⟨some 24, _, _, _, _, _⟩) (v := ?_) rfl (by kernel_rfl) (by kernel_rfl) (by kernel_rfl) (fun _ _ _ h => h) (Or.inl ⟨by rfl, ?_⟩) hS ?_
        rotate_left
        · intro W hW; go_simp; with_reducible rfl
        try simp only [Act.put, List.setIfInBounds_toArray, List.set_cons_zero, List.set_cons_succ]
        refine wpAnyH_take (i := 6) (oi := ⟨some 25, _, _, _, _, _⟩) (v := ?_) rfl (by kernel_rfl) (by kernel_rfl) (by kernel_rfl) (fun _ _ _ h => h) (Or.inl ⟨by rfl, ?_⟩) hS ?_
        rotate_left
        · intro W hW; go_simp; with_reducible rfl
        try simp only [Act.put, List.setIfInBounds_toArray, List.set_cons_zero, List.set_cons_succ]
        refine wpAnyH_take (i := 7) (oi := ⟨some 26, _, _, _, _, _⟩) (v := undef) rfl (by kernel_rfl) (by kernel_rfl) (by kernel_rfl) (fun _ _ _ h => h) (Or.inr ⟨by rfl, rfl⟩) hS ?_
        try simp only [Act.put, List.setIfInBounds_toArray, List.set_cons_zero, List.set_cons_succ]
        refine wpAnyH_take (i := 8) (oi := ⟨some 27, _, _, _, _, _⟩) (v := undef) rfl (by kernel_rfl) (by kernel_rfl) (by kernel_rfl) (fun _ _ _ h => h) (Or.inr ⟨by rfl, rfl⟩) hS ?_
        try simp only [Act.put, List.setIfInBounds_toArray, List.set_cons_zero, List.set_cons_succ]
        refine wpAnyH_take (i := 9) (oi := ⟨some 28, _, _, _, _, _⟩) (v := undef) rfl (by kernel_rfl) (by kernel_rfl) (by kernel_rfl) (fun _ _ _ h => h) (Or.inr ⟨by rfl, rfl⟩) hS ?_
        try simp only [Act.put, List.setIfInBounds_toArray, List.set_cons_zero, List.set_cons_succ]
        refine wpAnyH_take (i := 10) (oi := ⟨some 29, _, _, _, _, _⟩) (v := undef) rfl (by kernel_rfl) (by kernel_rfl) (by kernel_rfl) (fun _ _ _ h => h) (Or.inr ⟨by rfl, rfl⟩) hS ?_
        try simp only [Act.put, List.setIfInBounds_toArray, List.set_cons_zero, List.set_cons_succ]
        refine wpAnyH_take (i := 11) (oi := ⟨some 30, _, _, _, _, _⟩) (v := undef) rfl (by kernel_rfl) (by kernel_rfl) (by kernel_rfl) (fun _ _ _ h => h) (Or.inr ⟨by rfl, rfl⟩) hS ?_
        try simp only [Act.put, List.setIfInBounds_toArray, List.set_cons_zero, List.set_cons_succ]
        refine wpAnyH_take (i := 12) (oi := ⟨some 31, _, _, _, _, _⟩) (v := undef) rfl (by kernel_rfl) (by kernel_rfl) (by kernel_rfl) (fun _ _ _ h => h) (Or.inr ⟨by rfl, rfl⟩) hS ?_
        try simp only [Act.put, List.setIfInBounds_toArray, List.set_cons_zero, List.set_cons_succ]
        refine wpAnyH_take (i := 13) (oi := ⟨some 32, _, _, _, _, _⟩) (v := undef) rfl (by kernel_rfl) (by kernel_rfl) (by kernel_rfl) (fun _ _ _ h => h) (Or.inr ⟨by rfl, rfl⟩) hS ?_
        try simp only [Act.put, List.setIfInBounds_toArray, List.set_cons_zero, List.set_cons_succ]
        refine wpAnyH_take (i := 14) (oi := ⟨some 33, _, _, _, _, _⟩) (v := undef) rfl (by kernel_rfl) (by kernel_rfl) (by kernel_rfl) (fun _ _ _ h => h) (Or.inr ⟨by rfl, rfl⟩) hS ?_
        try simp only [Act.put, List.setIfInBounds_toArray, List.set_cons_zero, List.set_cons_succ]
        refine wpAnyH_take (i := 15) (oi := ⟨some 34, _, _, _, _, _⟩) (v := undef) rfl (by kernel_rfl) (by kernel_rfl) (by kernel_rfl) (fun _ _ _ h => h) (Or.inr ⟨by rfl, rfl⟩) hS ?_
        try simp only [Act.put, List.setIfInBounds_toArray, List.set_cons_zero, List.set_cons_succ]
        refine wpAnyH_take (i := 16) (oi := ⟨some 35, _, _, _, _, _⟩) (v := undef) rfl (by kernel_rfl) (by kernel_rfl) (by kernel_rfl) (fun _ _ _ h => h) (Or.inr ⟨by rfl, rfl⟩) hS ?_
        try simp only [Act.put, List.setIfInBounds_toArray, List.set_cons_zero, List.set_cons_succ]
        refine wpAnyH_take (i := 17) (oi := ⟨some 36, _, _, _, _, _⟩) (v := undef) rfl (by kernel_rfl) (by kernel_rfl) (by kernel_rfl) (fun _ _ _ h => h) (Or.inr ⟨by rfl, rfl⟩) hS ?_
        try simp only [Act.put, List.setIfInBounds_toArray, List.set_cons_zero, List.set_cons_succ]
        refine wpAnyH_take (i := 18) (oi := ⟨some 37, _, _, _, _, _⟩) (v := undef) rfl (by kernel_rfl) (by kernel_rfl) (by kernel_rfl) (fun _ _ _ h => h) (Or.inr ⟨by rfl, rfl⟩) hS ?_
        try simp only [Act.put, List.setIfInBounds_toArray, List.set_cons_zero, List.set_cons_succ]
        refine wpAnyH_take (i := 19) (oi := ⟨some 38, _, _, _, _, _⟩) (v := undef) rfl (by kernel_rfl) (by kernel_rfl) (by kernel_rfl) (fun _ _ _ h => h) (Or.inr ⟨by rfl, rfl⟩) hS ?_
        try simp only [Act.put, List.setIfInBounds_toArray, List.set_cons_zero, List.set_cons_succ]
        refine wpAnyH_take (i := 20) (oi := ⟨some 39, _, _, _, _, _⟩) (v := ?_) rfl (by kernel_rfl) (by kernel_rfl) (by kernel_rfl) (fun _ _ _ h => h) (Or.inl ⟨by rfl, ?_⟩) hS ?_
        rotate_left
        · intro W hW; go_simp; with_reducible rfl
        try simp only [Act.put, List.setIfInBounds_toArray, List.set_cons_zero, List.set_cons_succ]
        refine wpAnyH_done (by kernel_rfl) ?_ _
        go_wp2_with fail
        go_ret
        exact ⟨by rw [HNO.out]; rfl, HB2.out.trans (Below.mono hS HB2.out.size)⟩
      · rcases Nat.eq_zero_or_pos j with rfl | hj0
        · have HST := Lib.hid (HF0.out (by rw [HP.out]; exact HM.out))
          have hz1 : decide ((0 : Int) > 0) = false := by decide
          have hz2 : decide ((0 : Int) < 0) = false := by decide
          have hz3 : decide (((0 : Nat) : Int) > 0) = false := by decide
          refine wp_region_since (by kernel_rfl) ?_
          have hS : Since wk (World.drew wk) := (Below.refl _ _).drew
          refine wpAnyH_take (i := 0) (oi := ⟨some 19, _, _, _, _, _⟩) (v := ?_) rfl (by kernel_rfl) (by kernel_rfl) (by kernel_rfl) (fun _ _ _ h => h) (Or.inl ⟨by rfl, ?_⟩) hS ?_
          rotate_left
          · intro W hW; go_simp; with_reducible rfl
          try simp only [Act.put, List.setIfInBounds_toArray, List.set_cons_zero, List.set_cons_succ]
          refine wpAnyH_take (i := 1) (oi := ⟨some 20, _, _, _, _, _⟩) (v := ?_) rfl (by kernel_rfl) (by kernel_rfl) (by kernel_rfl) (fun _ _ _ h => h) (Or.inl ⟨by rfl, ?_⟩) hS ?_
          rotate_left
          · intro W hW; go_simp; with_reducible rfl
          try simp only [Act.put, List.setIfInBounds_toArray, List.set_cons_zero, List.set_cons_succ]
          refine wpAnyH_take (i := 2) (oi := ⟨some 21, _, _, _, _, _⟩) (v := ?_) rfl (by kernel_rfl) (by kernel_rfl) (by kernel_rfl) (fun _ _ _ h => h) (Or.inl ⟨by rfl, ?_⟩) hS ?_
          rotate_left
          · intro W hW; go_simp; with_reducible rfl
          try simp only [Act.put, List.setIfInBounds_toArray, List.set_cons_zero, List.set_cons_succ]
          refine wpAnyH_take (i := 3) (oi := ⟨some 22, _, _, _, _, _⟩) (v := ?_) rfl (by kernel_rfl) (by kernel_rfl) (by kernel_rfl) (fun _ _ _ h => h) (Or.inl ⟨by rfl, ?_⟩) hS ?_
          rotate_left
          · intro W hW; go_simp; with_reducible rfl
          try simp only [Act.put, List.setIfInBounds_toArray, List.set_cons_zero, List.set_cons_succ]
          refine wpAnyH_ready (rs := [4]) (by kernel_rfl) (by simp) ?_
          refine AllReadyH.cons (o := ⟨some 23, _, _, _, _, _⟩) rfl (fun Kr hKr => ?_) AllReadyH.nil
          -- operation 4: a call
          go_simp
          refine (HMY.out _).mono ?_
          rintro e V0 ⟨rfl, hv⟩
          show Kr _ _
          refine hKr.out _ _ ?_ (fun _ => ?_)
          · exact since_trans hS hv
          clear hKr Kr
          replace hS : Since wk V0 := since_trans hS hv
          try simp only [Act.put, List.setIfInBounds_toArray, List.set_cons_zero, List.set_cons_succ]
          refine wpAnyH_take (i := 5) (oi := ⟨some 24, _, _, _, _, _⟩) (v := ?_) rfl (by kernel_rfl) (by kernel_rfl) (by kernel_rfl) (fun _ _ _ h => h) (Or.inl ⟨by rfl, ?_⟩) hS ?_
          rotate_left
          · intro W hW; go_simp; with_reducible rfl
          try simp only [Act.put, List.setIfInBounds_toArray, List.set_cons_zero, List.set_cons_succ]
          refine wpAnyH_take (i := 6) (oi := ⟨some 25, _, _, _, _, _⟩) (v := ?_) rfl (by kernel_rfl) (by kernel_rfl) (by kernel_rfl) (fun _ _ _ h => h) (Or.inl ⟨by rfl, ?_⟩) hS ?_
          rotate_left
          · intro W hW; go_simp; with_reducible rfl
          try simp only [Act.put, List.setIfInBounds_toArray, List.set_cons_zero, List.set_cons_succ]
          refine wpAnyH_take (i := 7) (oi := ⟨some 26, _, _, _, _, _⟩) (v := ?_) rfl (by kernel_rfl) (by kernel_rfl) (by kernel_rfl) (fun _ _ _ h => h) (Or.inl ⟨by rfl, ?_⟩) hS ?_
          rotate_left
          · intro W hW; go_simp; with_reducible rfl
          try simp only [Act.put, List.setIfInBounds_toArray, List.set_cons_zero, List.set_cons_succ]
          refine wpAnyH_take (i := 8) (oi := ⟨some 27, _, _, _, _, _⟩) (v := ?_) rfl (by kernel_rfl) (by kernel_rfl) (by kernel_rfl) (fun _ _ _ h => h) (Or.inl ⟨by rfl, ?_⟩) hS ?_
          rotate_left
          · intro W hW; go_simp; with_reducible rfl
          try simp only [Act.put, List.setIfInBounds_toArray, List.set_cons_zero, List.set_cons_succ]
          refine wpAnyH_take (i := 9) (oi := ⟨some 28, _, _, _, _, _⟩) (v := ?_) rfl (by kernel_rfl) (by kernel_rfl) (by kernel_rfl) (fun _ _ _ h => h) (Or.inl ⟨by rfl, ?_⟩) hS ?_
          rotate_left
          · intro W hW; go_simp; with_reducible rfl
          try simp only [Act.put, List.setIfInBounds_toArray, List.set_cons_zero, List.set_cons_succ]
          refine wpAnyH_take (i := 10) (oi := ⟨some 29, _, _, _, _, _⟩) (v := undef) rfl (by kernel_rfl) (by kernel_rfl) (by kernel_rfl) (fun _ _ _ h => h) (Or.inr ⟨by rfl, rfl⟩) hS ?_
          try simp only [Act.put, List.setIfInBounds_toArray, List.set_cons_zero, List.set_cons_succ]
          refine wpAnyH_take (i := 11) (oi := ⟨some 30, _, _, _, _, _⟩) (v := undef) rfl (by kernel_rfl) (by kernel_rfl) (by kernel_rfl) (fun _ _ _ h => h) (Or.inr ⟨by rfl, rfl⟩) hS ?_
          try simp only [Act.put, List.setIfInBounds_toArray, List.set_cons_zero, List.set_cons_succ]
          refine wpAnyH_take (i := 12) (oi := ⟨some 31, _, _, _, _, _⟩) (v := undef) rfl (by kernel_rfl) (by kernel_rfl) (by kernel_rfl) (fun _ _ _ h => h) (Or.inr ⟨by rfl, rfl⟩) hS ?_
          try simp only [Act.put, List.setIfInBounds_toArray, List.set_cons_zero, List.set_cons_succ]
          refine wpAnyH_take (i := 13) (oi := ⟨some 32, _, _, _, _, _⟩) (v := undef) rfl (by kernel_rfl) (by kernel_rfl) (by kernel_rfl) (fun _ _ _ h => h) (Or.inr ⟨by rfl, rfl⟩) hS ?_
          try simp only [Act.put, List.setIfInBounds_toArray, List.set_cons_zero, List.set_cons_succ]
          refine wpAnyH_take (i := 14) (oi := ⟨some 33, _, _, _, _, _⟩) (v := undef) rfl (by kernel_rfl) (by kernel_rfl) (by kernel_rfl) (fun _ _ _ h => h) (Or.inr ⟨by rfl, rfl⟩) hS ?_
          try simp only [Act.put, List.setIfInBounds_toArray, List.set_cons_zero, List.set_cons_succ]
          refine wpAnyH_take (i := 15) (oi := ⟨some 34, _, _, _, _, _⟩) (v := undef) rfl (by kernel_rfl) (by kernel_rfl) (by kernel_rfl) (fun _ _ _ h => h) (Or.inr ⟨by rfl, rfl⟩) hS ?_
          try simp only [Act.put, List.setIfInBounds_toArray, List.set_cons_zero, List.set_cons_succ]
          refine wpAnyH_take (i := 16) (oi := ⟨some 35, _, _, _, _, _⟩) (v := undef) rfl (by kernel_rfl) (by kernel_rfl) (by kernel_rfl) (fun _ _ _ h => h) (Or.inr ⟨by rfl, rfl⟩) hS ?_
          try simp only [Act.put, List.setIfInBounds_toArray, List.set_cons_zero, List.set_cons_succ]
          refine wpAnyH_take (i := 17) (oi := ⟨some 36, _, _, _, _, _⟩) (v := undef) rfl (by kernel_rfl) (by kernel_rfl) (by kernel_rfl) (fun _ _ _ h => h) (Or.inr ⟨by rfl, rfl⟩) hS ?_
          try simp only [Act.put, List.setIfInBounds_toArray, List.set_cons_zero, List.set_cons_succ]
          refine wpAnyH_take (i := 18) (oi := ⟨some 37, _, _, _, _, _⟩) (v := undef) rfl (by kernel_rfl) (by kernel_rfl) (by kernel_rfl) (fun _ _ _ h => h) (Or.inr ⟨by rfl, rfl⟩) hS ?_
          try simp only [Act.put, List.setIfInBounds_toArray, List.set_cons_zero, List.set_cons_succ]
          refine wpAnyH_take (i := 19) (oi := ⟨some 38, _, _, _, _, _⟩) (v := ?_) rfl (by kernel_rfl) (by kernel_rfl) (by kernel_rfl) (fun _ _ _ h => h) (Or.inl ⟨by rfl, ?_⟩) hS ?_
          rotate_left
          · intro W hW; go_simp; with_reducible rfl
          try simp only [Act.put, List.setIfInBounds_toArray, List.set_cons_zero, List.set_cons_succ]
          refine wpAnyH_take (i := 20) (oi := ⟨some 39, _, _, _, _, _⟩) (v := ?_) rfl (by kernel_rfl) (by kernel_rfl) (by kernel_rfl) (fun _ _ _ h => h) (Or.inl ⟨by rfl, ?_⟩) hS ?_
          rotate_left
          · intro W hW; go_simp; with_reducible rfl
          try simp only [Act.put, List.setIfInBounds_toArray, List.set_cons_zero, List.set_cons_succ]
          refine wpAnyH_done (by kernel_rfl) ?_ _
          go_wp2_with fail
          exact ⟨⟨1, rfl, hlt, Lib.hid (all_succ HAL.out HST.out), Lib.hid (HX2.out.below hS), Lib.hid (HB2.out.trans (Below.mono hS HB2.out.size))⟩, by simp [intOf]; omega⟩
        · obtain ⟨i, rfl⟩ : ∃ i, j = i + 1 := ⟨j - 1, by omega⟩
          have HFX := Lib.hid (HFN.out i (by rw [HP.out]; exact HM.out))
          obtain ⟨b3, o3, e3, hbl3, hget3, r0, r1, r2, r3⟩ := HNX.out i (by omega)
          injection e3 with e3
          injection e3 with e3 e4
          subst e3; subst e4
          have HLT := Lib.hid (show decide (0 ≤ cmpP (t.P.getD i pdD) (t.P.getD (i + 1) pdD)) = !(stepP n t.P (i + 1)) by rw [HFX.out]; exact cmp_lt _ _)
          rw [HP.out] at HLT
          generalize t.P.getD i pdD = y at *
          obtain ⟨yc, yx, yu, yd⟩ := y
          have HCC := Lib.hid (fun V => compare_any yc yx yu yd pc px u d V)
          generalize cmpP ⟨yc, yx, yu, yd⟩ ⟨pc, px, u, d⟩ = q at *
          have C0 : ∀ V, Since wk V → V.cell? ⟨b2, o + i * 4, none⟩ = some (.int .i64 yc) := fun V hV => ((HB2.out.trans (Below.mono hV HB2.out.size)).cell (p := ⟨b2, o + i * 4, none⟩) hbl3).trans r0
          have C1 : ∀ V, Since wk V → V.cell? ⟨b2, o + i * 4 + 1, none⟩ = some (.int .i64 yx) := fun V hV => ((HB2.out.trans (Below.mono hV HB2.out.size)).cell (p := ⟨b2, o + i * 4 + 1, none⟩) hbl3).trans r1
          have C2 : ∀ V, Since wk V → V.cell? ⟨b2, o + i * 4 + 2, none⟩ = some (.int .i64 yu) := fun V hV => ((HB2.out.trans (Below.mono hV HB2.out.size)).cell (p := ⟨b2, o + i * 4 + 2, none⟩) hbl3).trans r2
          have C3 : ∀ V, Since wk V → V.cell? ⟨b2, o + i * 4 + 3, none⟩ = some (.int .i64 yd) := fun V hV => ((HB2.out.trans (Below.mono hV HB2.out.size)).cell (p := ⟨b2, o + i * 4 + 3, none⟩) hbl3).trans r3
          have ew : IntKind.i64.wrap (((i + 1 : Nat) : Int) - 1) = (i : Int) := by rw [IntKind.wrap_i64]; omega
          have hz1 : decide (((i + 1 : Nat) : Int) > 0) = true := decide_eq_true (by omega)
          have hz2 : decide ((0 : Int) < ((i + 1 : Nat) : Int)) = true := decide_eq_true (by omega)
          have hz3 : decide (0 < i + 1) = true := decide_eq_true (by omega)
          have hi5 : i < m := by omega
          have hi6 : (i : Int) < (m : Int) := by omega
          clear r0 r1 r2 r3 hget3 hbl3 hj0
          obtain ⟨z, hzz⟩ : ∃ z : Nat, z = i + 1 := ⟨_, rfl⟩
          rw [← hzz] at ew hz1 hz2 hz3 hd4 hd5 hi1 hi2 hlt hj HLT HFX HNOP HAL ⊢
          have HZ := Lib.hid hzz
          clear hzz HFX HFN HNX HF0 HNM
          obtain ⟨sv, hsv⟩ : ∃ sv, stepP n t.P z = sv := ⟨_, rfl⟩
          rw [hsv] at HLT
          have HSV := Lib.hid hsv
          clear hsv
          cases sv
          · have hg1 : decide (q ≥ 0) = true := HLT.out
            have hg2 : decide (0 ≤ q) = true := HLT.out
            have HNO := Lib.hid (HNOP.out HSV.out)
            refine wp_region_since (by kernel_rfl) ?_
            have hS : Since wk (World.drew wk) := (Below.refl _ _).drew
            refine wpAnyH_take (i := 0) (oi := ⟨some 19, _, _, _, _, _⟩) (v := ?_) rfl (by kernel_rfl) (by kernel_rfl) (by kernel_rfl) (fun _ _ _ h => h) (Or.inl ⟨by rfl, ?_⟩) hS ?_
            rotate_left
            · intro W hW; go_simp; with_reducible rfl
            try simp only [Act.put, List.setIfInBounds_toArray, List.set_cons_zero, List.set_cons_succ]
            refine wpAnyH_take (i := 1) (oi := ⟨some 20, _, _, _, _, _⟩) (v := ?_) rfl (by kernel_rfl) (by kernel_rfl) (by kernel_rfl) (fun _ _ _ h => h) (Or.inl ⟨by rfl, ?_⟩) hS ?_
            rotate_left
            · intro W hW; go_simp; with_reducible rfl
            try simp only [Act.put, List.setIfInBounds_toArray, List.set_cons_zero, List.set_cons_succ]
            refine wpAnyH_take (i := 2) (oi := ⟨some 21, _, _, _, _, _⟩) (v := ?_) rfl (by kernel_rfl) (by kernel_rfl) (by kernel_rfl) (fun _ _ _ h => h) (Or.inl ⟨by rfl, ?_⟩) hS ?_
            rotate_left
            · intro W hW; go_simp; with_reducible rfl
            try simp only [Act.put, List.setIfInBounds_toArray, List.set_cons_zero, List.set_cons_succ]
            refine wpAnyH_take (i := 3) (oi := ⟨some 22, _, _, _, _, _⟩) (v := ?_) rfl (by kernel_rfl) (by kernel_rfl) (by kernel_rfl) (fun _ _ _ h => h) (Or.inl ⟨by rfl, ?_⟩) hS ?_
            rotate_left
            · intro W hW; go_simp; with_reducible rfl
            try simp only [Act.put, List.setIfInBounds_toArray, List.set_cons_zero, List.set_cons_succ]
            refine wpAnyH_ready (rs := [4]) (by kernel_rfl) (by simp) ?_
            refine AllReadyH.cons (o := ⟨some 23, _, _, _, _, _⟩) rfl (fun Kr hKr => ?_) AllReadyH.nil
            -- operation 4: a call
            go_simp
            refine (HMY.out _).mono ?_
            rintro e V0 ⟨rfl, hv⟩
            show Kr _ _
            refine hKr.out _ _ ?_ (fun _ => ?_)
            · exact since_trans hS hv
            clear hKr Kr
            replace hS : Since wk V0 := since_trans hS hv
            try simp only [Act.put, List.setIfInBounds_toArray, List.set_cons_zero, List.set_cons_succ]
            refine wpAnyH_take (i := 5) (oi := ⟨some 24, _, _, _, _, _⟩) (v := ?_) rfl (by kernel_rfl) (by kernel_rfl) (by kernel_rfl) (fun _ _ _ h => h) (Or.inl ⟨by rfl, ?_⟩) hS ?_
            rotate_left
            · intro W hW; go_simp; with_reducible rfl
            try simp only [Act.put, List.setIfInBounds_toArray, List.set_cons_zero, List.set_cons_succ]
            refine wpAnyH_take (i := 6) (oi := ⟨some 25, _, _, _, _, _⟩) (v := ?_) rfl (by kernel_rfl) (by kernel_rfl) (by kernel_rfl) (fun _ _ _ h => h) (Or.inl ⟨by rfl, ?_⟩) hS ?_
            rotate_left
            · intro W hW; go_simp; with_reducible rfl
            try simp only [Act.put, List.setIfInBounds_toArray, List.set_cons_zero, List.set_cons_succ]
            refine wpAnyH_take (i := 7) (oi := ⟨some 26, _, _, _, _, _⟩) (v := ?_) rfl (by kernel_rfl) (by kernel_rfl) (by kernel_rfl) (fun _ _ _ h => h) (Or.inl ⟨by rfl, ?_⟩) hS ?_
            rotate_left
            · intro W hW; go_simp; with_reducible rfl
            try simp only [Act.put, List.setIfInBounds_toArray, List.set_cons_zero, List.set_cons_succ]
            refine wpAnyH_take (i := 8) (oi := ⟨some 27, _, _, _, _, _⟩) (v := ?_) rfl (by kernel_rfl) (by kernel_rfl) (by kernel_rfl) (fun _ _ _ h => h) (Or.inl ⟨by rfl, ?_⟩) hS ?_
            rotate_left
            · intro W hW; go_simp; with_reducible rfl
            try simp only [Act.put, List.setIfInBounds_toArray, List.set_cons_zero, List.set_cons_succ]
            refine wpAnyH_take (i := 9) (oi := ⟨some 28, _, _, _, _, _⟩) (v := ?_) rfl (by kernel_rfl) (by kernel_rfl) (by kernel_rfl) (fun _ _ _ h => h) (Or.inl ⟨by rfl, ?_⟩) hS ?_
            rotate_left
            · intro W hW; go_simp; with_reducible rfl
            try simp only [Act.put, List.setIfInBounds_toArray, List.set_cons_zero, List.set_cons_succ]
            refine wpAnyH_take (i := 10) (oi := ⟨some 29, _, _, _, _, _⟩) (v := ?_) rfl (by kernel_rfl) (by kernel_rfl) (by kernel_rfl) (fun _ _ _ h => h) (Or.inl ⟨by rfl, ?_⟩) hS ?_
            rotate_left
            · intro W hW; go_simp; with_reducible rfl
            try simp only [Act.put, List.setIfInBounds_toArray, List.set_cons_zero, List.set_cons_succ]
            refine wpAnyH_take (i := 11) (oi := ⟨some 30, _, _, _, _, _⟩) (v := ?_) rfl (by kernel_rfl) (by kernel_rfl) (by kernel_rfl) (fun _ _ _ h => h) (Or.inl ⟨by rfl, ?_⟩) hS ?_
            rotate_left
            · intro W hW; go_simp; with_reducible rfl
            try simp only [Act.put, List.setIfInBounds_toArray, List.set_cons_zero, List.set_cons_succ]
            refine wpAnyH_take (i := 12) (oi := ⟨some 31, _, _, _, _, _⟩) (v := ?_) rfl (by kernel_rfl) (by kernel_rfl) (by kernel_rfl) (fun _ _ _ h => h) (Or.inl ⟨by rfl, ?_⟩) hS ?_
            rotate_left
            · intro W hW; go_simp; with_reducible rfl
            try simp only [Act.put, List.setIfInBounds_toArray, List.set_cons_zero, List.set_cons_succ]
            refine wpAnyH_take (i := 13) (oi := ⟨some 32, _, _, _, _, _⟩) (v := ?_) rfl (by kernel_rfl) (by kernel_rfl) (by kernel_rfl) (fun _ _ _ h => h) (Or.inl ⟨by rfl, ?_⟩) hS ?_
            rotate_left
            · intro W hW; go_simp; with_reducible rfl
            try simp only [Act.put, List.setIfInBounds_toArray, List.set_cons_zero, List.set_cons_succ]
            refine wpAnyH_take (i := 14) (oi := ⟨some 33, _, _, _, _, _⟩) (v := ?_) rfl (by kernel_rfl) (by kernel_rfl) (by kernel_rfl) (fun _ _ _ h => h) (Or.inl ⟨by rfl, ?_⟩) hS ?_
            rotate_left
            · intro W hW; go_simp; with_reducible rfl
            try simp only [Act.put, List.setIfInBounds_toArray, List.set_cons_zero, List.set_cons_succ]
            refine wpAnyH_take (i := 15) (oi := ⟨some 34, _, _, _, _, _⟩) (v := ?_) rfl (by kernel_rfl) (by kernel_rfl) (by kernel_rfl) (fun _ _ _ h => h) (Or.inl ⟨by rfl, ?_⟩) hS ?_
            rotate_left
            · intro W hW; go_simp; with_reducible rfl
            try simp only [Act.put, List.setIfInBounds_toArray, List.set_cons_zero, List.set_cons_succ]
            refine wpAnyH_take (i := 16) (oi := ⟨some 35, _, _, _, _, _⟩) (v := ?_) rfl (by kernel_rfl) (by kernel_rfl) (by kernel_rfl) (fun _ _ _ h => h) (Or.inl ⟨by rfl, ?_⟩) hS ?_
            rotate_left
            · intro W hW; go_simp; with_reducible rfl
            try simp only [Act.put, List.setIfInBounds_toArray, List.set_cons_zero, List.set_cons_succ]
            refine wpAnyH_ready (rs := [17]) (by kernel_rfl) (by simp) ?_
            refine AllReadyH.cons (o := ⟨some 36, _, _, _, _, _⟩) rfl (fun Kr hKr => ?_) AllReadyH.nil
            -- operation 17: a call
            go_simp
            refine (HCC.out _).mono ?_
            rintro e V1 ⟨rfl, hv1⟩
            show Kr _ _
            refine hKr.out _ _ ?_ (fun _ => ?_)
            · exact since_trans hS hv1
            clear hKr Kr
            replace hS : Since wk V1 := since_trans hS hv1
            try simp only [Act.put, List.setIfInBounds_toArray, List.set_cons_zero, List.set_cons_succ]
            refine wpAnyH_take (i := 18) (oi := ⟨some 37, _, _, _, _, _⟩) (v := ?_) rfl (by kernel_rfl) (by kernel_rfl) (by kernel_rfl) (fun _ _ _ h => h) (Or.inl ⟨by rfl, ?_⟩) hS ?_
            rotate_left
            · intro W hW; go_simp; with_reducible rfl
            try simp only [Act.put, List.setIfInBounds_toArray, List.set_cons_zero, List.set_cons_succ]
            refine wpAnyH_take (i := 19) (oi := ⟨some 38, _, _, _, _, _⟩) (v := ?_) rfl (by kernel_rfl) (by kernel_rfl) (by kernel_rfl) (fun _ _ _ h => h) (Or.inl ⟨by rfl, ?_⟩) hS ?_
            rotate_left
            · intro W hW; go_simp; with_reducible rfl
            try simp only [Act.put, List.setIfInBounds_toArray, List.set_cons_zero, List.set_cons_succ]
            refine wpAnyH_take (i := 20) (oi := ⟨some 39, _, _, _, _, _⟩) (v := ?_) rfl (by kernel_rfl) (by kernel_rfl) (by kernel_rfl) (fun _ _ _ h => h) (Or.inl ⟨by rfl, ?_⟩) hS ?_
            rotate_left
            · intro W hW; go_simp; with_reducible rfl
            try simp only [Act.put, List.setIfInBounds_toArray, List.set_cons_zero, List.set_cons_succ]
            refine wpAnyH_done (by kernel_rfl) ?_ _
            go_wp2_with fail
            go_ret
            exact ⟨by rw [HNO.out]; rfl, HB2.out.trans (Below.mono hS HB2.out.size)⟩
          · have hg1 : decide (q ≥ 0) = false := HLT.out
            have hg2 : decide (0 ≤ q) = false := HLT.out
            refine wp_region_since (by kernel_rfl) ?_
            have hS : Since wk (World.drew wk) := (Below.refl _ _).drew
            refine wpAnyH_take (i := 0) (oi := ⟨some 19, _, _, _, _, _⟩) (v := ?_) rfl (by kernel_rfl) (by kernel_rfl) (by kernel_rfl) (fun _ _ _ h => h) (Or.inl ⟨by rfl, ?_⟩) hS ?_
            rotate_left
            · intro W hW; go_simp; with_reducible rfl
            try simp only [Act.put, List.setIfInBounds_toArray, List.set_cons_zero, List.set_cons_succ]
            refine wpAnyH_take (i := 1) (oi := ⟨some 20, _, _, _, _, _⟩) (v := ?_) rfl (by kernel_rfl) (by kernel_rfl) (by kernel_rfl) (fun _ _ _ h => h) (Or.inl ⟨by rfl, ?_⟩) hS ?_
            rotate_left
            · intro W hW; go_simp; with_reducible rfl
            try simp only [Act.put, List.setIfInBounds_toArray, List.set_cons_zero, List.set_cons_succ]
            refine wpAnyH_take (i := 2) (oi := ⟨some 21, _, _, _, _, _⟩) (v := ?_) rfl (by kernel_rfl) (by kernel_rfl) (by kernel_rfl) (fun _ _ _ h => h) (Or.inl ⟨by rfl, ?_⟩) hS ?_
            rotate_left
            · intro W hW; go_simp; with_reducible rfl
            try simp only [Act.put, List.setIfInBounds_toArray, List.set_cons_zero, List.set_cons_succ]
            refine wpAnyH_take (i := 3) (oi := ⟨some 22, _, _, _, _, _⟩) (v := ?_) rfl (by kernel_rfl) (by kernel_rfl) (by kernel_rfl) (fun _ _ _ h => h) (Or.inl ⟨by rfl, ?_⟩) hS ?_
            rotate_left
            · intro W hW; go_simp; with_reducible rfl
            try simp only [Act.put, List.setIfInBounds_toArray, List.set_cons_zero, List.set_cons_succ]
            refine wpAnyH_ready (rs := [4]) (by kernel_rfl) (by simp) ?_
            refine AllReadyH.cons (o := ⟨some 23, _, _, _, _, _⟩) rfl (fun Kr hKr => ?_) AllReadyH.nil
            -- operation 4: a call
            go_simp
            refine (HMY.out _).mono ?_
            rintro e V0 ⟨rfl, hv⟩
            show Kr _ _
            refine hKr.out _ _ ?_ (fun _ => ?_)
            · exact since_trans hS hv
            clear hKr Kr
            replace hS : Since wk V0 := since_trans hS hv
            try simp only [Act.put, List.setIfInBounds_toArray, List.set_cons_zero, List.set_cons_succ]
            refine wpAnyH_take (i := 5) (oi := ⟨some 24, _, _, _, _, _⟩) (v := ?_) rfl (by kernel_rfl) (by kernel_rfl) (by kernel_rfl) (fun _ _ _ h => h) (Or.inl ⟨by rfl, ?_⟩) hS ?_
            rotate_left
            · intro W hW; go_simp; with_reducible rfl
            try simp only [Act.put, List.setIfInBounds_toArray, List.set_cons_zero, List.set_cons_succ]
            refine wpAnyH_take (i := 6) (oi := ⟨some 25, _, _, _, _, _⟩) (v := ?_) rfl (by kernel_rfl) (by kernel_rfl) (by kernel_rfl) (fun _ _ _ h => h) (Or.inl ⟨by rfl, ?_⟩) hS ?_
            rotate_left
            · intro W hW; go_simp; with_reducible rfl
            try simp only [Act.put, List.setIfInBounds_toArray, List.set_cons_zero, List.set_cons_succ]
            refine wpAnyH_take (i := 7) (oi := ⟨some 26, _, _, _, _, _⟩) (v := ?_) rfl (by kernel_rfl) (by kernel_rfl) (by kernel_rfl) (fun _ _ _ h => h) (Or.inl ⟨by rfl, ?_⟩) hS ?_
            rotate_left
            · intro W hW; go_simp; with_reducible rfl
            try simp only [Act.put, List.setIfInBounds_toArray, List.set_cons_zero, List.set_cons_succ]
            refine wpAnyH_take (i := 8) (oi := ⟨some 27, _, _, _, _, _⟩) (v := ?_) rfl (by kernel_rfl) (by kernel_rfl) (by kernel_rfl) (fun _ _ _ h => h) (Or.inl ⟨by rfl, ?_⟩) hS ?_
            rotate_left
            · intro W hW; go_simp; with_reducible rfl
            try simp only [Act.put, List.setIfInBounds_toArray, List.set_cons_zero, List.set_cons_succ]
            refine wpAnyH_take (i := 9) (oi := ⟨some 28, _, _, _, _, _⟩) (v := ?_) rfl (by kernel_rfl) (by kernel_rfl) (by kernel_rfl) (fun _ _ _ h => h) (Or.inl ⟨by rfl, ?_⟩) hS ?_
            rotate_left
            · intro W hW; go_simp; with_reducible rfl
            try simp only [Act.put, List.setIfInBounds_toArray, List.set_cons_zero, List.set_cons_succ]
            refine wpAnyH_take (i := 10) (oi := ⟨some 29, _, _, _, _, _⟩) (v := ?_) rfl (by kernel_rfl) (by kernel_rfl) (by kernel_rfl) (fun _ _ _ h => h) (Or.inl ⟨by rfl, ?_⟩) hS ?_
            rotate_left
            · intro W hW; go_simp; with_reducible rfl
            try simp only [Act.put, List.setIfInBounds_toArray, List.set_cons_zero, List.set_cons_succ]
            refine wpAnyH_take (i := 11) (oi := ⟨some 30, _, _, _, _, _⟩) (v := ?_) rfl (by kernel_rfl) (by kernel_rfl) (by kernel_rfl) (fun _ _ _ h => h) (Or.inl ⟨by rfl, ?_⟩) hS ?_
            rotate_left
            · intro W hW; go_simp; with_reducible rfl
            try simp only [Act.put, List.setIfInBounds_toArray, List.set_cons_zero, List.set_cons_succ]
            refine wpAnyH_take (i := 12) (oi := ⟨some 31, _, _, _, _, _⟩) (v := ?_) rfl (by kernel_rfl) (by kernel_rfl) (by kernel_rfl) (fun _ _ _ h => h) (Or.inl ⟨by rfl, ?_⟩) hS ?_
            rotate_left
            · intro W hW; go_simp; with_reducible rfl
            try simp only [Act.put, List.setIfInBounds_toArray, List.set_cons_zero, List.set_cons_succ]
            refine wpAnyH_take (i := 13) (oi := ⟨some 32, _, _, _, _, _⟩) (v := ?_) rfl (by kernel_rfl) (by kernel_rfl) (by kernel_rfl) (fun _ _ _ h => h) (Or.inl ⟨by rfl, ?_⟩) hS ?_
            rotate_left
            · intro W hW; go_simp; with_reducible rfl
            try simp only [Act.put, List.setIfInBounds_toArray, List.set_cons_zero, List.set_cons_succ]
            refine wpAnyH_take (i := 14) (oi := ⟨some 33, _, _, _, _, _⟩) (v := ?_) rfl (by kernel_rfl) (by kernel_rfl) (by kernel_rfl) (fun _ _ _ h => h) (Or.inl ⟨by rfl, ?_⟩) hS ?_
            rotate_left
            · intro W hW; go_simp; with_reducible rfl
            try simp only [Act.put, List.setIfInBounds_toArray, List.set_cons_zero, List.set_cons_succ]
            refine wpAnyH_take (i := 15) (oi := ⟨some 34, _, _, _, _, _⟩) (v := ?_) rfl (by kernel_rfl) (by kernel_rfl) (by kernel_rfl) (fun _ _ _ h => h) (Or.inl ⟨by rfl, ?_⟩) hS ?_
            rotate_left
            · intro W hW; go_simp; with_reducible rfl
            try simp only [Act.put, List.setIfInBounds_toArray, List.set_cons_zero, List.set_cons_succ]
            refine wpAnyH_take (i := 16) (oi := ⟨some 35, _, _, _, _, _⟩) (v := ?_) rfl (by kernel_rfl) (by kernel_rfl) (by kernel_rfl) (fun _ _ _ h => h) (Or.inl ⟨by rfl, ?_⟩) hS ?_
            rotate_left
            · intro W hW; go_simp; with_reducible rfl
            try simp only [Act.put, List.setIfInBounds_toArray, List.set_cons_zero, List.set_cons_succ]
            refine wpAnyH_ready (rs := [17]) (by kernel_rfl) (by simp) ?_
            refine AllReadyH.cons (o := ⟨some 36, _, _, _, _, _⟩) rfl (fun Kr hKr => ?_) AllReadyH.nil
            -- operation 17: a call
            go_simp
            refine (HCC.out _).mono ?_
            rintro e V1 ⟨rfl, hv1⟩
            show Kr _ _
            refine hKr.out _ _ ?_ (fun _ => ?_)
            · exact since_trans hS hv1
            clear hKr Kr
            replace hS : Since wk V1 := since_trans hS hv1
            try simp only [Act.put, List.setIfInBounds_toArray, List.set_cons_zero, List.set_cons_succ]
            refine wpAnyH_take (i := 18) (oi := ⟨some 37, _, _, _, _, _⟩) (v := ?_) rfl (by kernel_rfl) (by kernel_rfl) (by kernel_rfl) (fun _ _ _ h => h) (Or.inl ⟨by rfl, ?_⟩) hS ?_
            rotate_left
            · intro W hW; go_simp; with_reducible rfl
            try simp only [Act.put, List.setIfInBounds_toArray, List.set_cons_zero, List.set_cons_succ]
            refine wpAnyH_take (i := 19) (oi := ⟨some 38, _, _, _, _, _⟩) (v := ?_) rfl (by kernel_rfl) (by kernel_rfl) (by kernel_rfl) (fun _ _ _ h => h) (Or.inl ⟨by rfl, ?_⟩) hS ?_
            rotate_left
            · intro W hW; go_simp; with_reducible rfl
            try simp only [Act.put, List.setIfInBounds_toArray, List.set_cons_zero, List.set_cons_succ]
            refine wpAnyH_take (i := 20) (oi := ⟨some 39, _, _, _, _, _⟩) (v := ?_) rfl (by kernel_rfl) (by kernel_rfl) (by kernel_rfl) (fun _ _ _ h => h) (Or.inl ⟨by rfl, ?_⟩) hS ?_
            rotate_left
            · intro W hW; go_simp; with_reducible rfl
            try simp only [Act.put, List.setIfInBounds_toArray, List.set_cons_zero, List.set_cons_succ]
            refine wpAnyH_done (by kernel_rfl) ?_ _
            go_wp2_with fail
            exact ⟨⟨z + 1, rfl, hlt, Lib.hid (all_succ HAL.out HSV.out), Lib.hid (HX2.out.below hS), Lib.hid (HB2.out.trans (Below.mono hS HB2.out.size))⟩, by have := HZ.out; simp [intOf]; omega⟩
    · obtain rfl : j = m := by omega
      have HALL : Hid ((∀ p ∈ t.P, p.may n = true) ∧ Rise t.P) := Lib.hid (chain_rise (n := n) (P := t.P) (by rw [HT.out.pl]; exact HAL.out))
      have hd4 : decide ((j : Int) < (j : Int)) = false := decide_eq_false (by omega)
      have hd5 : decide (j < j) = false := decide_eq_false (by omega)
      have x0 := HXj.out.t0
      go_wp2_with fail
      clear x0
      go_loopw [44] (fun u wr2 => ∃ i : Nat, u = .int .i64 (i : Int) ∧ i ≤ n ∧ Hid ((List.range i).all (fun k => t.fits k 0) = true) ∧ Hid (Bk wr2 w.heap.size (tbC A n a B j b) 34) ∧ Hid (Below w.heap.size w wr2)) (fun u _ => n - (intOf u).toNat)
      case atStart => exact ⟨0, rfl, Nat.zero_le _, Lib.hid rfl, HXj, HBj⟩
      case round =>
        clear HXj HBj
        obtain ⟨i, rfl, hi, HFT, HXj, HBj⟩ := hrel
        rcases Nat.lt_or_ge i n with hlt | hge2
        · obtain ⟨b2, o, hA, hbl, hget, q0, q1, q2⟩ := ct_cellso HT.out.atC HT.out.cl hlt
          subst hA
          have HOKC := Lib.hid (HT.out.okC _ (List.mem_of_getElem? hget))
          have HNOC := Lib.hid (fun h => Tb.sane_noC HT.out.cl hlt h)
          have HFE := Lib.hid (show t.fits i 0 = staysC (t.C.getD i ctD) (amt (onL t.P (i : Int))) by
            rw [fits_stays, amt_on, stays_zero]
            have := sumsOf_len t.P (i : Int)
            rw [HT.out.pl] at this
            omega)
          have HAO := Lib.hid (show (∀ x ∈ amt (onL t.P (i : Int)), okI x) ∧ (onL t.P (i : Int)).length ≤ 1000 from ⟨by rw [amt_on]; exact sumsOf_ok HT.out.okP _, by
            have : (onL t.P (i : Int)).length ≤ t.P.length := List.length_filter_le ..
            rw [HT.out.pl] at this
            omega⟩)
          have HON := Lib.hid (fun V (hV : Below w.heap.size w V) => on_any (some ⟨b2, o, none⟩) B n a j b t.P (i : Int) ⟨by omega, by omega⟩ HALL.out.2 (fun p hp => ((may_iff _ _).1 (HALL.out.1 p hp)).x0) HT.out.pl (by omega) hmb HSP.out V (HT.out.atP.below hV))
          generalize t.C.getD i ctD = cc at *
          obtain ⟨lo, hi', v⟩ := cc
          obtain ⟨sv, hsv⟩ : ∃ sv, staysC ⟨lo, hi', v⟩ (amt (onL t.P (i : Int))) = sv := ⟨_, rfl⟩
          have HSB := Lib.hid hsv
          rw [hsv] at HFE
          have HV := Lib.hid HOKC.out.v
          clear hsv HOKC
          generalize onL t.P (i : Int) = ol at *
          have c0 := (HBj.out.cell (p := ⟨b2, o + i * 3, none⟩) hbl).trans q0
          have c1 := (HBj.out.cell (p := ⟨b2, o + i * 3 + 1, none⟩) hbl).trans q1
          have c2 := (HBj.out.cell (p := ⟨b2, o + i * 3 + 2, none⟩) hbl).trans q2
          simp only at c0 c1 c2
          have hd6 : decide ((i : Int) < (n : Int)) = true := decide_eq_true (by omega)
          have hd7 : decide (i < n) = true := decide_eq_true hlt
          have hi1 : (i : Int) < (n : Int) := by omega
          have hi2 : i < n := hlt
          have x0 := HXj.out.t0
          have x1 := HXj.out.t1
          clear q0 q1 q2 hbl hget
          go_upto_region 12 with fail
          have HX2 := Lib.hid (HXj.out.al (.cells #[.int .i64 lo, .int .i64 hi', .int .i64 v] 67))
          have HB2 := Lib.hid (HBj.out.trans ((below_new wr (.cells #[.int .i64 lo, .int .i64 hi', .int .i64 v] 67)).mono HBj.out.size))
          have HK := Lib.hid (Bk.new wr #[.int .i64 lo, .int .i64 hi', .int .i64 v] 67)
          clear HXj HBj x0 x1 c0 c1 c2
          generalize wr.heap.size = g at *
          generalize wr.alloc (.cells #[.int .i64 lo, .int .i64 hi', .int .i64 v] 67) = wk at *
          have x0 : ∀ V, Since wk V → V.cell? ⟨w.heap.size, 0, none⟩ = some (.slice (some ⟨b2, o, none⟩) n a) := fun V hV => (HX2.out.below hV).t0
          have x1 : ∀ V, Since wk V → V.cell? ⟨w.heap.size, 1, none⟩ = some (.slice B j b) := fun V hV => (HX2.out.below hV).t1
          have p0 : ∀ V, Since wk V → V.cell? ⟨g, 0, none⟩ = some (.int .i64 lo) := fun V hV => (HK.out.below hV).c 0 _ rfl
          have p1 : ∀ V, Since wk V → V.cell? ⟨g, 1, none⟩ = some (.int .i64 hi') := fun V hV => (HK.out.below hV).c 1 _ rfl
          have p2 : ∀ V, Since wk V → V.cell? ⟨g, 2, none⟩ = some (.int .i64 v) := fun V hV => (HK.out.below hV).c 2 _ rfl
          cases sv
          · have HNO := Lib.hid (HNOC.out HFE.out)
            refine wp_region_since (by kernel_rfl) ?_
            have hS : Since wk (World.drew wk) := (Below.refl _ _).drew
            refine wpAnyH_take (i := 0) (oi := ⟨some 49, _, _, _, _, _⟩) (v := ?_) rfl (by kernel_rfl) (by kernel_rfl) (by kernel_rfl) (fun _ _ _ h => h) (Or.inl ⟨by rfl, ?_⟩) hS ?_
            rotate_left
            · intro W hW; go_simp; with_reducible rfl
            try simp only [Act.put, List.setIfInBounds_toArray, List.set_cons_zero, List.set_cons_succ]
            refine wpAnyH_take (i := 1) (oi := ⟨some 50, _, _, _, _, _⟩) (v := ?_) rfl (by kernel_rfl) (by kernel_rfl) (by kernel_rfl) (fun _ _ _ h => h) (Or.inl ⟨by rfl, ?_⟩) hS ?_
            rotate_left
            · intro W hW; go_simp; with_reducible rfl
            try simp only [Act.put, List.setIfInBounds_toArray, List.set_cons_zero, List.set_cons_succ]
            refine wpAnyH_take (i := 2) (oi := ⟨some 51, _, _, _, _, _⟩) (v := ?_) rfl (by kernel_rfl) (by kernel_rfl) (by kernel_rfl) (fun _ _ _ h => h) (Or.inl ⟨by rfl, ?_⟩) hS ?_
            rotate_left
            · intro W hW; go_simp; with_reducible rfl
            try simp only [Act.put, List.setIfInBounds_toArray, List.set_cons_zero, List.set_cons_succ]
            refine wpAnyH_ready (rs := [3]) (by kernel_rfl) (by simp) ?_
            refine AllReadyH.cons (o := ⟨some 52, _, _, _, _, _⟩) rfl (fun Kr hKr => ?_) AllReadyH.nil
            -- operation 3: a call
            go_simp
            refine (HON.out _ (HB2.out.trans (Below.mono hS HB2.out.size))).mono ?_
            rintro e V0 ⟨A1, n1, c1, rfl, hat1, hln1, hv⟩
            have HA1 := Lib.hid hat1
            have HL1 := Lib.hid hln1
            clear hat1 hln1
            show Kr _ _
            refine hKr.out _ _ ?_ (fun _ => ?_)
            · exact since_trans hS hv
            clear hKr Kr
            replace hS : Since wk V0 := since_trans hS hv
            try simp only [Act.put, List.setIfInBounds_toArray, List.set_cons_zero, List.set_cons_succ]
            refine wpAnyH_ready (rs := [4]) (by kernel_rfl) (by simp) ?_
            refine AllReadyH.cons (o := ⟨some 53, _, _, _, _, _⟩) rfl (fun Kr hKr => ?_) AllReadyH.nil
            -- operation 4: a call
            go_simp
            refine (amounts_any A1 n1 c1 _ HL1.out (by have h1 := HL1.out; have h2 := HAO.out.2; omega) _ HA1.out).mono ?_
            rintro e V1 ⟨v1, rfl, ho1, hv1⟩
            obtain ⟨A2, n2, c2, e2, en2, hl2⟩ := own_ls ho1 HAO.out.1
            subst e2
            have HL2 := Lib.hid hl2
            clear hl2 en2 ho1
            show Kr _ _
            refine hKr.out _ _ ?_ (fun _ => ?_)
            · exact since_trans hS hv1
            clear hKr Kr
            replace hS : Since wk V1 := since_trans hS hv1
            try simp only [Act.put, List.setIfInBounds_toArray, List.set_cons_zero, List.set_cons_succ]
            refine wpAnyH_ready (rs := [5]) (by kernel_rfl) (by simp) ?_
            refine AllReadyH.cons (o := ⟨some 54, _, _, _, _, _⟩) rfl (fun Kr hKr => ?_) AllReadyH.nil
            -- operation 5: a call
            go_simp
            refine (staysC_any lo hi' v HV.out A2 n2 c2 _ _ HL2.out).mono ?_
            rintro e V2 ⟨he, hv2⟩
            rw [HSB.out] at he
            subst he
            show Kr _ _
            refine hKr.out _ _ ?_ (fun _ => ?_)
            · exact since_trans hS hv2
            clear hKr Kr
            replace hS : Since wk V2 := since_trans hS hv2
            try simp only [Act.put, List.setIfInBounds_toArray, List.set_cons_zero, List.set_cons_succ]
            refine wpAnyH_take (i := 6) (oi := ⟨some 55, _, _, _, _, _⟩) (v := ?_) rfl (by kernel_rfl) (by kernel_rfl) (by kernel_rfl) (fun _ _ _ h => h) (Or.inl ⟨by rfl, ?_⟩) hS ?_
            rotate_left
            · intro W hW; go_simp; with_reducible rfl
            try simp only [Act.put, List.setIfInBounds_toArray, List.set_cons_zero, List.set_cons_succ]
            refine wpAnyH_done (by kernel_rfl) ?_ _
            go_wp2_with fail
            go_ret
            exact ⟨by rw [HNO.out]; rfl, HB2.out.trans (Below.mono hS HB2.out.size)⟩
          · skip
            refine wp_region_since (by kernel_rfl) ?_
            have hS : Since wk (World.drew wk) := (Below.refl _ _).drew
            refine wpAnyH_take (i := 0) (oi := ⟨some 49, _, _, _, _, _⟩) (v := ?_) rfl (by kernel_rfl) (by kernel_rfl) (by kernel_rfl) (fun _ _ _ h => h) (Or.inl ⟨by rfl, ?_⟩) hS ?_
            rotate_left
            · intro W hW; go_simp; with_reducible rfl
            try simp only [Act.put, List.setIfInBounds_toArray, List.set_cons_zero, List.set_cons_succ]
            refine wpAnyH_take (i := 1) (oi := ⟨some 50, _, _, _, _, _⟩) (v := ?_) rfl (by kernel_rfl) (by kernel_rfl) (by kernel_rfl) (fun _ _ _ h => h) (Or.inl ⟨by rfl, ?_⟩) hS ?_
            rotate_left
            · intro W hW; go_simp; with_reducible rfl
            try simp only [Act.put, List.setIfInBounds_toArray, List.set_cons_zero, List.set_cons_succ]
            refine wpAnyH_take (i := 2) (oi := ⟨some 51, _, _, _, _, _⟩) (v := ?_) rfl (by kernel_rfl) (by kernel_rfl) (by kernel_rfl) (fun _ _ _ h => h) (Or.inl ⟨by rfl, ?_⟩) hS ?_
            rotate_left
            · intro W hW; go_simp; with_reducible rfl
            try simp only [Act.put, List.setIfInBounds_toArray, List.set_cons_zero, List.set_cons_succ]
            refine wpAnyH_ready (rs := [3]) (by kernel_rfl) (by simp) ?_
            refine AllReadyH.cons (o := ⟨some 52, _, _, _, _, _⟩) rfl (fun Kr hKr => ?_) AllReadyH.nil
            -- operation 3: a call
            go_simp
            refine (HON.out _ (HB2.out.trans (Below.mono hS HB2.out.size))).mono ?_
            rintro e V0 ⟨A1, n1, c1, rfl, hat1, hln1, hv⟩
            have HA1 := Lib.hid hat1
            have HL1 := Lib.hid hln1
            clear hat1 hln1
            show Kr _ _
            refine hKr.out _ _ ?_ (fun _ => ?_)
            · exact since_trans hS hv
            clear hKr Kr
            replace hS : Since wk V0 := since_trans hS hv
            try simp only [Act.put, List.setIfInBounds_toArray, List.set_cons_zero, List.set_cons_succ]
            refine wpAnyH_ready (rs := [4]) (by kernel_rfl) (by simp) ?_
            refine AllReadyH.cons (o := ⟨some 53, _, _, _, _, _⟩) rfl (fun Kr hKr => ?_) AllReadyH.nil
            -- operation 4: a call
            go_simp
            refine (amounts_any A1 n1 c1 _ HL1.out (by have h1 := HL1.out; have h2 := HAO.out.2; omega) _ HA1.out).mono ?_
            rintro e V1 ⟨v1, rfl, ho1, hv1⟩
            obtain ⟨A2, n2, c2, e2, en2, hl2⟩ := own_ls ho1 HAO.out.1
            subst e2
            have HL2 := Lib.hid hl2
            clear hl2 en2 ho1
            show Kr _ _
            refine hKr.out _ _ ?_ (fun _ => ?_)
            · exact since_trans hS hv1
            clear hKr Kr
            replace hS : Since wk V1 := since_trans hS hv1
            try simp only [Act.put, List.setIfInBounds_toArray, List.set_cons_zero, List.set_cons_succ]
            refine wpAnyH_ready (rs := [5]) (by kernel_rfl) (by simp) ?_
            refine AllReadyH.cons (o := ⟨some 54, _, _, _, _, _⟩) rfl (fun Kr hKr => ?_) AllReadyH.nil
            -- operation 5: a call
            go_simp
            refine (staysC_any lo hi' v HV.out A2 n2 c2 _ _ HL2.out).mono ?_
            rintro e V2 ⟨he, hv2⟩
            rw [HSB.out] at he
            subst he
            show Kr _ _
            refine hKr.out _ _ ?_ (fun _ => ?_)
            · exact since_trans hS hv2
            clear hKr Kr
            replace hS : Since wk V2 := since_trans hS hv2
            try simp only [Act.put, List.setIfInBounds_toArray, List.set_cons_zero, List.set_cons_succ]
            refine wpAnyH_take (i := 6) (oi := ⟨some 55, _, _, _, _, _⟩) (v := ?_) rfl (by kernel_rfl) (by kernel_rfl) (by kernel_rfl) (fun _ _ _ h => h) (Or.inl ⟨by rfl, ?_⟩) hS ?_
            rotate_left
            · intro W hW; go_simp; with_reducible rfl
            try simp only [Act.put, List.setIfInBounds_toArray, List.set_cons_zero, List.set_cons_succ]
            refine wpAnyH_done (by kernel_rfl) ?_ _
            go_wp2_with fail
            exact ⟨⟨i + 1, rfl, hlt, Lib.hid (all_succ HFT.out HFE.out), Lib.hid (HX2.out.below hS), Lib.hid (HB2.out.trans (Below.mono hS HB2.out.size))⟩, by simp [intOf]; omega⟩
        · obtain rfl : i = n := by omega
          have HYS := Lib.hid (Tb.sane_yes HT.out.cl HT.out.pl hfew (by exact HAL.out) HFT.out)
          have hd6 : decide ((i : Int) < (i : Int)) = false := decide_eq_false (by omega)
          have hd7 : decide (i < i) = false := decide_eq_false (by omega)
          go_wp2_with fail
          go_ret
          exact ⟨by rw [HYS.out]; rfl, HBj.out⟩
end Go.Proofs.Ytogngghfdcpeaaa
