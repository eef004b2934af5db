/-
  The document's sums of a counter, and whether it fits.
-/
import Derived.Test.YtogngghfdcpeaaaEt
import Derived.Test.YtogngghfdcpeaaaRf
namespace Go.Proofs.Ytogngghfdcpeaaa
set_option maxRecDepth 100000
set_option linter.unusedVariables false
set_option linter.unusedSimpArgs false
open Go.RowKit

theorem two_at (w : World) (x y : Int) : RI.At (w.alloc (.cells #[.int .i64 x, .int .i64 y] 3)) (some ⟨w.heap.size, 0, none⟩) [x, y] :=
  .inr ⟨w.heap.size, 0, rfl, by simp, fun j u hu => by rw [Nat.zero_add, cell_new, ← hu, ri_cells]; simp⟩

set_option maxHeartbeats 1000000 in
theorem refsums_any (A B : Option Addr) (n a m b : Nat) (t : Tb) (k : Int) (hm : m ≤ 1000) (w : World) (ht : TbAt w A n B m t) :
    Calls Try.prog 52 #[tbV A n a B m b, .int .i64 k] w fun e w' => ∃ v, e = .returned v ∧ RI.Own w' (w.heap.size + 1) v (sumsOf t.P k) ∧ Below w.heap.size w w' ∧ w.heap.size + 1 ≤ w'.heap.size := by
  have HT := Lib.hid ht
  have HX := Lib.hid (Bk.new w (tbC A n a B m b) 25)
  have HB := Lib.hid (below_new w (.cells (tbC A n a B m b) 25))
  clear ht
  go_enter Try.func52, Try.ntmps52
  go_wp2_with fail
  go_loopw [5, 6] (fun v u wr => ∃ j : Nat, u = .int .i64 (j : Int) ∧ j ≤ m ∧ Hid (RI.Own wr (w.heap.size + 1) v (sumsOf (t.P.take j) k)) ∧ Hid (Bk wr w.heap.size (tbC A n a B m b) 25) ∧ Hid (Below w.heap.size w wr) ∧ Hid (w.heap.size + 1 ≤ wr.heap.size)) (fun _ u _ => m - (intOf u).toNat)
  case atStart => exact ⟨0, rfl, Nat.zero_le _, Rk.Own.nil _ _ _, HX, HB, by show w.heap.size + 1 ≤ _; simp⟩
  case round =>
    obtain ⟨j, rfl, hj, HOj, HXj, HBj, HSj⟩ := hrel
    rcases Nat.lt_or_ge j m with hlt | hge
    · obtain ⟨b2, o, hA, hbl, hok, hget, h0, h1, h2, h3⟩ := HT.out.p hlt
      subst hA
      have HSJ := Lib.hid (sumsOf_take (k := k) hget)
      have HLN : Hid ((sumsOf (t.P.take j) k).length ≤ 2000) := by have h := sumsOf_len (t.P.take j) k; rw [List.length_take] at h; show _ ≤ _; omega
      generalize t.P.getD j pdD = p at *
      obtain ⟨pc, px, u, d⟩ := p
      have HC0 := Lib.hid ((HBj.out.cell (p := ⟨b2, o + j * 4, none⟩) hbl).trans h0)
      have HC2 := Lib.hid ((HBj.out.cell (p := ⟨b2, o + j * 4 + 2, none⟩) hbl).trans h2)
      have HC3 := Lib.hid ((HBj.out.cell (p := ⟨b2, o + j * 4 + 3, none⟩) hbl).trans h3)
      have HBL := Lib.hid hbl
      simp only at HSJ
      have hd4 : decide ((j : Int) < (m : Int)) = true := decide_eq_true (by omega)
      have hd5 : decide (j < m) = true := decide_eq_true hlt
      have hi1 : (j : Int) < (m : Int) := by omega
      have x0 := HXj.out.t0
      have x1 := HXj.out.t1
      have c0 := HC0.out
      generalize sumsOf (t.P.take j) k = acc at *
      clear h0 h1 h2 h3 hbl hok hget
      rcases Classical.em (pc = k) with hk | hk
      · rw [if_pos hk] at HSJ
        have hq : (pc == k) = true := by simpa using hk
        go_upto_region 6 with fail
        have X0 : ∀ V, Turn (fun q => u5.ownBlock = some q) wr V → V.cell? ⟨w.heap.size, 1, none⟩ = some (.slice (some ⟨b2, o, none⟩) m b) := fun V hV => (HXj.out.turn hV (fun e => by have := (HOj.out.lt _ e).1; omega)).t1
        have C2 : ∀ V, Turn (fun q => u5.ownBlock = some q) wr V → V.cell? ⟨b2, o + j * 4 + 2, none⟩ = some (.int .i64 u) := fun V hV => hV.cell HC2.out (fun e => by have h := (HOj.out.lt _ e).1; have h2 := HBL.out; simp only at h; omega)
        have C3 : ∀ V, Turn (fun q => u5.ownBlock = some q) wr V → V.cell? ⟨b2, o + j * 4 + 3, none⟩ = some (.int .i64 d) := fun V hV => hV.cell HC3.out (fun e => by have h := (HOj.out.lt _ e).1; have h2 := HBL.out; simp only at h; omega)
        clear x0 x1 c0 hk hq
        refine wp_region_turn (X := (fun q => u5.ownBlock = some q)) (by kernel_rfl) ?_
        have hS : Turn (fun q => u5.ownBlock = some q) wr (World.drew wr) := (Turn.refl _ _).drew
        refine wpAnyH_take (i := 0) (oi := ⟨some 22, _, _, _, _, _⟩) (v := ?_) rfl (by kernel_rfl) (by kernel_rfl) (by kernel_rfl) (fun _ _ _ h => h) (Or.inl ⟨by rfl, ?_⟩) hS ?_
        rotate_left
        · intro W hW; go_simp; with_reducible rfl
        try simp only [Act.put, List.setIfInBounds_toArray, List.set_cons_zero, List.set_cons_succ]
        refine wpAnyH_take (i := 1) (oi := ⟨some 23, _, _, _, _, _⟩) (v := ?_) rfl (by kernel_rfl) (by kernel_rfl) (by kernel_rfl) (fun _ _ _ h => h) (Or.inl ⟨by rfl, ?_⟩) hS ?_
        rotate_left
        · intro W hW; go_simp; with_reducible rfl
        try simp only [Act.put, List.setIfInBounds_toArray, List.set_cons_zero, List.set_cons_succ]
        refine wpAnyH_take (i := 2) (oi := ⟨some 24, _, _, _, _, _⟩) (v := ?_) rfl (by kernel_rfl) (by kernel_rfl) (by kernel_rfl) (fun _ _ _ h => h) (Or.inl ⟨by rfl, ?_⟩) hS ?_
        rotate_left
        · intro W hW; go_simp; with_reducible rfl
        try simp only [Act.put, List.setIfInBounds_toArray, List.set_cons_zero, List.set_cons_succ]
        refine wpAnyH_take (i := 3) (oi := ⟨some 25, _, _, _, _, _⟩) (v := ?_) rfl (by kernel_rfl) (by kernel_rfl) (by kernel_rfl) (fun _ _ _ h => h) (Or.inl ⟨by rfl, ?_⟩) hS ?_
        rotate_left
        · intro W hW; go_simp; with_reducible rfl
        try simp only [Act.put, List.setIfInBounds_toArray, List.set_cons_zero, List.set_cons_succ]
        refine wpAnyH_take (i := 4) (oi := ⟨some 26, _, _, _, _, _⟩) (v := ?_) rfl (by kernel_rfl) (by kernel_rfl) (by kernel_rfl) (fun _ _ _ h => h) (Or.inl ⟨by rfl, ?_⟩) hS ?_
        rotate_left
        · intro W hW; go_simp; with_reducible rfl
        try simp only [Act.put, List.setIfInBounds_toArray, List.set_cons_zero, List.set_cons_succ]
        refine wpAnyH_take (i := 5) (oi := ⟨some 27, _, _, _, _, _⟩) (v := ?_) rfl (by kernel_rfl) (by kernel_rfl) (by kernel_rfl) (fun _ _ _ h => h) (Or.inl ⟨by rfl, ?_⟩) hS ?_
        rotate_left
        · intro W hW; go_simp; with_reducible rfl
        try simp only [Act.put, List.setIfInBounds_toArray, List.set_cons_zero, List.set_cons_succ]
        refine wpAnyH_take (i := 6) (oi := ⟨some 28, _, _, _, _, _⟩) (v := ?_) rfl (by kernel_rfl) (by kernel_rfl) (by kernel_rfl) (fun _ _ _ h => h) (Or.inl ⟨by rfl, ?_⟩) hS ?_
        rotate_left
        · intro W hW; go_simp; with_reducible rfl
        try simp only [Act.put, List.setIfInBounds_toArray, List.set_cons_zero, List.set_cons_succ]
        refine wpAnyH_take (i := 7) (oi := ⟨some 29, _, _, _, _, _⟩) (v := ?_) rfl (by kernel_rfl) (by kernel_rfl) (by kernel_rfl) (fun _ _ _ h => h) (Or.inl ⟨by rfl, ?_⟩) hS ?_
        rotate_left
        · intro W hW; go_simp; with_reducible rfl
        try simp only [Act.put, List.setIfInBounds_toArray, List.set_cons_zero, List.set_cons_succ]
        refine wpAnyH_take (i := 8) (oi := ⟨some 30, _, _, _, _, _⟩) (v := ?_) rfl (by kernel_rfl) (by kernel_rfl) (by kernel_rfl) (fun _ _ _ h => h) (Or.inl ⟨by rfl, ?_⟩) hS ?_
        rotate_left
        · intro W hW; go_simp; with_reducible rfl
        try simp only [Act.put, List.setIfInBounds_toArray, List.set_cons_zero, List.set_cons_succ]
        refine wpAnyH_take (i := 9) (oi := ⟨some 31, _, _, _, _, _⟩) (v := ?_) rfl (by kernel_rfl) (by kernel_rfl) (by kernel_rfl) (fun _ _ _ h => h) (Or.inl ⟨by rfl, ?_⟩) hS ?_
        rotate_left
        · intro W hW; go_simp; with_reducible rfl
        try simp only [Act.put, List.setIfInBounds_toArray, List.set_cons_zero, List.set_cons_succ]
        refine wpAnyH_take (i := 10) (oi := ⟨some 32, _, _, _, _, _⟩) (v := ?_) rfl (by kernel_rfl) (by kernel_rfl) (by kernel_rfl) (fun _ _ _ h => h) (Or.inl ⟨by rfl, ?_⟩) hS ?_
        rotate_left
        · intro W hW; go_simp; with_reducible rfl
        try simp only [Act.put, List.setIfInBounds_toArray, List.set_cons_zero, List.set_cons_succ]
        refine wpAnyH_take (i := 11) (oi := ⟨some 33, _, _, _, _, _⟩) (v := ?_) rfl (by kernel_rfl) (by kernel_rfl) (by kernel_rfl) (fun _ _ _ h => h) (Or.inl ⟨by rfl, ?_⟩) hS ?_
        rotate_left
        · intro W hW; go_simp; with_reducible rfl
        try simp only [Act.put, List.setIfInBounds_toArray, List.set_cons_zero, List.set_cons_succ]
        refine wpAnyH_take (i := 12) (oi := ⟨some 34, _, _, _, _, _⟩) (v := ?_) rfl (by kernel_rfl) (by kernel_rfl) (by kernel_rfl) (fun _ _ _ h => h) (Or.inl ⟨by rfl, ?_⟩) hS ?_
        rotate_left
        · intro W hW; go_simp; with_reducible rfl
        try simp only [Act.put, List.setIfInBounds_toArray, List.set_cons_zero, List.set_cons_succ]
        refine wpAnyH_ready (rs := [13]) (by kernel_rfl) (by simp) ?_
        refine AllReadyH.cons (o := ⟨some 35, _, _, _, _, _⟩) rfl (fun Kr hKr => ?_) AllReadyH.nil
        -- operation 13: a step
        try rw [if_pos (by kernel_rfl)]
        go_simp
        have HB0 := Lib.hid (below_new (World.drew wr) (.cells #[.int .i64 u, .int .i64 d] 3))
        show Kr _ _
        refine hKr.out _ _ ?_ (fun _ => ?_)
        · exact Turn.trans hS (Turn.ofBelow (below_new _ _))
        clear hKr Kr
        replace hS : Turn (fun q => u5.ownBlock = some q) wr ((World.drew wr).alloc (.cells #[.int .i64 u, .int .i64 d] 3)) := Turn.trans hS (Turn.ofBelow (below_new _ _))
        try simp only [Act.put, List.setIfInBounds_toArray, List.set_cons_zero, List.set_cons_succ]
        refine wpAnyH_ready (rs := [14]) (by kernel_rfl) (by simp) ?_
        refine AllReadyH.cons (o := ⟨some 36, _, _, _, _, _⟩) rfl (fun Kr hKr => ?_) AllReadyH.nil
        -- operation 14: a step
        try rw [if_pos (by kernel_rfl)]
        refine Rk.wp_append ri_ok (.tmp 22) (.tmp 35) rfl (w.heap.size + 1) u5 acc [u, d] rfl ((HOj.out.below (w' := World.drew wr) ((Below.refl _ _).drew)).below HB0.out) _ 2 2 rfl (two_at (World.drew wr) u d) rfl (.inr ⟨_, _, rfl⟩) (by have := HLN.out; simp; omega) (Nat.le_trans HSj.out (by simp)) ?_
        intro v7 w7 hx1 hg1 ha1
        have HO7 := Lib.hid hx1
        have HG7 := Lib.hid hg1
        show Kr _ _
        refine hKr.out _ _ ?_ (fun _ => ?_)
        · exact Turn.trans hS (Turn.grown (Turn.refl _ _) hg1 (fun j e => .inl e))
        clear hKr Kr
        replace hS : Turn (fun q => u5.ownBlock = some q) wr w7 := Turn.trans hS (Turn.grown (Turn.refl _ _) hg1 (fun j e => .inl e))
        try simp only [Act.put, List.setIfInBounds_toArray, List.set_cons_zero, List.set_cons_succ]
        refine wpAnyH_take (i := 15) (oi := ⟨some 5, _, _, _, _, _⟩) (v := ?_) rfl (by kernel_rfl) (by kernel_rfl) (by kernel_rfl) (fun _ _ _ h => h) (Or.inl ⟨by rfl, ?_⟩) hS ?_
        rotate_left
        · intro W hW; go_simp; with_reducible rfl
        try simp only [Act.put, List.setIfInBounds_toArray, List.set_cons_zero, List.set_cons_succ]
        refine wpAnyH_done (by kernel_rfl) ?_ _
        go_wp2_with fail
        have hT : Turn (fun q => u5.ownBlock = some q) wr w7 := hS
        exact ⟨⟨j + 1, rfl, hlt, by rw [HSJ.out]; exact HO7, Lib.hid (HXj.out.turn hT (fun e => by have := (HOj.out.lt _ e).1; omega)), Lib.hid (HBj.out.trans (hT.below (B := w.heap.size) (fun q e => by have := (HOj.out.lt _ e).1; omega) HBj.out.size)), Lib.hid (Nat.le_trans HSj.out hT.size)⟩, by simp [intOf]; omega⟩
      · rw [if_neg hk, List.append_nil] at HSJ
        have hq : (pc == k) = false := by simpa using hk
        clear hk
        go_wp2_with fail
        exact ⟨⟨j + 1, rfl, hlt, by rw [HSJ.out]; exact HOj, HXj, HBj, HSj⟩, by simp [intOf]; omega⟩
    · obtain rfl : j = m := by omega
      have hd4 : decide ((j : Int) < (j : Int)) = false := decide_eq_false (by omega)
      have hd5 : decide (j < j) = false := decide_eq_false (by omega)
      have hlj : t.P.take j = t.P := List.take_of_length_le (by rw [HT.out.pl]; exact Nat.le_refl _)
      rw [hlj] at HOj
      have x0 := HXj.out.t0
      have x1 := HXj.out.t1
      go_wp2_with fail
      go_ret
      exact ⟨_, rfl, HOj.out, HBj.out, HSj.out⟩

theorem ok_app {l : List Int} {x : Int} (h : ∀ y ∈ l, okI y) (hx : okI x) : ∀ y ∈ l ++ [x], okI y := by
  intro y hy
  rcases List.mem_append.1 hy with hy | hy
  · exact h y hy
  · simp at hy; subst hy; exact hx

set_option maxHeartbeats 1000000 in
theorem reftfits_any (A B : Option Addr) (n a m b : Nat) (t : Tb) (k : Nat) (by_ : Int) (hk : k < n) (hm : m ≤ 1000) (hb : okI by_) (w : World) (ht : TbAt w A n B m t) :
    Calls Try.prog 36 #[tbV A n a B m b, .int .i64 (k : Int), .int .i64 by_] w fun e w' => e = .returned (.bool (t.fits k by_)) ∧ Below w.heap.size w w' := by
  have HT := Lib.hid ht
  have HX := Lib.hid (Bk.new w (tbC A n a B m b) 25)
  have HB := Lib.hid (below_new w (.cells (tbC A n a B m b) 25))
  have hs := fun V hV => refsums_any A B n a m b t (k : Int) hm V (HT.out.below hV)
  obtain ⟨b1, o1, hA, hbl, hok, h0, h1, h2⟩ := ht.c hk
  subst hA
  have HBL := Lib.hid hbl
  have HLN : Hid ((sumsOf t.P (k : Int)).length ≤ 2000) := by have h := sumsOf_len t.P (k : Int); rw [ht.pl] at h; show _ ≤ _; omega
  have HSO := Lib.hid (sumsOf_ok ht.okP (k : Int))
  have HFT : Hid (t.fits k by_ = (decide (reachE 0 (sumsOf t.P (k : Int) ++ [by_]) = 0) && fitsB (t.C.getD k ctD).lo (t.C.getD k ctD).hi (t.C.getD k ctD).v (sumsOf t.P (k : Int) ++ [by_]))) := rfl
  have HBY := Lib.hid hb
  generalize t.C.getD k ctD = cc at *
  obtain ⟨lo, hi, v⟩ := cc
  have HOK := Lib.hid hok
  have HV := Lib.hid hok.v
  have hd1 : decide (k < n) = true := decide_eq_true hk
  have hi1 : (k : Int) < (n : Int) := by omega
  have c0 := (HB.out.cell (p := ⟨b1, o1 + k * 3, none⟩) hbl).trans h0
  have c1 := (HB.out.cell (p := ⟨b1, o1 + k * 3 + 1, none⟩) hbl).trans h1
  have c2 := (HB.out.cell (p := ⟨b1, o1 + k * 3 + 2, none⟩) hbl).trans h2
  simp only at c0 c1 c2 HFT HV
  generalize sumsOf t.P (k : Int) = l at *
  generalize t.fits k by_ = res at *
  clear h0 h1 h2 hbl hok ht hb
  go_enter Try.func36, Try.ntmps36
  go_upto_region 2 with fail
  have HC := Lib.hid (show Bk ((w.alloc (.cells (tbC (some ⟨b1, o1, none⟩) n a B m b) 25)).alloc (.cells #[.int .i64 lo, .int .i64 hi, .int .i64 v] 72)) (w.heap.size + 1) #[.int .i64 lo, .int .i64 hi, .int .i64 v] 72 from by
    have h := Bk.new (w.alloc (.cells (tbC (some ⟨b1, o1, none⟩) n a B m b) 25)) #[.int .i64 lo, .int .i64 hi, .int .i64 v] 72
    rw [size_al] at h; exact h)
  have HX2 := Lib.hid (HX.out.al (.cells #[.int .i64 lo, .int .i64 hi, .int .i64 v] 72))
  have HB2 := Lib.hid (below_two HB.out (below_new _ (.cells #[.int .i64 lo, .int .i64 hi, .int .i64 v] 72)))
  clear HX HB
  generalize (w.alloc (.cells (tbC (some ⟨b1, o1, none⟩) n a B m b) 25)).alloc (.cells #[.int .i64 lo, .int .i64 hi, .int .i64 v] 72) = wz at *
  have HS2 := Lib.hid HC.out.lt
  have x0 := HX2.out.t0
  have x1 := HX2.out.t1
  go_wp2_with fail
  refine (hs _ HB2.out).mono ?_
  rintro e w3 ⟨lv, rfl, hown, hb3, hsz⟩
  have HO3 := Lib.hid hown
  have HC3 := Lib.hid (HC.out.below hb3)
  have HB3 := Lib.hid (HB2.out.trans (hb3.mono HB2.out.size))
  have HZ3 := Lib.hid (show wz.heap.size + 1 ≤ w3.heap.size from hsz)
  have HS3 := Lib.hid (Nat.le_trans (show w.heap.size + 1 + 1 ≤ wz.heap.size from HS2.out) hb3.size)
  clear hown hb3 hsz hs x0 x1 HX2 HC HB2
  go_upto_region 4 with (first
    | (at_builtin; refine Rk.wpList_append ri_ok rfl (.tmp 19) (.tmp 21) rfl (wz.heap.size + 1) lv l [by_] rfl (HO3.out.below (below_new w3 (.cells #[.int .i64 by_] 3))) _ 1 1 rfl (one_at w3 by_) rfl (.inr ⟨_, _, rfl⟩) (by have := HLN.out; simp; omega) (Nat.le_trans HZ3.out (below_new w3 _).size) ?_; intro v4 w4 hx1 hg1 ha1; have HO4 := Lib.hid hx1; have HT4 := Lib.hid hg1; clear hx1 hg1 ha1)
    | fail)
  have HC4 := Lib.hid ((HC3.out.al (.cells #[.int .i64 by_] 3)).far HT4.out (fun e => by have h := (HO3.out.lt _ e.symm).1; have := HS2.out; omega))
  have HB4 := Lib.hid (Below.grown (HB3.out.trans ((below_new w3 (.cells #[.int .i64 by_] 3)).mono HB3.out.size)) HT4.out (Nat.le_trans HB3.out.size (below_new w3 (.cells #[.int .i64 by_] 3)).size) (fun q e => by have h := (HO3.out.lt _ e).1; have := HS2.out; omega))
  clear HO3 HC3 HB3 HT4
  obtain ⟨A4, n4, c4, e4, en4, hl4⟩ := own_ls HO4.out (ok_app HSO.out HBY.out)
  subst e4
  have HL4 := Lib.hid hl4
  have hr := fun V hV => refreach_any 0 (by decide) A4 n4 c4 _ V (HL4.out.below hV)
  have hf := fun V hV => reffits_any lo hi v HV.out A4 n4 c4 _ V (HL4.out.below hV)
  clear hl4 en4 HO4
  unfold reV at hr
  generalize l ++ [by_] = l2 at *
  generalize reachE 0 l2 = re at *
  generalize reachL 0 l2 = rl at *
  generalize reachH 0 l2 = rh at *
  generalize fitsB lo hi v l2 = fb at *
  go_wp2_with fail
  refine (hr _ (Below.refl _ _)).mono ?_
  rintro e w5 ⟨rfl, hb5⟩
  have HC6 := Lib.hid ((HC4.out.below hb5).al (.cells (spC rl rh) 63))
  have HB6 := Lib.hid ((HB4.out.trans (hb5.mono HB4.out.size)).trans ((below_new w5 (.cells (spC rl rh) 63)).mono (HB4.out.trans (hb5.mono HB4.out.size)).size))
  have HW6 := Lib.hid (hb5.trans ((below_new w5 (.cells (spC rl rh) 63)).mono hb5.size))
  clear hb5 hr HC4 HB4
  have y0 : (w5.alloc (.cells (spC rl rh) 63)).cell? ⟨w.heap.size + 1, 0, none⟩ = some (.int .i64 lo) := HC6.out.c 0 _ rfl
  have y1 : (w5.alloc (.cells (spC rl rh) 63)).cell? ⟨w.heap.size + 1, 1, none⟩ = some (.int .i64 hi) := HC6.out.c 1 _ rfl
  have y2 : (w5.alloc (.cells (spC rl rh) 63)).cell? ⟨w.heap.size + 1, 2, none⟩ = some (.int .i64 v) := HC6.out.c 2 _ rfl
  rcases Classical.em (re = 0) with h0 | h0
  · subst h0
    have HRS := Lib.hid (show res = fb from by rw [HFT.out]; rfl)
    go_wp2_with fail
    refine (hf _ HW6.out).mono ?_
    rintro e w7 ⟨rfl, hb7⟩
    have HB7 := Lib.hid (HB6.out.trans (hb7.mono HB6.out.size))
    clear hb7 hf
    go_wp2_with fail
    go_ret
    exact ⟨by rw [HRS.out]; rfl, HB7.out⟩
  · have hne : (re == 0) = false := by simpa using h0
    have HRS := Lib.hid (show res = false from by rw [HFT.out, decide_eq_false h0]; rfl)
    clear h0
    go_wp2_with fail
    go_ret
    exact ⟨by rw [HRS.out]; rfl, HB6.out⟩
end Go.Proofs.Ytogngghfdcpeaaa
