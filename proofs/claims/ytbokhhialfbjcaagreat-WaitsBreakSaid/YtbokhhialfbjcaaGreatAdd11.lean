/-
  One more want.
-/
import Derived.Test.YtbokhhialfbjcaaGreatQb11
namespace Go.Proofs.YtbokhhialfbjcaaGreat
set_option maxRecDepth 100000
set_option linter.unusedVariables false
set_option linter.unusedSimpArgs false
open Go.RowKit Go.Shelf Go.Sort

def addE (Q : List Wn) (y : Wn) : Int := if hasL Q (y.x : Int) then 7 else if 64 ≤ Q.length then 5 else 0
def addL (Q : List Wn) (y : Wn) : List Wn := if addE Q y = 0 then Q ++ [y] else []

set_option maxHeartbeats 2000000 in
theorem add_any (A : Option Addr) (Q : List Wn) (n k : Nat) (hN : Q.length = n) (hnk : n ≤ k) (hq : SQ Q) (hA : Sp A) (y : Wn) (hy : MayW y) (w : World) (hQ : RW.At w A Q) :
    Calls Tryz.prog 15 #[.agg #[.slice A n k], wnV y] w fun e w' => ∃ A' n' k', e = .returned (.tuple #[.agg #[.slice A' n' k'], .int .i64 (addE Q y)]) ∧ RW.Own w' w.heap.size (.slice A' n' k') (addL Q y) ∧ Below w.heap.size w w' := by
  have hn64 : n ≤ 64 := by rw [← hN]; exact hq.n
  obtain ⟨wa, hwa⟩ : ∃ wa, wa = w.alloc (.cells #[.slice A n k] 28) := ⟨_, rfl⟩
  obtain ⟨wb, hwb⟩ : ∃ wb, wb = wa.alloc (.cells #[.int .i64 (y.x : Int), .int .i64 y.b, .int .i64 y.m] 52) := ⟨_, rfl⟩
  obtain ⟨w1, hw1⟩ : ∃ w1, w1 = wb.alloc (.cells #[.slice none 0 0] 28) := ⟨_, rfl⟩
  have sa : wa.heap.size = w.heap.size + 1 := by rw [hwa]; simp
  have sb : wb.heap.size = w.heap.size + 1 + 1 := by rw [hwb, World.size_alloc, sa]
  have b1 : Below w.heap.size w w1 := by rw [hw1, hwb, hwa]; exact below_two (below_two (below_new _ _) (below_new _ _)) (below_new _ _)
  have k1 : Qb w1 w.heap.size A n k := by rw [hw1, hwb, hwa]; exact ((Bk.new w _ _).below (below_new _ _)).below (below_new _ _)
  have y1 : Wb w1 (w.heap.size + 1) y := by
    have h := Bk.new wa #[.int .i64 (y.x : Int), .int .i64 y.b, .int .i64 y.m] 52
    rw [sa] at h
    rw [hw1, hwb]; exact h.below (below_new _ _)
  have r1 : Qb w1 (w.heap.size + 1 + 1) none 0 0 := by
    have h := Bk.new wb #[.slice none 0 0] 28
    rw [sb] at h
    rw [hw1]; exact h
  have HN := Lib.hid hN
  have HQ := Lib.hid hQ
  have HB := Lib.hid b1
  have HK := Lib.hid k1
  have HY := Lib.hid y1
  have HR := Lib.hid r1
  have HM := Lib.hid hy
  have HSA := Lib.hid (saneq_any A Q n k hN hnk hq w1 (hQ.below b1))
  have hsp : Q = [] ∨ ∃ b o, A = some ⟨b, o, none⟩ := by
    rcases hQ with h | ⟨b, o, e, _⟩
    · exact .inl h
    · exact .inr ⟨b, o, e⟩
  have HHA := Lib.hid (fun V (hV : Below w1.heap.size w1 V) => has_any A Q n k (y.x : Int) hN (by omega) V (hQ.below (b1.trans (hV.mono b1.size))) hsp)
  have HSP := Lib.hid hA
  have c0 := k1.c 0 _ rfl
  have c1 := y1.c 0 _ rfl
  have c2 := y1.c 1 _ rfl
  have c3 := y1.c 2 _ rfl
  clear hN hQ b1 k1 y1 r1 hy hq sa sb hsp hA
  unfold wnV
  go_enter Tryz.func15, Tryz.ntmps15
  go_upto_region 1 with fail
  rw [← hwa, ← hwb, ← hw1]
  clear hwa hwb hw1 wa wb
  go_wp2_with (first | (go_at_call 8; refine HSA.out.mono ?_; rintro e w2 ⟨rfl, hb2⟩; have HB2 := Lib.hid hb2; have d0 := (HK.out.below hb2).c 0 _ rfl; have d1 := (HY.out.below hb2).c 0 _ rfl; have d2 := (HY.out.below hb2).c 1 _ rfl; have d3 := (HY.out.below hb2).c 2 _ rfl; clear hb2 c0 c1 c2 c3) | fail)
  refine (mayw_any y HM.out w2).mono ?_
  rintro e w3 ⟨rfl, hg3⟩
  have hb3 := hg3.below
  have HB3 := Lib.hid (HB2.out.trans (hb3.mono HB2.out.size))
  have c0 := (HK.out.below HB3.out).c 0 _ rfl
  have c1 := (HY.out.below HB3.out).c 0 _ rfl
  have c2 := (HY.out.below HB3.out).c 1 _ rfl
  have c3 := (HY.out.below HB3.out).c 2 _ rfl
  clear d0 d1 d2 d3 hg3 hb3 HB2
  go_wp2_with fail
  refine (HHA.out w3 HB3.out).mono ?_
  rintro e w4 ⟨rfl, hb4⟩
  have HB4 := Lib.hid (HB3.out.trans (hb4.mono HB3.out.size))
  clear c0 c1 c2 c3 hb4 HB3
  have c0 := (HK.out.below HB4.out).c 0 _ rfl
  have c1 := (HY.out.below HB4.out).c 0 _ rfl
  have c2 := (HY.out.below HB4.out).c 1 _ rfl
  have c3 := (HY.out.below HB4.out).c 2 _ rfl
  have HR4 := Lib.hid (HR.out.below HB4.out)
  have HBW := Lib.hid (HB.out.trans (HB4.out.mono HB.out.size))
  have HL1 := Lib.hid (show w.heap.size + 1 + 1 < w4.heap.size from HR4.out.lt)
  rcases hh : hasL Q (y.x : Int) with _ | _
  · rcases Nat.lt_or_ge n 64 with hlt | hge
    · have HE := Lib.hid (show addE Q y = 0 by unfold addE; rw [hh, HN.out]; simp; omega)
      have HLL := Lib.hid (show addL Q y = Q ++ [y] by unfold addL; rw [HE.out]; rfl)
      have h64 : decide ((n : Int) ≥ 64) = false := decide_eq_false (by omega)
      have HCL := Lib.hid (fun V (hV : Turn (fun q => q = w.heap.size + 1 + 1) w4 V) => cloneW_any A Q n k V HN.out (by omega) HSP.out ((HQ.out.below HBW.out).turn hV (fun b o e => (HQ.out.lt b o e).imp id (fun h h2 => by have h3 : b = w.heap.size + 1 + 1 := h2; omega))))
      have e0 : ∀ V, Turn (fun q => q = w.heap.size + 1 + 1) w4 V → V.cell? ⟨w.heap.size, 0, none⟩ = some (.slice A n k) := fun V hV => ((HK.out.below HB4.out).turn hV (fun h => by have h3 : w.heap.size = w.heap.size + 1 + 1 := h; omega)).c 0 _ rfl
      have e1 : ∀ V, Turn (fun q => q = w.heap.size + 1 + 1) w4 V → V.cell? ⟨w.heap.size + 1, 0, none⟩ = some (.int .i64 (y.x : Int)) := fun V hV => ((HY.out.below HB4.out).turn hV (fun h => by have h3 : w.heap.size + 1 = w.heap.size + 1 + 1 := h; omega)).c 0 _ rfl
      have e2 : ∀ V, Turn (fun q => q = w.heap.size + 1 + 1) w4 V → V.cell? ⟨w.heap.size + 1, 1, none⟩ = some (.int .i64 y.b) := fun V hV => ((HY.out.below HB4.out).turn hV (fun h => by have h3 : w.heap.size + 1 = w.heap.size + 1 + 1 := h; omega)).c 1 _ rfl
      have e3 : ∀ V, Turn (fun q => q = w.heap.size + 1 + 1) w4 V → V.cell? ⟨w.heap.size + 1, 2, none⟩ = some (.int .i64 y.m) := fun V hV => ((HY.out.below HB4.out).turn hV (fun h => by have h3 : w.heap.size + 1 = w.heap.size + 1 + 1 := h; omega)).c 2 _ rfl
      have hQn : Q.length ≤ 1000 := by rw [HN.out]; omega
      have HQN := Lib.hid hQn
      clear hh hlt hQn
      go_upto_region 7 with fail
      clear c0 c1 c2 c3
      refine wp_region_turn (X := (fun q => q = w.heap.size + 1 + 1)) (by kernel_rfl) ?_
      have hS : Turn (fun q => q = w.heap.size + 1 + 1) w4 (World.drew w4) := (Turn.refl _ _).drew
      refine wpAnyH_take (i := 0) (oi := ⟨some 26, _, _, _, _, _⟩) (v := ?_) rfl (by kernel_rfl) (by kernel_rfl) (by kernel_rfl) (fun _ _ _ h => h) (Or.inl ⟨by rfl, ?_⟩) hS ?_
      rotate_left
      · intro W hW; go_simp; with_reducible rfl
      try simp only [Act.put, List.setIfInBounds_toArray, List.set_cons_zero, List.set_cons_succ]
      refine wpAnyH_take (i := 1) (oi := ⟨some 27, _, _, _, _, _⟩) (v := ?_) rfl (by kernel_rfl) (by kernel_rfl) (by kernel_rfl) (fun _ _ _ h => h) (Or.inl ⟨by rfl, ?_⟩) hS ?_
      rotate_left
      · intro W hW; go_simp; with_reducible rfl
      try simp only [Act.put, List.setIfInBounds_toArray, List.set_cons_zero, List.set_cons_succ]
      refine wpAnyH_take (i := 3) (oi := ⟨some 29, _, _, _, _, _⟩) (v := ?_) rfl (by kernel_rfl) (by kernel_rfl) (by kernel_rfl) (fun _ _ _ h => h) (Or.inl ⟨by rfl, ?_⟩) hS ?_
      rotate_left
      · intro W hW; go_simp; with_reducible rfl
      try simp only [Act.put, List.setIfInBounds_toArray, List.set_cons_zero, List.set_cons_succ]
      refine wpAnyH_ready (rs := [2, 4]) (by kernel_rfl) (by simp) ?_
      refine AllReadyH.cons (o := ⟨some 28, _, _, _, _, _⟩) rfl (fun Kr hKr => ?_) (AllReadyH.cons (o := ⟨some 30, _, _, _, _, _⟩) rfl (fun Kr hKr => ?_) AllReadyH.nil)
      · skip
        -- operation 2: a call
        go_simp
        refine (HCL.out _ hS).mono ?_
        rintro e w6 ⟨A6, k6, rfl, ho6, hb6⟩
        replace ho6 := Rk.Own.le ho6 (b := w4.heap.size) hS.size
        have hr6 := Bk.below (by first | exact hr7 | exact (show Qb (World.drew w4) (w.heap.size + 1 + 1) none 0 0 from HR4.out)) hb6
        show Kr _ _
        refine hKr.out _ _ ?_ (fun _ => ?_)
        · exact hS.trans (Turn.ofBelow hb6)
        clear hKr Kr
        replace hS : Turn (fun q => q = w.heap.size + 1 + 1) w4 w6 := hS.trans (Turn.ofBelow hb6)
        try simp only [Act.put, List.setIfInBounds_toArray, List.set_cons_zero, List.set_cons_succ]
        refine wpAnyH_ready (rs := [4]) (by kernel_rfl) (by simp) ?_
        refine AllReadyH.cons (o := ⟨some 30, _, _, _, _, _⟩) rfl (fun Kr hKr => ?_) AllReadyH.nil
        -- operation 4: a step
        refine wp_build_want (y := y) _ rfl rfl ?_
        intro w7 g7 hg7 hat7 hb7
        have hr7 := Bk.below (by first | exact hr6 | exact (show Qb (World.drew w4) (w.heap.size + 1 + 1) none 0 0 from HR4.out)) hb7
        show Kr _ _
        refine hKr.out _ _ ?_ (fun _ => ?_)
        · exact hS.trans (Turn.ofBelow hb7)
        clear hKr Kr
        replace hS : Turn (fun q => q = w.heap.size + 1 + 1) w4 w7 := hS.trans (Turn.ofBelow hb7)
        try simp only [Act.put, List.setIfInBounds_toArray, List.set_cons_zero, List.set_cons_succ]
        refine wpAnyH_ready (rs := [5]) (by kernel_rfl) (by simp) ?_
        refine AllReadyH.cons (o := ⟨some 31, _, _, _, _, _⟩) rfl (fun Kr hKr => ?_) AllReadyH.nil
        -- operation 5: a step
        refine Rk.wp_append rw_ok _ _ rfl w4.heap.size (.slice A6 n k6) Q [y] rfl (by first | exact ho6 | exact ho6.below hb7) _ 1 1 rfl (by first | exact hat7 | exact hat7.below hb6) rfl (.inr ⟨_, _, rfl⟩) (by have := HQN.out; simp; omega) hS.size ?_
        intro v8 w8 ho8 hg8 hv8
        obtain ⟨A8, k8, rfl, hk8, ht8, hs8⟩ := Rk.Own.form rw_ok ho8
        have hr8 := Bk.far (by first | exact hr7 | exact hr6) hg8 (fun e => by have := (ho6.lt _ e.symm).1; have := HL1.out; omega)
        show Kr _ _
        refine hKr.out _ _ ?_ (fun _ => ?_)
        · exact hS.grown hg8 (fun q e => .inr (ho6.lt q e).1)
        clear hKr Kr
        replace hS : Turn (fun q => q = w.heap.size + 1 + 1) w4 w8 := hS.grown hg8 (fun q e => .inr (ho6.lt q e).1)
        try simp only [Act.put, List.setIfInBounds_toArray, List.set_cons_zero, List.set_cons_succ]
        refine wpAnyH_take (i := 6) (oi := ⟨some 32, _, _, _, _, _⟩) (v := ?_) rfl (by kernel_rfl) (by kernel_rfl) (by kernel_rfl) (fun _ _ _ h => h) (Or.inl ⟨by rfl, ?_⟩) hS ?_
        rotate_left
        · intro W hW; go_simp; with_reducible rfl
        try simp only [Act.put, List.setIfInBounds_toArray, List.set_cons_zero, List.set_cons_succ]
        refine wpAnyH_ready (rs := [7]) (by kernel_rfl) (by simp) ?_
        refine AllReadyH.cons (o := ⟨none, _, _, _, _, _⟩) rfl (fun Kr hKr => ?_) AllReadyH.nil
        -- operation 7: a step
        refine wp_store_queue (.tmp 4) (.tmp 32) rfl rfl rfl hr8 ?_
        intro w9 hk9 hg9
        show Kr _ _
        refine hKr.out _ _ ?_ (fun _ => ?_)
        · exact hS.grown hg9 (fun q e => by injection e with e; exact .inl e.symm)
        clear hKr Kr
        replace hS : Turn (fun q => q = w.heap.size + 1 + 1) w4 w9 := hS.grown hg9 (fun q e => by injection e with e; exact .inl e.symm)
        try simp only [Act.put, List.setIfInBounds_toArray, List.set_cons_zero, List.set_cons_succ]
        refine wpAnyH_take (i := 8) (oi := ⟨some 5, _, _, _, _, _⟩) (v := ?_) rfl (by kernel_rfl) (by kernel_rfl) (by kernel_rfl) (fun _ _ _ h => h) (Or.inl ⟨by rfl, ?_⟩) hS ?_
        rotate_left
        · intro W hW; go_simp; with_reducible rfl
        try simp only [Act.put, List.setIfInBounds_toArray, List.set_cons_zero, List.set_cons_succ]
        refine wpAnyH_done (by kernel_rfl) ?_ _
        go_wp2
        refine bodyPost_ret (results_queue2 rfl _ rfl _ rfl hk9) rfl ?_
        refine ⟨_, _, _, by rw [HE.out]; rfl, by rw [HLL.out]; have h9 := (Rk.Own.le ho8 (b := w.heap.size) HBW.out.size).turn ((Turn.refl (fun q => q = w.heap.size + 1 + 1) w8).grown hg9 (fun q e => .inl (by injection e with e; exact e.symm))) (fun q e h => by have h2 := (ho8.lt q e).1; have h3 : q = w.heap.size + 1 + 1 := h; have := HL1.out; omega); simpa using h9, HBW.out.trans (hS.below (fun k e => by have h3 : k = w.heap.size + 1 + 1 := e; omega) HBW.out.size)⟩
      · skip
        -- operation 4: a step
        refine wp_build_want (y := y) _ rfl rfl ?_
        intro w7 g7 hg7 hat7 hb7
        have hr7 := Bk.below (by first | exact hr6 | exact (show Qb (World.drew w4) (w.heap.size + 1 + 1) none 0 0 from HR4.out)) hb7
        show Kr _ _
        refine hKr.out _ _ ?_ (fun _ => ?_)
        · exact hS.trans (Turn.ofBelow hb7)
        clear hKr Kr
        replace hS : Turn (fun q => q = w.heap.size + 1 + 1) w4 w7 := hS.trans (Turn.ofBelow hb7)
        try simp only [Act.put, List.setIfInBounds_toArray, List.set_cons_zero, List.set_cons_succ]
        refine wpAnyH_ready (rs := [2]) (by kernel_rfl) (by simp) ?_
        refine AllReadyH.cons (o := ⟨some 28, _, _, _, _, _⟩) rfl (fun Kr hKr => ?_) AllReadyH.nil
        -- operation 2: a call
        go_simp
        refine (HCL.out _ hS).mono ?_
        rintro e w6 ⟨A6, k6, rfl, ho6, hb6⟩
        replace ho6 := Rk.Own.le ho6 (b := w4.heap.size) hS.size
        have hr6 := Bk.below (by first | exact hr7 | exact (show Qb (World.drew w4) (w.heap.size + 1 + 1) none 0 0 from HR4.out)) hb6
        show Kr _ _
        refine hKr.out _ _ ?_ (fun _ => ?_)
        · exact hS.trans (Turn.ofBelow hb6)
        clear hKr Kr
        replace hS : Turn (fun q => q = w.heap.size + 1 + 1) w4 w6 := hS.trans (Turn.ofBelow hb6)
        try simp only [Act.put, List.setIfInBounds_toArray, List.set_cons_zero, List.set_cons_succ]
        refine wpAnyH_ready (rs := [5]) (by kernel_rfl) (by simp) ?_
        refine AllReadyH.cons (o := ⟨some 31, _, _, _, _, _⟩) rfl (fun Kr hKr => ?_) AllReadyH.nil
        -- operation 5: a step
        refine Rk.wp_append rw_ok _ _ rfl w4.heap.size (.slice A6 n k6) Q [y] rfl (by first | exact ho6 | exact ho6.below hb7) _ 1 1 rfl (by first | exact hat7 | exact hat7.below hb6) rfl (.inr ⟨_, _, rfl⟩) (by have := HQN.out; simp; omega) hS.size ?_
        intro v8 w8 ho8 hg8 hv8
        obtain ⟨A8, k8, rfl, hk8, ht8, hs8⟩ := Rk.Own.form rw_ok ho8
        have hr8 := Bk.far (by first | exact hr7 | exact hr6) hg8 (fun e => by have := (ho6.lt _ e.symm).1; have := HL1.out; omega)
        show Kr _ _
        refine hKr.out _ _ ?_ (fun _ => ?_)
        · exact hS.grown hg8 (fun q e => .inr (ho6.lt q e).1)
        clear hKr Kr
        replace hS : Turn (fun q => q = w.heap.size + 1 + 1) w4 w8 := hS.grown hg8 (fun q e => .inr (ho6.lt q e).1)
        try simp only [Act.put, List.setIfInBounds_toArray, List.set_cons_zero, List.set_cons_succ]
        refine wpAnyH_take (i := 6) (oi := ⟨some 32, _, _, _, _, _⟩) (v := ?_) rfl (by kernel_rfl) (by kernel_rfl) (by kernel_rfl) (fun _ _ _ h => h) (Or.inl ⟨by rfl, ?_⟩) hS ?_
        rotate_left
        · intro W hW; go_simp; with_reducible rfl
        try simp only [Act.put, List.setIfInBounds_toArray, List.set_cons_zero, List.set_cons_succ]
        refine wpAnyH_ready (rs := [7]) (by kernel_rfl) (by simp) ?_
        refine AllReadyH.cons (o := ⟨none, _, _, _, _, _⟩) rfl (fun Kr hKr => ?_) AllReadyH.nil
        -- operation 7: a step
        refine wp_store_queue (.tmp 4) (.tmp 32) rfl rfl rfl hr8 ?_
        intro w9 hk9 hg9
        show Kr _ _
        refine hKr.out _ _ ?_ (fun _ => ?_)
        · exact hS.grown hg9 (fun q e => by injection e with e; exact .inl e.symm)
        clear hKr Kr
        replace hS : Turn (fun q => q = w.heap.size + 1 + 1) w4 w9 := hS.grown hg9 (fun q e => by injection e with e; exact .inl e.symm)
        try simp only [Act.put, List.setIfInBounds_toArray, List.set_cons_zero, List.set_cons_succ]
        refine wpAnyH_take (i := 8) (oi := ⟨some 5, _, _, _, _, _⟩) (v := ?_) rfl (by kernel_rfl) (by kernel_rfl) (by kernel_rfl) (fun _ _ _ h => h) (Or.inl ⟨by rfl, ?_⟩) hS ?_
        rotate_left
        · intro W hW; go_simp; with_reducible rfl
        try simp only [Act.put, List.setIfInBounds_toArray, List.set_cons_zero, List.set_cons_succ]
        refine wpAnyH_done (by kernel_rfl) ?_ _
        go_wp2
        refine bodyPost_ret (results_queue2 rfl _ rfl _ rfl hk9) rfl ?_
        refine ⟨_, _, _, by rw [HE.out]; rfl, by rw [HLL.out]; have h9 := (Rk.Own.le ho8 (b := w.heap.size) HBW.out.size).turn ((Turn.refl (fun q => q = w.heap.size + 1 + 1) w8).grown hg9 (fun q e => .inl (by injection e with e; exact e.symm))) (fun q e h => by have h2 := (ho8.lt q e).1; have h3 : q = w.heap.size + 1 + 1 := h; have := HL1.out; omega); simpa using h9, HBW.out.trans (hS.below (fun k e => by have h3 : k = w.heap.size + 1 + 1 := e; omega) HBW.out.size)⟩
    · have HE := Lib.hid (show addE Q y = 5 by unfold addE; rw [hh, HN.out]; simp; omega)
      have HLL := Lib.hid (show addL Q y = [] by unfold addL; rw [HE.out]; rfl)
      have h64 : decide ((n : Int) ≥ 64) = true := decide_eq_true (by omega)
      clear hh hge
      go_wp2_with (first | (refine wpList_store_queue rfl _ _ rfl rfl rfl HR4.out ?_; intro w5 hk5 hg5; have HK5 := Lib.hid hk5; have HG5 := Lib.hid hg5; clear hk5 hg5 c0 c1 c2 c3) | fail)
      refine bodyPost_ret (results_queue2 rfl _ rfl _ rfl HK5.out) rfl ?_
      refine ⟨none, 0, 0, by rw [HE.out]; rfl, by rw [HLL.out]; exact Rk.Own.nil _ _ _, HBW.out.grown HG5.out HBW.out.size (fun q e => by injection e with e; omega)⟩
  · have HE := Lib.hid (show addE Q y = 7 by unfold addE; rw [hh]; rfl)
    have HLL := Lib.hid (show addL Q y = [] by unfold addL; rw [HE.out]; rfl)
    clear hh
    go_wp2_with (first | (refine wpList_store_queue rfl _ _ rfl rfl rfl HR4.out ?_; intro w5 hk5 hg5; have HK5 := Lib.hid hk5; have HG5 := Lib.hid hg5; clear hk5 hg5 c0 c1 c2 c3) | fail)
    refine bodyPost_ret (results_queue2 rfl _ rfl _ rfl HK5.out) rfl ?_
    refine ⟨none, 0, 0, by rw [HE.out]; rfl, by rw [HLL.out]; exact Rk.Own.nil _ _ _, HBW.out.grown HG5.out HBW.out.size (fun q e => by injection e with e; omega)⟩
end Go.Proofs.YtbokhhialfbjcaaGreat
