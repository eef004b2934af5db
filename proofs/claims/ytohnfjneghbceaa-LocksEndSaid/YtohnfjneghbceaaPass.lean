/-
  Locks passed to a parent.
-/
import Derived.Test.YtohnfjneghbceaaFind
namespace Go.Proofs.Ytohnfjneghbceaa
set_option maxRecDepth 100000
set_option linter.unusedVariables false
set_option linter.unusedSimpArgs false
open Go.RowKit Go.Shelf Go.Sort

theorem free_one (L : List Lk) (x : Nat) : freeL L (inL [x]) = freeL L fun z => decide (z = (x : Int)) := by
  unfold freeL
  congr 1
  funext y
  unfold inL
  simp only [List.any_cons, List.any_nil, Bool.or_false]
  by_cases e : y.x = (x : Int)
  · rw [decide_eq_true e, decide_eq_true e.symm]
  · rw [decide_eq_false e, decide_eq_false (fun h => e h.symm)]

def upOne (p : Int) (y : Lk) : Lk := ⟨y.b, p, 0, y.s⟩

theorem mix_get (f : Lk → Lk) {O : List Lk} {j : Nat} {y : Lk} (hy : O[j]? = some y) : ((O.take j).map f ++ O.drop j)[j]? = some y := by
  have hj := (List.getElem?_eq_some_iff.1 hy).1
  have hm : min j O.length = j := by omega
  rw [List.getElem?_append_right (by rw [List.length_map, List.length_take]; omega), List.length_map, List.length_take, hm, List.getElem?_drop, Nat.sub_self]
  exact hy
theorem mix_set (f : Lk → Lk) {O : List Lk} {j : Nat} {y : Lk} (hy : O[j]? = some y) : ((O.take j).map f ++ O.drop j).set j (f y) = (O.take (j + 1)).map f ++ O.drop (j + 1) := by
  obtain ⟨h1, h2⟩ := List.getElem?_eq_some_iff.1 hy
  have hm : min j O.length = j := by omega
  rw [List.set_append_right _ _ (by rw [List.length_map, List.length_take]; omega), List.length_map, List.length_take, hm, Nat.sub_self, List.drop_eq_getElem_cons h1, List.set_cons_zero, List.take_add_one, hy, List.map_append]
  simp

set_option maxHeartbeats 2000000 in
theorem pass_any (A : Option Addr) (L : List Lk) (n k : Nat) (hN : L.length = n) (hA : Sp A) (hl : LG L) (x : Nat) (p : Int) (hx : x ≤ 63) (hp : p ≤ 63) (w : World) (hL : LkAt w A L) :
    Calls Try.prog 29 #[.agg #[.slice A n k], .int .i64 (x : Int), .int .i64 p] w fun e w' => ∃ A' n' k', e = .returned (.agg #[.slice A' n' k']) ∧ OwnLk w' w.heap.size (.slice A' n' k') (passL L x p) ∧ Below w.heap.size w w' := by
  have hn16 : n ≤ 16384 := by rw [← hN]; exact hl.len
  obtain ⟨wa, hwa⟩ : ∃ wa, wa = w.alloc (.cells #[.slice A n k] 49) := ⟨_, rfl⟩
  obtain ⟨wb, hwb⟩ : ∃ wb, wb = wa.alloc (.cells #[.slice none 0 0] 49) := ⟨_, rfl⟩
  obtain ⟨w1, hw1⟩ : ∃ w1, w1 = wb.alloc (.cells #[.int .i64 (x : Int)] 3) := ⟨_, rfl⟩
  have sa : wa.heap.size = w.heap.size + 1 := by rw [hwa]; simp
  have sb : wb.heap.size = w.heap.size + 2 := by rw [hwb, World.size_alloc, sa]
  have s1 : w1.heap.size = w.heap.size + 3 := by rw [hw1, World.size_alloc, sb]
  have b1 : Below w.heap.size w w1 := by rw [hw1, hwb, hwa]; exact below_two (below_two (below_new _ _) (below_new _ _)) (below_new _ _)
  have kb0 : KB wb w.heap.size A n k := by rw [hwb, hwa]; exact (KB.new w A n k).below (below_new _ _)
  have k1 : KB w1 w.heap.size A n k := by rw [hw1]; exact kb0.below (below_new _ _)
  have r1 : KB w1 (w.heap.size + 1) none 0 0 := by
    have h := KB.new wa none 0 0
    rw [sa, ← hwb] at h
    rw [hw1]; exact h.below (below_new _ _)
  have i1 : IdAt w1 (some ⟨w.heap.size + 2, 0, none⟩) [x] := by
    rw [← sb, hw1]
    refine .inr ⟨wb.heap.size, rfl, by simp, fun j z hz => ?_⟩
    match j, hz with
    | 0, hz =>
      injection hz with hz
      subst hz
      exact (cell_new wb #[.int .i64 (x : Int)] 3 0).trans rfl
    | j + 1, hz => simp at hz
  have HN := Lib.hid hN
  have HA := Lib.hid hA
  have HLG := Lib.hid hl
  have HX := Lib.hid hx
  have HPP := Lib.hid hp
  have HL := Lib.hid hL
  have HB1 := Lib.hid b1
  have HK1 := Lib.hid k1
  have HR1 := Lib.hid r1
  have HS1 := Lib.hid s1
  have HF := Lib.hid (free_any A L n k hN hA hl (some ⟨w.heap.size + 2, 0, none⟩) [x] 1 1 rfl (by omega) (fun i hi => by rw [List.mem_singleton.1 hi]; exact hx) w1 (hL.below b1) i1)
  have c0 := kb0.c0
  clear hN hA hl hx hp hL b1 k1 r1 i1 s1 kb0
  go_enter Try.func29, Try.ntmps29
  go_upto_region 1 with fail
  rw [← hwa, ← hwb]
  clear hwa sa hwb wa
  go_upto_region 2 with (first
    | (go_at_call 31; rw [← hw1]; refine HF.out.mono ?_; rintro e w2 ⟨A2, n2, k2, rfl, ho2, hb2⟩; rw [free_one] at ho2; have HO2 := Lib.hid ho2; have HB2 := Lib.hid hb2; have HK2 := Lib.hid (HK1.out.below hb2); have HR2 := Lib.hid (HR1.out.below hb2); have HBW := Lib.hid (HB1.out.trans (hb2.mono HB1.out.size)); have HS2 := Lib.hid (show w.heap.size + 3 ≤ w2.heap.size by have h1 := HS1.out; have h2 := hb2.size; omega); clear ho2 hb2 c0)
    | (refine wpList_store_table rfl (.tmp 7) (.tmp 14) rfl rfl rfl (KB.new w2 none 0 0) ?_; intro w3 hk3 hg3; have HK3 := Lib.hid hk3; have HG3 := Lib.hid hg3; clear hk3 hg3)
    | fail)
  clear hw1 sb
  have hs3 : w2.heap.size < w3.heap.size := by have h1 := HG3.out.size; simp at h1; omega
  have HS3 := Lib.hid hs3
  have t3 : Below w2.heap.size w2 w3 := (below_new w2 _).grown HG3.out (by simp) (fun q e => by injection e with e; omega)
  have HBT := Lib.hid (HBW.out.trans (t3.mono HBW.out.size))
  have HKT := Lib.hid (HK2.out.below t3)
  have HRT := Lib.hid (HR2.out.below t3)
  have HOT := Lib.hid (HO2.out.below t3)
  have HLT := Lib.hid (show ∀ q, (Value.slice A2 n2 k2).ownBlock = some q → q < w2.heap.size from fun q e => (HO2.out.lt q e).2)
  have HG2 := Lib.hid (HLG.out.freeL fun z => decide (z = (x : Int)))
  clear hs3 t3
  have c3 := HK3.out.c0
  have f3 := HKT.out.c0
  by_cases hp0 : p < 0
  · have hpb : decide (p < 0) = true := decide_eq_true hp0
    have HPN := Lib.hid hp0
    clear hp0
    go_wp2_with (first
      | (refine wpList_store_table rfl (.tmp 6) (.tmp 17) rfl rfl rfl HRT.out ?_; intro w7 hk7 hg7; have HK7 := Lib.hid hk7; have HG7 := Lib.hid hg7; clear hk7 hg7)
      | fail)
    refine bodyPost_ret (results_table rfl _ rfl HK7.out) rfl ?_
    have h8 := HOT.out.turn (S := fun q => q = w.heap.size + 1) ((Turn.refl _ w3).grown HG7.out (fun q e => by injection e with e; exact .inl e.symm)) (fun q e h => by have h1 := (HOT.out.lt q e).1; have h2 := HS1.out; omega)
    refine ⟨A2, n2, k2, rfl, ?_, HBT.out.grown HG7.out HBT.out.size (fun q e => by injection e with e; omega)⟩
    unfold passL
    rw [if_pos HPN.out]
    exact OwnLk.le (b := w.heap.size) h8 HB1.out.size
  · have hpb : decide (p < 0) = false := decide_eq_false hp0
    have HP0 := Lib.hid (show 0 ≤ p ∧ p ≤ 63 from ⟨by omega, HPP.out⟩)
    have HOF := Lib.hid (of_any A L n k (x : Int) HN.out HLG.out w3 (HL.out.below HBT.out))
    clear hp0
    go_wp2_with (first
      | (go_at_call 28; refine HOF.out.mono ?_; rintro e w4 ⟨v4, rfl, ho4, hb4⟩; obtain ⟨A4, k4, rfl, hnk4, hl4, hs4⟩ := ho4.form; have HO4 := Lib.hid ho4; have HB4 := Lib.hid hb4; have HL4 := Lib.hid hl4; have HS4 := Lib.hid hs4; clear ho4 hb4 hl4 hs4)
      | fail)
    obtain ⟨O, hO⟩ : ∃ O, O = ofL L (x : Int) := ⟨_, rfl⟩
    obtain ⟨n4, hn4⟩ : ∃ n4, n4 = O.length := ⟨_, rfl⟩
    rw [← hO, ← hn4] at hnk4 HO4 ⊢
    rw [← hO] at HL4
    have HOE := Lib.hid hO
    have HN4 := Lib.hid hn4
    have HMO := Lib.hid (show ∀ y ∈ O, May y from fun y hy => HLG.out.may y (by rw [hO] at hy; exact (ofL_mem.1 hy).1))
    have hn4b : n4 ≤ 16384 := by rw [hn4, hO]; exact (HLG.out.ofL _).len
    clear hO hn4
    go_loopw [23] (fun iv wr => ∃ (j : Nat) (C : List Lk), iv = .int .i64 (j : Int) ∧ j ≤ n4 ∧ Hid (C.length = n4) ∧ Hid (OwnLk wr w3.heap.size (.slice A4 n4 k4) C) ∧ Hid (C = (O.take j).map (upOne p) ++ O.drop j) ∧ Hid (Below w3.heap.size w3 wr)) (fun iv _ => n4 - (intOf iv).toNat)
    case atStart => exact ⟨0, O, rfl, Nat.zero_le _, HN4.out.symm, HO4.out, rfl, HB4.out⟩
    case round =>
      obtain ⟨j, C, rfl, hj, HC, HO, HCE, HB⟩ := hrel
      clear HO4 HB4 HL4
      rcases Nat.lt_or_ge j n4 with hlt | hge
      · obtain ⟨y, hy⟩ : ∃ y, O[j]? = some y := ⟨O[j]'(by rw [← HN4.out]; exact hlt), List.getElem?_eq_getElem (by rw [← HN4.out]; exact hlt)⟩
        have hyC : C[j]? = some y := by rw [HCE.out]; exact mix_get _ hy
        obtain ⟨_, _, _, hLC⟩ := HO.out.parts
        obtain ⟨b, o, rfl, hb, hc⟩ := hLC.get hyC
        obtain ⟨g, hg, hgb, hgs⟩ : ∃ g, (some ⟨b, o, none⟩ : Option Addr) = some ⟨g, 0, none⟩ ∧ w3.heap.size ≤ g ∧ g < wr.heap.size := by
          obtain ⟨A5, c5, e5, _, _, hs5⟩ := HO.out.form
          injection e5 with e51 e52 e53
          subst e51
          rcases hs5 with h | h
          · cases h
          · exact h
        injection hg with hg
        injection hg with hg1 hg2
        subst hg1
        subst hg2
        have HCS := Lib.hid (show C.set j (upOne p y) = (O.take (j + 1)).map (upOne p) ++ O.drop (j + 1) by rw [HCE.out]; exact mix_set _ hy)
        have hc0 := hc.c0
        have hc1 := hc.c1
        have hc2 := hc.c2
        have hc3 := hc.c3
        rw [Nat.zero_add] at hc0 hc1 hc2 hc3
        obtain ⟨wz, hwz⟩ : ∃ wz, wz = wr.alloc (.cells #[.int .i64 y.b, .int .i64 y.x, .int .i64 y.h, .int .i64 y.k] 53) := ⟨_, rfl⟩
        have hbz : Below wr.heap.size wr wz := by rw [hwz]; exact below_new _ _
        obtain ⟨gy, hgy⟩ : ∃ gy, gy = wr.heap.size := ⟨_, rfl⟩
        have hy4 : LH wz gy y := by rw [hwz, hgy]; exact LH.new wr y
        have hne : ¬ gy = b := by omega
        have HOZ := Lib.hid (HO.out.below hbz)
        have HBZ := Lib.hid (HB.out.trans (hbz.mono HB.out.size))
        have HGB := Lib.hid hgb
        obtain ⟨g, hgg⟩ : ∃ g, g = b := ⟨_, rfl⟩
        rw [← hgg] at HOZ HGB hne hc0 hc1 hc2 hc3 ⊢
        have j0 : ∀ V, Turn (fun q => q = g) wz V → V.cell? ⟨gy, 0, none⟩ = some (.int .i64 y.b) := fun V hV => (hy4.turn hV hne).c0
        have j1 : ∀ V, Turn (fun q => q = g) wz V → V.cell? ⟨gy, 1, none⟩ = some (.int .i64 y.x) := fun V hV => (hy4.turn hV hne).c1
        have j2 : ∀ V, Turn (fun q => q = g) wz V → V.cell? ⟨gy, 2, none⟩ = some (.int .i64 y.h) := fun V hV => (hy4.turn hV hne).c2
        have j3 : ∀ V, Turn (fun q => q = g) wz V → V.cell? ⟨gy, 3, none⟩ = some (.int .i64 y.k) := fun V hV => (hy4.turn hV hne).c3
        clear hc hb hbz hy hyC hLC hgs hgb hgg
        go_upto_region 8 with fail
        rw [← hgy, ← hwz]
        clear hwz hgy hc0 hc1 hc2 hc3
        refine wp_region_turn (X := (fun q => q = g)) (by kernel_rfl) ?_
        have hS : Turn (fun q => q = g) wz (World.drew wz) := (Turn.refl _ _).drew
        refine wpAnyH_take (i := 0) (oi := ⟨some 28, _, _, _, _, _⟩) (v := ?_) rfl (by kernel_rfl) (by kernel_rfl) (by kernel_rfl) (fun _ _ _ h => h) (Or.inl ⟨by rfl, ?_⟩) hS ?_
        rotate_left
        · intro W hW; go_simp; with_reducible rfl
        try simp only [Act.put, List.setIfInBounds_toArray, List.set_cons_zero, List.set_cons_succ]
        refine wpAnyH_take (i := 1) (oi := ⟨some 29, _, _, _, _, _⟩) (v := ?_) rfl (by kernel_rfl) (by kernel_rfl) (by kernel_rfl) (fun _ _ _ h => h) (Or.inl ⟨by rfl, ?_⟩) hS ?_
        rotate_left
        · intro W hW; go_simp; with_reducible rfl
        try simp only [Act.put, List.setIfInBounds_toArray, List.set_cons_zero, List.set_cons_succ]
        refine wpAnyH_take (i := 2) (oi := ⟨some 30, _, _, _, _, _⟩) (v := ?_) rfl (by kernel_rfl) (by kernel_rfl) (by kernel_rfl) (fun _ _ _ h => h) (Or.inl ⟨by rfl, ?_⟩) hS ?_
        rotate_left
        · intro W hW; go_simp; with_reducible rfl
        try simp only [Act.put, List.setIfInBounds_toArray, List.set_cons_zero, List.set_cons_succ]
        refine wpAnyH_take (i := 3) (oi := ⟨some 31, _, _, _, _, _⟩) (v := ?_) rfl (by kernel_rfl) (by kernel_rfl) (by kernel_rfl) (fun _ _ _ h => h) (Or.inl ⟨by rfl, ?_⟩) hS ?_
        rotate_left
        · intro W hW; go_simp; with_reducible rfl
        try simp only [Act.put, List.setIfInBounds_toArray, List.set_cons_zero, List.set_cons_succ]
        refine wpAnyH_take (i := 4) (oi := ⟨some 32, _, _, _, _, _⟩) (v := ?_) rfl (by kernel_rfl) (by kernel_rfl) (by kernel_rfl) (fun _ _ _ h => h) (Or.inl ⟨by rfl, ?_⟩) hS ?_
        rotate_left
        · intro W hW; go_simp; with_reducible rfl
        try simp only [Act.put, List.setIfInBounds_toArray, List.set_cons_zero, List.set_cons_succ]
        refine wpAnyH_take (i := 5) (oi := ⟨some 33, _, _, _, _, _⟩) (v := ?_) rfl (by kernel_rfl) (by kernel_rfl) (by kernel_rfl) (fun _ _ _ h => h) (Or.inl ⟨by rfl, ?_⟩) hS ?_
        rotate_left
        · intro W hW; go_simp; with_reducible rfl
        try simp only [Act.put, List.setIfInBounds_toArray, List.set_cons_zero, List.set_cons_succ]
        refine wpAnyH_ready (rs := [6]) (by kernel_rfl) (by simp) ?_
        refine AllReadyH.cons (o := ⟨some 34, _, _, _, _, _⟩) rfl (fun Kr hKr => ?_) AllReadyH.nil
        -- operation 6: a call
        go_simp
        refine (greater_any y _).mono ?_
        rintro e V0 ⟨rfl, hv⟩
        show Kr _ _
        refine hKr.out _ _ ?_ (fun _ => ?_)
        · exact hS.trans (Turn.ofBelow hv.below)
        clear hKr Kr
        replace hS : Turn (fun q => q = g) wz V0 := hS.trans (Turn.ofBelow hv.below)
        try simp only [Act.put, List.setIfInBounds_toArray, List.set_cons_zero, List.set_cons_succ]
        refine wpAnyH_take (i := 7) (oi := ⟨some 35, _, _, _, _, _⟩) (v := ?_) rfl (by kernel_rfl) (by kernel_rfl) (by kernel_rfl) (fun _ _ _ h => h) (Or.inl ⟨by rfl, ?_⟩) hS ?_
        rotate_left
        · intro W hW; go_simp; with_reducible rfl
        try simp only [Act.put, List.setIfInBounds_toArray, List.set_cons_zero, List.set_cons_succ]
        refine wpAnyH_take (i := 8) (oi := ⟨some 36, _, _, _, _, _⟩) (v := ?_) rfl (by kernel_rfl) (by kernel_rfl) (by kernel_rfl) (fun _ _ _ h => h) (Or.inl ⟨by rfl, ?_⟩) hS ?_
        rotate_left
        · intro W hW; go_simp; with_reducible rfl
        try simp only [Act.put, List.setIfInBounds_toArray, List.set_cons_zero, List.set_cons_succ]
        refine wpAnyH_ready (rs := [9]) (by kernel_rfl) (by simp) ?_
        refine AllReadyH.cons (o := ⟨none, _, _, _, _, _⟩) rfl (fun Kr hKr => ?_) AllReadyH.nil
        -- operation 9: a step
        refine wp_store_elem _ _ rfl (i := j) ⟨y.b, p, 0, y.s⟩ rfl rfl ((show OwnLk (World.drew wz) w3.heap.size (.slice (some ⟨g, 0, none⟩) n4 k4) C from HOZ.out).below hv.below) HC.out hlt ?_
        intro w5 ho5 hg5
        show Kr _ _
        refine hKr.out _ _ ?_ (fun _ => ?_)
        · exact hS.grown hg5 (fun q e => by injection e with e; exact .inl e.symm)
        clear hKr Kr
        replace hS : Turn (fun q => q = g) wz w5 := hS.grown hg5 (fun q e => by injection e with e; exact .inl e.symm)
        try simp only [Act.put, List.setIfInBounds_toArray, List.set_cons_zero, List.set_cons_succ]
        refine wpAnyH_done (by kernel_rfl) ?_ _
        have HS := Lib.hid hS
        have HO5 := Lib.hid ho5
        have HG5 := Lib.hid hg5
        clear ho5 hg5 j0 j1 j2 j3
        go_wp2
        go_roundw
        case rel => exact ⟨j + 1, C.set j (upOne p y), by simp, by omega, (show (C.set j (upOne p y)).length = n4 by rw [List.length_set]; exact HC.out), HO5.out, HCS.out, (Turn.trans ((Turn.ofBelow (S := fun q => q = g) ((Below.refl _ _).mono (Nat.le_refl _)))) HS.out |>.below (B := w3.heap.size) (fun q e => by have := HGB.out; omega) HBZ.out.size |> fun h => HBZ.out.trans h)⟩
        case measure => simp [intOf]; omega
      · obtain rfl : j = n4 := by omega
        have hCU : C = upL L (x : Int) p := by
          rw [HCE.out, List.take_of_length_le (by rw [← HN4.out]; omega), List.drop_of_length_le (by rw [← HN4.out]; omega), List.append_nil, HOE.out]
          rfl
        have HCU := Lib.hid hCU
        have HOP := HOT.out.below (HB.out.mono (Nat.le_refl _))
        have hw := with_any A2 (freeL L fun z => decide (z = (x : Int))) n2 k2 HOT.out.parts.1 HOT.out.parts.2.1 HOT.out.parts.2.2.1 HG2.out A4 C j k4 HC.out (by rw [hCU]; exact HLG.out.upL _ HP0.out) wr (HOT.out.parts.2.2.2.below HB.out) HO.out.parts.2.2.2
        have HWA := Lib.hid hw
        have HRE := Lib.hid (HRT.out.below HB.out)
        have HBE := Lib.hid (HBT.out.trans (HB.out.mono HBT.out.size))
        have cE := (HK3.out.below HB.out).c0
        clear hw hCU HOP
        go_wp2_with (first
          | (go_at_call 49; refine HWA.out.mono ?_; rintro e w6 ⟨A6, n6, k6, rfl, ho6, hb6⟩; have HO6 := Lib.hid ho6; have HB6 := Lib.hid hb6; have HR6 := Lib.hid (HRE.out.below hb6); clear ho6 hb6)
          | (refine wpList_store_table rfl (.tmp 6) (.tmp 40) rfl rfl rfl HR6.out ?_; intro w7 hk7 hg7; have HK7 := Lib.hid hk7; have HG7 := Lib.hid hg7; clear hk7 hg7)
          | fail)
        refine bodyPost_ret (results_table rfl _ rfl HK7.out) rfl ?_
        have h9 : Below w.heap.size w w6 := HBE.out.trans (HB6.out.mono HBE.out.size)
        have h8 := HO6.out.turn (S := fun q => q = w.heap.size + 1) ((Turn.refl _ w6).grown HG7.out (fun q e => by injection e with e; exact .inl e.symm)) (fun q e h => by have h1 := (HO6.out.lt q e).1; have h2 := HRE.out.lt; omega)
        refine ⟨A6, n6, k6, rfl, ?_, h9.grown HG7.out h9.size (fun q e => by injection e with e; omega)⟩
        unfold passL
        rw [if_neg (by have := HP0.out; omega), ← HCU.out]
        exact OwnLk.le (b := w.heap.size) h8 HBE.out.size
end Go.Proofs.Ytohnfjneghbceaa
