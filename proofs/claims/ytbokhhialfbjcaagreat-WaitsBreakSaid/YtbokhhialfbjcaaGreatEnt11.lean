/-
  The walk's inner call: what wasn't come to is marked, and laid on the pile.
-/
import Derived.Test.YtbokhhialfbjcaaGreatDrop11
namespace Go.Proofs.YtbokhhialfbjcaaGreat
set_option maxRecDepth 100000
set_option linter.unusedVariables false
set_option linter.unusedSimpArgs false
open Go.RowKit Go.Shelf Go.Sort Go.Maps

/-- a map of IDs: who is in it, after so many stores -/
def Cm (W : World) (bm nn : Nat) (C : List Nat) : Prop := ∃ D : DataW Unit, W.ownsMap Tryz.prog 3 unitElem bm nn D ∧ ∀ x : Nat, x < 64 → Maps.has D (.int .i64 (x : Int)) = decide (x ∈ C)
theorem Cm.lt {W : World} {bm nn : Nat} {C : List Nat} (h : Cm W bm nn C) : bm < W.heap.size := by obtain ⟨D, h, _⟩ := h; exact h.lt
theorem Cm.turn {S : Nat → Prop} {W V : World} {bm nn : Nat} {C : List Nat} (h : Cm W bm nn C) (ht : Turn S W V) (h2 : ¬ S bm) : Cm V bm nn C := by
  obtain ⟨D, ⟨es, cl, hh, r⟩, hD⟩ := h
  exact ⟨D, ⟨es, cl, (ht.block bm (lt_of_block hh) h2).trans hh, r⟩, hD⟩
theorem Cm.below {W V : World} {bm nn : Nat} {C : List Nat} (h : Cm W bm nn C) (hb : Below W.heap.size W V) : Cm V bm nn C := h.turn (S := fun _ => False) (Turn.ofBelow hb) (fun h => h)
theorem Cm.congr {W : World} {bm nn : Nat} {C E : List Nat} (h : Cm W bm nn C) (he : ∀ x, x ∈ C ↔ x ∈ E) : Cm W bm nn E := by
  obtain ⟨D, h, hD⟩ := h
  exact ⟨D, h, fun x hx => by rw [hD x hx]; exact decide_eq_decide.2 (he x)⟩
def spV (s : Sp1) : Value := .agg #[.int .i64 (s.n : Int), .slice s.a s.k s.c]
theorem wp_build_step {W : World} {y : Sp1} {o : Oper} {a : Act} {K : Act → World → Prop} {Q : Exit → Act → World → Prop} (x : Operand) (ho : o.op = .buildSlice 122 1 #[(0, x)]) (hx : a.eval x = spV y)
    (h : ∀ w' h', W.heap.size ≤ h' → RP.At w' (some ⟨h', 0, none⟩) [y] → Below W.heap.size W w' → K (a.put o.dst (.slice (some ⟨h', 0, none⟩) 1 1)) w') : o.wp Tryz.prog a W K Q := by
  unfold spV at hx
  unfold Oper.wp execOp
  simp only [ho, List.map_toArray, List.map_cons, List.map_nil, hx]
  go_simp
  exact h _ _ (Nat.le_refl _) (Rk.At.new rp_ok W y _) (below_new W _)
theorem Bk.set1 {W : World} {g : Nat} {v : Value} {t : TypeId} (h : Bk W g #[v] t) (u : Value) : Bk (W.setCell ⟨g, 0, none⟩ u) g #[u] t := by
  have := heap_setCell_same W g 0 #[v] t u h
  unfold Bk
  rw [this]; rfl
theorem wp_store_steps {W : World} {g : Nat} {v : Value} {A' : Option Addr} {n' k' : Nat} {o : Oper} {a : Act} {K : Act → World → Prop} {Q : Exit → Act → World → Prop} (x u : Operand) (ho : o.op = .store 122 x u) (hx : a.eval x = .pointer (some ⟨g, 0, none⟩)) (hy : a.eval u = .slice A' n' k')
    (hb : Bk W g #[v] 122) (h : ∀ w', Bk w' g #[.slice A' n' k'] 122 → W.grownBy w' (some g) → K (a.put o.dst undef) w') : o.wp Tryz.prog a W K Q := by
  have c := hb.c 0 v rfl
  have f := hb.fr 0
  have h1 := h _ (hb.set1 (.slice A' n' k')) (grownBy_setCell' W g _)
  unfold Oper.wp execOp
  simp only [ho, hx, hy]
  clear h hb
  go_simp
  exact h1

/-- what it leaves -/
def EntOut (bm g7 base nn n : Nat) (C : List Nat) (pv : Value) (P : List Sp1) (s : Sp1) (W : World) (e : Ending) (w' : World) : Prop :=
  e = .returned (.tuple #[]) ∧ ((n ∈ C ∧ Below W.heap.size W w') ∨ (n ∉ C ∧ ∃ pv', Bk w' g7 #[pv'] 122 ∧ Cm w' bm (nn + 1) (n :: C) ∧ RP.Own w' base pv' (P ++ [s]) ∧
    Turn (fun q => q = bm ∨ q = g7 ∨ pv.ownBlock = some q) W w' ∧ ∀ q, pv'.ownBlock = some q → pv.ownBlock = some q ∨ W.heap.size ≤ q))

set_option maxHeartbeats 2000000 in
theorem enter_any (bm g5 g7 g4 base pf g : Nat) (eg : ∀ args w, (callFunc pf args).run Tryz.prog w = .ok (.enter pf args) w) (n : Nat) (hn : n < 64) (C : List Nat) (nn : Nat) (hnn : nn ≤ 1000) (pv : Value) (P : List Sp1) (hP : P.length ≤ 1000) (s : Sp1) (hs : s.n = n) (W : World)
    (h5 : Bk W g5 #[.map (some bm)] 91) (h7 : Bk W g7 #[pv] 122) (h4 : Bk W g4 #[.func (.func pf) #[] #[.pointer (some ⟨g, 0, none⟩)]] 64)
    (hm : Cm W bm nn C) (hO : RP.Own W base pv P) (hbase : base ≤ W.heap.size) (hlt : bm < base ∧ g5 < base ∧ g7 < base ∧ g4 < base) (hne : g7 ≠ g5 ∧ g7 ≠ g4 ∧ g7 ≠ bm ∧ g5 ≠ bm ∧ g4 ≠ bm)
    (hnx : ∀ V, Turn (fun q => q = bm ∨ q = g7 ∨ pv.ownBlock = some q) W V → Calls Tryz.prog pf #[.int .i64 (n : Int), .pointer (some ⟨g, 0, none⟩)] V fun e w' => e = .returned (.slice s.a s.k s.c) ∧ Below V.heap.size V w') :
    Calls Tryz.prog 69 #[.int .i64 (n : Int), .pointer (some ⟨g5, 0, none⟩), .pointer (some ⟨g7, 0, none⟩), .pointer (some ⟨g4, 0, none⟩)] W (EntOut bm g7 base nn n C pv P s W) := by
  subst hs
  obtain ⟨D, hM, hD⟩ := hm
  have hkey := int_keyL (s.n : Int) (by omega)
  have hd := hD s.n hn
  have c5 := h5.c 0 _ rfl
  have HD := Lib.hid hD
  have HM := Lib.hid hM
  have H5 := Lib.hid h5
  have H7 := Lib.hid h7
  have H4 := Lib.hid h4
  have HO := Lib.hid hO
  have HNX := Lib.hid hnx
  have HBA := Lib.hid hbase
  have HLT := Lib.hid hlt
  have HNE := Lib.hid hne
  have HP := Lib.hid hP
  clear hD h5 h7 h4 hO hnx hbase hlt hne hP
  have hown1 := hM
  clear hM
  by_cases hin : s.n ∈ C
  · rw [decide_eq_true hin] at hd
    have HIN := Lib.hid hin
    clear hin
    go_enter Tryz.func69, Tryz.ntmps69
    go_wp2_with (first | (at_lookup; refine wpList_lookup_own_unit _ rfl _ _ 91 rfl 3 104 (int_keyed Tryz.underlying3) Tryz.underlying91 (Tryz.zeroValue104 _) bm nn D rfl hown1 _ _ rfl hkey ?_; rw [hd]; clear hown1) | fail)
    go_end0
    exact ⟨rfl, .inl ⟨HIN.out, below_new W _⟩⟩
  · rw [decide_eq_false hin] at hd
    have HIN := Lib.hid hin
    clear hin
    have HB1 := Lib.hid (below_new W (.cells #[] 104))
    have hown2 := hown1.alloc (.cells #[] 104)
    have d5 := (H5.out.below HB1.out).c 0 _ rfl
    go_enter Tryz.func69, Tryz.ntmps69
    go_upto_region 3 with (first | (at_lookup; refine wpList_lookup_own_unit _ rfl _ _ 91 rfl 3 104 (int_keyed Tryz.underlying3) Tryz.underlying91 (Tryz.zeroValue104 _) bm nn D rfl hown1 _ _ rfl hkey ?_; rw [hd]; clear hown1) | (at_mapUpdate; refine wpList_mapUpdate_own _ rfl _ _ _ 91 rfl 3 104 (int_keyed Tryz.underlying3) Tryz.underlying91 unitElem bm nn D rfl hown2 (by unfold maxLen; omega) _ _ _ rfl rfl hkey _ [] unitElem_mk ?_; intro w2 hm2 hg2; have HM2 := Lib.hid hm2; have HG2 := Lib.hid hg2; clear hm2 hg2 hown2) | fail)
    have HT2 := Lib.hid (show Turn (fun q => q = bm ∨ q = g7 ∨ pv.ownBlock = some q) W w2 from (Turn.ofBelow HB1.out).trans ((Turn.refl _ _).grown HG2.out (fun q e => .inl (.inl (by injection e with e; exact e.symm)))))
    have T2 : Turn (fun q => q = bm) W w2 := (Turn.ofBelow HB1.out).trans ((Turn.refl _ _).grown HG2.out (fun q e => .inl (by injection e with e; exact e.symm)))
    have H72 := Lib.hid (H7.out.turn T2 HNE.out.2.2.1)
    have H42 := Lib.hid (H4.out.turn T2 HNE.out.2.2.2.2)
    have HO2 := Lib.hid (HO.out.turn T2 (fun q e h => by have h1 := (HO.out.lt q e).1; have h2 : q = bm := h; have := HLT.out.1; omega))
    have HCM := Lib.hid (show Cm w2 bm (nn + 1) (s.n :: C) from ⟨_, HM2.out, fun x hx => by
      by_cases e : x = s.n
      · subst e
        rw [has_put_same ((HM.out.alloc (.cells #[] 104)).isMap) (show WideAt.IsKeyLit (.int .i64 (s.n : Int)) from trivial)]
        simp
      · rw [has_put_other (by intro e2; injection e2 with _ e2; exact e (by omega)), HD.out x hx]
        simp [e]⟩)
    have HS2 := Lib.hid T2.size
    have e2 : ∀ V, Turn (fun q => q = g7 ∨ pv.ownBlock = some q) w2 V → V.cell? ⟨g4, 0, none⟩ = some (.func (.func pf) #[] #[.pointer (some ⟨g, 0, none⟩)]) := fun V hV => (H42.out.turn hV (fun h => by
      rcases h with h | h
      · exact HNE.out.2.1 h.symm
      · have h1 := (HO.out.lt _ h).1; have := HLT.out.2.2.2; omega)).c 0 _ rfl
    have HNV := Lib.hid (fun V (hV : Turn (fun q => q = g7 ∨ pv.ownBlock = some q) w2 V) => HNX.out V (HT2.out.trans (hV.mono (fun q e => .inr e))))
    clear T2 d5 c5 hd hkey HM HD HM2 HG2
    obtain ⟨Ap, cp, rfl, hpc, hap, hsp⟩ := Rk.Own.form rp_ok HO.out
    have c7 := H72.out.c 0 _ rfl
    clear hpc hap hsp
    refine wp_region_turn (X := (fun q => q = g7 ∨ (Value.slice Ap P.length cp).ownBlock = some q)) (by kernel_rfl) ?_
    have hS : Turn (fun q => q = g7 ∨ (Value.slice Ap P.length cp).ownBlock = some q) w2 (World.drew w2) := (Turn.refl _ _).drew
    refine wpAnyH_take (i := 1) (oi := ⟨some 19, _, _, _, _, _⟩) (v := ?_) rfl (by kernel_rfl) (by kernel_rfl) (by kernel_rfl) (fun _ _ _ h => h) (Or.inl ⟨by rfl, ?_⟩) hS ?_
    rotate_left
    · intro W hW; go_simp; with_reducible rfl
    try simp only [Act.put, List.setIfInBounds_toArray, List.set_cons_zero, List.set_cons_succ]
    refine wpAnyH_take (i := 2) (oi := ⟨some 20, _, _, _, _, _⟩) (v := ?_) rfl (by kernel_rfl) (by kernel_rfl) (by kernel_rfl) (fun _ _ _ h => h) (Or.inl ⟨by rfl, ?_⟩) hS ?_
    rotate_left
    · intro W hW; go_simp; with_reducible rfl
    try simp only [Act.put, List.setIfInBounds_toArray, List.set_cons_zero, List.set_cons_succ]
    refine wpAnyH_take (i := 3) (oi := ⟨some 21, _, _, _, _, _⟩) (v := ?_) rfl (by kernel_rfl) (by kernel_rfl) (by kernel_rfl) (fun _ _ _ h => h) (Or.inl ⟨by rfl, ?_⟩) hS ?_
    rotate_left
    · intro W hW; go_simp; with_reducible rfl
    try simp only [Act.put, List.setIfInBounds_toArray, List.set_cons_zero, List.set_cons_succ]
    refine wpAnyH_ready (rs := [0, 4]) (by kernel_rfl) (by simp) ?_
    refine AllReadyH.cons (o := ⟨some 18, _, _, _, _, _⟩) rfl (fun Kr hKr => ?_) (AllReadyH.cons (o := ⟨some 22, _, _, _, _, _⟩) rfl (fun Kr hKr => ?_) AllReadyH.nil)
    · skip
      -- operation 0: a step
      first | have c7x := (Bk.below (Bk.below (show Bk (World.drew w2) g7 #[.slice Ap P.length cp] 122 from H72.out) hb0) hb3).c 0 _ rfl | have c7x := (Bk.below (show Bk (World.drew w2) g7 #[.slice Ap P.length cp] 122 from H72.out) hb0).c 0 _ rfl | have c7x := (show Bk (World.drew w2) g7 #[.slice Ap P.length cp] 122 from H72.out).c 0 _ rfl
      go_simp
      show Kr _ _
      refine hKr.out _ _ ?_ (fun _ => ?_)
      · exact hS
      clear hKr Kr
      try simp only [Act.put, List.setIfInBounds_toArray, List.set_cons_zero, List.set_cons_succ]
      refine wpAnyH_ready (rs := [4]) (by kernel_rfl) (by simp) ?_
      refine AllReadyH.cons (o := ⟨some 22, _, _, _, _, _⟩) rfl (fun Kr hKr => ?_) AllReadyH.nil
      -- operation 4: a step
      go_simp
      refine (HNV.out _ hS).mono ?_
      rintro e V0 ⟨rfl, hb0⟩
      show Kr _ _
      refine hKr.out _ _ ?_ (fun _ => ?_)
      · exact hS.trans (Turn.ofBelow hb0)
      clear hKr Kr
      replace hS : Turn (fun q => q = g7 ∨ (Value.slice Ap P.length cp).ownBlock = some q) w2 V0 := hS.trans (Turn.ofBelow hb0)
      try simp only [Act.put, List.setIfInBounds_toArray, List.set_cons_zero, List.set_cons_succ]
      refine wpAnyH_take (i := 5) (oi := ⟨some 23, _, _, _, _, _⟩) (v := ?_) rfl (by kernel_rfl) (by kernel_rfl) (by kernel_rfl) (fun _ _ _ h => h) (Or.inl ⟨by rfl, ?_⟩) hS ?_
      rotate_left
      · intro W hW; go_simp; with_reducible rfl
      try simp only [Act.put, List.setIfInBounds_toArray, List.set_cons_zero, List.set_cons_succ]
      refine wpAnyH_ready (rs := [6]) (by kernel_rfl) (by simp) ?_
      refine AllReadyH.cons (o := ⟨some 24, _, _, _, _, _⟩) rfl (fun Kr hKr => ?_) AllReadyH.nil
      -- operation 6: a step
      refine wp_build_step (y := s) _ rfl rfl ?_
      intro w3 g3 hg3 hat3 hb3
      show Kr _ _
      refine hKr.out _ _ ?_ (fun _ => ?_)
      · exact hS.trans (Turn.ofBelow hb3)
      clear hKr Kr
      replace hS : Turn (fun q => q = g7 ∨ (Value.slice Ap P.length cp).ownBlock = some q) w2 w3 := hS.trans (Turn.ofBelow hb3)
      try simp only [Act.put, List.setIfInBounds_toArray, List.set_cons_zero, List.set_cons_succ]
      refine wpAnyH_ready (rs := [7]) (by kernel_rfl) (by simp) ?_
      refine AllReadyH.cons (o := ⟨some 25, _, _, _, _, _⟩) rfl (fun Kr hKr => ?_) AllReadyH.nil
      -- operation 7: a step
      refine Rk.wp_append rp_ok _ _ rfl base (.slice Ap P.length cp) P [s] rfl (Rk.Own.below (Rk.Own.below (show RP.Own (World.drew w2) base (.slice Ap P.length cp) P from HO2.out) hb0) hb3) _ 1 1 rfl hat3 rfl (.inr ⟨_, _, rfl⟩) (by have := HP.out; simp; omega) (Nat.le_trans HBA.out (Nat.le_trans HS2.out hS.size)) ?_
      intro v4 w4 ho4 hg4 hv4
      obtain ⟨A4, k4, rfl, hk4, ht4, hs4⟩ := Rk.Own.form rp_ok ho4
      have hb4 := Bk.far (Bk.below (Bk.below (show Bk (World.drew w2) g7 #[.slice Ap P.length cp] 122 from H72.out) hb0) hb3) hg4 (fun e => by have h1 := (HO2.out.lt _ e.symm).1; have := HLT.out.2.2.1; omega)
      show Kr _ _
      refine hKr.out _ _ ?_ (fun _ => ?_)
      · exact hS.grown hg4 (fun q e => .inl (.inr e.symm.symm))
      clear hKr Kr
      replace hS : Turn (fun q => q = g7 ∨ (Value.slice Ap P.length cp).ownBlock = some q) w2 w4 := hS.grown hg4 (fun q e => .inl (.inr e.symm.symm))
      try simp only [Act.put, List.setIfInBounds_toArray, List.set_cons_zero, List.set_cons_succ]
      refine wpAnyH_ready (rs := [8]) (by kernel_rfl) (by simp) ?_
      refine AllReadyH.cons (o := ⟨none, _, _, _, _, _⟩) rfl (fun Kr hKr => ?_) AllReadyH.nil
      -- operation 8: a step
      refine wp_store_steps (.tmp 2) (.tmp 25) rfl rfl rfl hb4 ?_
      intro w5 hb5 hg5
      show Kr _ _
      refine hKr.out _ _ ?_ (fun _ => ?_)
      · exact hS.grown hg5 (fun q e => .inl (.inl (by injection e with e; exact e.symm)))
      clear hKr Kr
      replace hS : Turn (fun q => q = g7 ∨ (Value.slice Ap P.length cp).ownBlock = some q) w2 w5 := hS.grown hg5 (fun q e => .inl (.inl (by injection e with e; exact e.symm)))
      try simp only [Act.put, List.setIfInBounds_toArray, List.set_cons_zero, List.set_cons_succ]
      refine wpAnyH_done (by kernel_rfl) ?_ _
      go_wp2
      go_end0
      refine ⟨rfl, .inr ⟨HIN.out, _, hb5, HCM.out.turn hS (fun h => by rcases h with h | h; exact HNE.out.2.2.1 h.symm; exact absurd (HO2.out.lt _ h).1 (by have := HLT.out.1; omega)), ?_, HT2.out.trans (hS.mono (fun q e => .inr e)), fun q e => ?_⟩⟩
      · exact ho4.turn ((Turn.refl (fun q => q = g7) w4).grown hg5 (fun q e => .inl (by injection e with e; exact e.symm))) (fun q e h => by have h1 := (ho4.lt q e).1; have h2 : q = g7 := h; have := HLT.out.2.2.1; omega)
      · rcases hv4 with h | h
        · exact .inl (h ▸ e)
        · rw [h] at e; injection e with e; exact .inr (by have := HS2.out; have h5 := hb3.size; have h6 := hb0.size; have h7 : w2.heap.size ≤ V0.heap.size := h6; omega)
    · skip
      -- operation 4: a step
      go_simp
      refine (HNV.out _ hS).mono ?_
      rintro e V0 ⟨rfl, hb0⟩
      show Kr _ _
      refine hKr.out _ _ ?_ (fun _ => ?_)
      · exact hS.trans (Turn.ofBelow hb0)
      clear hKr Kr
      replace hS : Turn (fun q => q = g7 ∨ (Value.slice Ap P.length cp).ownBlock = some q) w2 V0 := hS.trans (Turn.ofBelow hb0)
      try simp only [Act.put, List.setIfInBounds_toArray, List.set_cons_zero, List.set_cons_succ]
      refine wpAnyH_take (i := 5) (oi := ⟨some 23, _, _, _, _, _⟩) (v := ?_) rfl (by kernel_rfl) (by kernel_rfl) (by kernel_rfl) (fun _ _ _ h => h) (Or.inl ⟨by rfl, ?_⟩) hS ?_
      rotate_left
      · intro W hW; go_simp; with_reducible rfl
      try simp only [Act.put, List.setIfInBounds_toArray, List.set_cons_zero, List.set_cons_succ]
      refine wpAnyH_ready (rs := [0, 6]) (by kernel_rfl) (by simp) ?_
      refine AllReadyH.cons (o := ⟨some 18, _, _, _, _, _⟩) rfl (fun Kr hKr => ?_) (AllReadyH.cons (o := ⟨some 24, _, _, _, _, _⟩) rfl (fun Kr hKr => ?_) AllReadyH.nil)
      · skip
        -- operation 0: a step
        first | have c7x := (Bk.below (Bk.below (show Bk (World.drew w2) g7 #[.slice Ap P.length cp] 122 from H72.out) hb0) hb3).c 0 _ rfl | have c7x := (Bk.below (show Bk (World.drew w2) g7 #[.slice Ap P.length cp] 122 from H72.out) hb0).c 0 _ rfl | have c7x := (show Bk (World.drew w2) g7 #[.slice Ap P.length cp] 122 from H72.out).c 0 _ rfl
        go_simp
        show Kr _ _
        refine hKr.out _ _ ?_ (fun _ => ?_)
        · exact hS
        clear hKr Kr
        try simp only [Act.put, List.setIfInBounds_toArray, List.set_cons_zero, List.set_cons_succ]
        refine wpAnyH_ready (rs := [6]) (by kernel_rfl) (by simp) ?_
        refine AllReadyH.cons (o := ⟨some 24, _, _, _, _, _⟩) rfl (fun Kr hKr => ?_) AllReadyH.nil
        -- operation 6: a step
        refine wp_build_step (y := s) _ rfl rfl ?_
        intro w3 g3 hg3 hat3 hb3
        show Kr _ _
        refine hKr.out _ _ ?_ (fun _ => ?_)
        · exact hS.trans (Turn.ofBelow hb3)
        clear hKr Kr
        replace hS : Turn (fun q => q = g7 ∨ (Value.slice Ap P.length cp).ownBlock = some q) w2 w3 := hS.trans (Turn.ofBelow hb3)
        try simp only [Act.put, List.setIfInBounds_toArray, List.set_cons_zero, List.set_cons_succ]
        refine wpAnyH_ready (rs := [7]) (by kernel_rfl) (by simp) ?_
        refine AllReadyH.cons (o := ⟨some 25, _, _, _, _, _⟩) rfl (fun Kr hKr => ?_) AllReadyH.nil
        -- operation 7: a step
        refine Rk.wp_append rp_ok _ _ rfl base (.slice Ap P.length cp) P [s] rfl (Rk.Own.below (Rk.Own.below (show RP.Own (World.drew w2) base (.slice Ap P.length cp) P from HO2.out) hb0) hb3) _ 1 1 rfl hat3 rfl (.inr ⟨_, _, rfl⟩) (by have := HP.out; simp; omega) (Nat.le_trans HBA.out (Nat.le_trans HS2.out hS.size)) ?_
        intro v4 w4 ho4 hg4 hv4
        obtain ⟨A4, k4, rfl, hk4, ht4, hs4⟩ := Rk.Own.form rp_ok ho4
        have hb4 := Bk.far (Bk.below (Bk.below (show Bk (World.drew w2) g7 #[.slice Ap P.length cp] 122 from H72.out) hb0) hb3) hg4 (fun e => by have h1 := (HO2.out.lt _ e.symm).1; have := HLT.out.2.2.1; omega)
        show Kr _ _
        refine hKr.out _ _ ?_ (fun _ => ?_)
        · exact hS.grown hg4 (fun q e => .inl (.inr e.symm.symm))
        clear hKr Kr
        replace hS : Turn (fun q => q = g7 ∨ (Value.slice Ap P.length cp).ownBlock = some q) w2 w4 := hS.grown hg4 (fun q e => .inl (.inr e.symm.symm))
        try simp only [Act.put, List.setIfInBounds_toArray, List.set_cons_zero, List.set_cons_succ]
        refine wpAnyH_ready (rs := [8]) (by kernel_rfl) (by simp) ?_
        refine AllReadyH.cons (o := ⟨none, _, _, _, _, _⟩) rfl (fun Kr hKr => ?_) AllReadyH.nil
        -- operation 8: a step
        refine wp_store_steps (.tmp 2) (.tmp 25) rfl rfl rfl hb4 ?_
        intro w5 hb5 hg5
        show Kr _ _
        refine hKr.out _ _ ?_ (fun _ => ?_)
        · exact hS.grown hg5 (fun q e => .inl (.inl (by injection e with e; exact e.symm)))
        clear hKr Kr
        replace hS : Turn (fun q => q = g7 ∨ (Value.slice Ap P.length cp).ownBlock = some q) w2 w5 := hS.grown hg5 (fun q e => .inl (.inl (by injection e with e; exact e.symm)))
        try simp only [Act.put, List.setIfInBounds_toArray, List.set_cons_zero, List.set_cons_succ]
        refine wpAnyH_done (by kernel_rfl) ?_ _
        go_wp2
        go_end0
        refine ⟨rfl, .inr ⟨HIN.out, _, hb5, HCM.out.turn hS (fun h => by rcases h with h | h; exact HNE.out.2.2.1 h.symm; exact absurd (HO2.out.lt _ h).1 (by have := HLT.out.1; omega)), ?_, HT2.out.trans (hS.mono (fun q e => .inr e)), fun q e => ?_⟩⟩
        · exact ho4.turn ((Turn.refl (fun q => q = g7) w4).grown hg5 (fun q e => .inl (by injection e with e; exact e.symm))) (fun q e h => by have h1 := (ho4.lt q e).1; have h2 : q = g7 := h; have := HLT.out.2.2.1; omega)
        · rcases hv4 with h | h
          · exact .inl (h ▸ e)
          · rw [h] at e; injection e with e; exact .inr (by have := HS2.out; have h5 := hb3.size; have h6 := hb0.size; have h7 : w2.heap.size ≤ V0.heap.size := h6; omega)
      · skip
        -- operation 6: a step
        refine wp_build_step (y := s) _ rfl rfl ?_
        intro w3 g3 hg3 hat3 hb3
        show Kr _ _
        refine hKr.out _ _ ?_ (fun _ => ?_)
        · exact hS.trans (Turn.ofBelow hb3)
        clear hKr Kr
        replace hS : Turn (fun q => q = g7 ∨ (Value.slice Ap P.length cp).ownBlock = some q) w2 w3 := hS.trans (Turn.ofBelow hb3)
        try simp only [Act.put, List.setIfInBounds_toArray, List.set_cons_zero, List.set_cons_succ]
        refine wpAnyH_ready (rs := [0]) (by kernel_rfl) (by simp) ?_
        refine AllReadyH.cons (o := ⟨some 18, _, _, _, _, _⟩) rfl (fun Kr hKr => ?_) AllReadyH.nil
        -- operation 0: a step
        first | have c7x := (Bk.below (Bk.below (show Bk (World.drew w2) g7 #[.slice Ap P.length cp] 122 from H72.out) hb0) hb3).c 0 _ rfl | have c7x := (Bk.below (show Bk (World.drew w2) g7 #[.slice Ap P.length cp] 122 from H72.out) hb0).c 0 _ rfl | have c7x := (show Bk (World.drew w2) g7 #[.slice Ap P.length cp] 122 from H72.out).c 0 _ rfl
        go_simp
        show Kr _ _
        refine hKr.out _ _ ?_ (fun _ => ?_)
        · exact hS
        clear hKr Kr
        try simp only [Act.put, List.setIfInBounds_toArray, List.set_cons_zero, List.set_cons_succ]
        refine wpAnyH_ready (rs := [7]) (by kernel_rfl) (by simp) ?_
        refine AllReadyH.cons (o := ⟨some 25, _, _, _, _, _⟩) rfl (fun Kr hKr => ?_) AllReadyH.nil
        -- operation 7: a step
        refine Rk.wp_append rp_ok _ _ rfl base (.slice Ap P.length cp) P [s] rfl (Rk.Own.below (Rk.Own.below (show RP.Own (World.drew w2) base (.slice Ap P.length cp) P from HO2.out) hb0) hb3) _ 1 1 rfl hat3 rfl (.inr ⟨_, _, rfl⟩) (by have := HP.out; simp; omega) (Nat.le_trans HBA.out (Nat.le_trans HS2.out hS.size)) ?_
        intro v4 w4 ho4 hg4 hv4
        obtain ⟨A4, k4, rfl, hk4, ht4, hs4⟩ := Rk.Own.form rp_ok ho4
        have hb4 := Bk.far (Bk.below (Bk.below (show Bk (World.drew w2) g7 #[.slice Ap P.length cp] 122 from H72.out) hb0) hb3) hg4 (fun e => by have h1 := (HO2.out.lt _ e.symm).1; have := HLT.out.2.2.1; omega)
        show Kr _ _
        refine hKr.out _ _ ?_ (fun _ => ?_)
        · exact hS.grown hg4 (fun q e => .inl (.inr e.symm.symm))
        clear hKr Kr
        replace hS : Turn (fun q => q = g7 ∨ (Value.slice Ap P.length cp).ownBlock = some q) w2 w4 := hS.grown hg4 (fun q e => .inl (.inr e.symm.symm))
        try simp only [Act.put, List.setIfInBounds_toArray, List.set_cons_zero, List.set_cons_succ]
        refine wpAnyH_ready (rs := [8]) (by kernel_rfl) (by simp) ?_
        refine AllReadyH.cons (o := ⟨none, _, _, _, _, _⟩) rfl (fun Kr hKr => ?_) AllReadyH.nil
        -- operation 8: a step
        refine wp_store_steps (.tmp 2) (.tmp 25) rfl rfl rfl hb4 ?_
        intro w5 hb5 hg5
        show Kr _ _
        refine hKr.out _ _ ?_ (fun _ => ?_)
        · exact hS.grown hg5 (fun q e => .inl (.inl (by injection e with e; exact e.symm)))
        clear hKr Kr
        replace hS : Turn (fun q => q = g7 ∨ (Value.slice Ap P.length cp).ownBlock = some q) w2 w5 := hS.grown hg5 (fun q e => .inl (.inl (by injection e with e; exact e.symm)))
        try simp only [Act.put, List.setIfInBounds_toArray, List.set_cons_zero, List.set_cons_succ]
        refine wpAnyH_done (by kernel_rfl) ?_ _
        go_wp2
        go_end0
        refine ⟨rfl, .inr ⟨HIN.out, _, hb5, HCM.out.turn hS (fun h => by rcases h with h | h; exact HNE.out.2.2.1 h.symm; exact absurd (HO2.out.lt _ h).1 (by have := HLT.out.1; omega)), ?_, HT2.out.trans (hS.mono (fun q e => .inr e)), fun q e => ?_⟩⟩
        · exact ho4.turn ((Turn.refl (fun q => q = g7) w4).grown hg5 (fun q e => .inl (by injection e with e; exact e.symm))) (fun q e h => by have h1 := (ho4.lt q e).1; have h2 : q = g7 := h; have := HLT.out.2.2.1; omega)
        · rcases hv4 with h | h
          · exact .inl (h ▸ e)
          · rw [h] at e; injection e with e; exact .inr (by have := HS2.out; have h5 := hb3.size; have h6 := hb0.size; have h7 : w2.heap.size ≤ V0.heap.size := h6; omega)
end Go.Proofs.YtbokhhialfbjcaaGreat
