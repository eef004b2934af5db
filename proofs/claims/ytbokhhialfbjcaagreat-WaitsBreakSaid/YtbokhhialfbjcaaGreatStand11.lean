/-
  How a want stands: whose are against it, and whom it is outside of.
-/
import Derived.Test.YtbokhhialfbjcaaGreatMvA
namespace Go.Proofs.YtbokhhialfbjcaaGreat
set_option maxRecDepth 100000
set_option linter.unusedVariables false
set_option linter.unusedSimpArgs false
open Go.RowKit Go.Shelf Go.Sort

def stC (s : St) : Array Value := #[.int .i64 (s.w.x : Int), .int .i64 s.w.b, .int .i64 s.w.m, .slice s.a s.na s.ca, .slice s.o s.no s.co]
abbrev Sb (W : World) (g : Nat) (s : St) : Prop := Bk W g #[.int .i64 (s.w.x : Int), .int .i64 s.w.b, .int .i64 s.w.m, .slice s.a s.na s.ca, .slice s.o s.no s.co] 141
theorem stand_info : (Tryz.prog.info? 141).map (·.size) = some (#[Value.int .i64 0, .int .i64 0, .int .i64 0, .slice none 0 0, .slice none 0 0] : Array Value).size := by kernel_rfl
theorem stand_under : ∃ fs, Tryz.prog.underlying 141 = some (.struct fs) := ⟨_, Tryz.underlying141⟩
def st0 : St := ⟨⟨0, 0, 0⟩, none, 0, 0, none, 0, 0⟩
section
variable {W V : World} {g : Nat} {s z : St}
theorem wp_store_stand {o : Oper} {a : Act} {K : Act → World → Prop} {Q : Exit → Act → World → Prop} (x u : Operand) (ho : o.op = .store 141 x u) (hx : a.eval x = .pointer (some ⟨g, 0, none⟩)) (hy : a.eval u = stV z)
    (hb : Sb W g s) (h : ∀ w', Sb w' g z → W.grownBy w' (some g) → K (a.put o.dst undef) w') : o.wp Tryz.prog a W K Q :=
  wp_store_row 141 x u ho g _ hx hy 141 _ hb stand_info rfl (by simp [Value.oneCell']) (h _ (setRow_heap _ _ _ _ _ _ hb) (setRow_grown _ _ _))
theorem wpList_store_stand {ops : Array Oper} {rest : List Oper} {o : Oper} {a : Act} {Q : Exit → Act → World → Prop} (hgd : o.guard = none) (x u : Operand) (ho : o.op = .store 141 x u) (hx : a.eval x = .pointer (some ⟨g, 0, none⟩)) (hy : a.eval u = stV z)
    (hb : Sb W g s) (h : ∀ w', Sb w' g z → W.grownBy w' (some g) → wpList Tryz.prog ops Q rest (a.put o.dst undef) w') : wpList Tryz.prog ops Q (o :: rest) a W :=
  wpList_store_row hgd 141 x u ho g _ hx hy 141 _ hb stand_info rfl (by simp [Value.oneCell']) (h _ (setRow_heap _ _ _ _ _ _ hb) (setRow_grown _ _ _))
theorem wp_alloc_stand {o : Oper} {a : Act} {K : Act → World → Prop} {Q : Exit → Act → World → Prop} (ho : o.op = .alloc 141)
    (h : ∀ w' g, W.heap.size ≤ g → Sb w' g st0 → Below W.heap.size W w' → K (a.put o.dst (.pointer (some ⟨g, 0, none⟩))) w') : o.wp Tryz.prog a W K Q := by
  unfold Oper.wp execOp
  simp only [ho]
  go_simp
  exact h _ _ (Nat.le_refl _) (Bk.new W _ _) (below_new W _)
theorem results_stand {fn : Func} {p : Tmp} (hf : fn.results = #[.cell p 141]) (tmps : Array Value) (hp : tmps.getD p undef = .pointer (some ⟨g, 0, none⟩)) (h : Sb W g s) : (results fn tmps).run Tryz.prog W = .ok (stV s) W := by
  obtain ⟨fs, hu⟩ := stand_under
  exact results_cell_row hf tmps W g _ _ (0, 0) _ hp h hu rfl stand_info
end

/-- a standing as it is -/
structure Stn (T : Tr) (L : List Lk) (W : World) (s : St) : Prop where
  sp : Sp s.a
  ra : RI.At W s.a (agL T s.w.x s.w.b s.w.m L)
  ha : s.na = (agL T s.w.x s.w.b s.w.m L).length
  ca : s.na ≤ s.ca
  ro : RI.At W s.o (agL T s.w.x s.w.b 2 L)
  ho : s.no = (agL T s.w.x s.w.b 2 L).length

theorem OwnId.row {w : World} {base : Nat} {v : Value} {l : List Nat} (h : OwnId w base v l) : ∃ A c, v = .slice A l.length c ∧ l.length ≤ c ∧ RI.At w A l ∧ (A = none ∨ ∃ g, A = some ⟨g, 0, none⟩ ∧ base ≤ g ∧ g < w.heap.size) := Rk.Own.form ri_ok h.ri

set_option maxHeartbeats 4000000 in
theorem stand_any (A : Option Addr) (L : List Lk) (n k : Nat) (hN : L.length = n) (hnk : n ≤ k) (hl : LG L) (Ax : Option Addr) (T : Tr) (N cap : Nat) (c : Int) (hNx : T.l.length = N) (hG : Good T) (y : Wn) (hy : MayW y) (w : World) (hL : LkAt w A L) (hT : TxAt w Ax T.l) :
    Calls Tryz.prog 84 #[wnV y, .agg #[.slice A n k], .agg #[.slice Ax N cap, .int .i64 c]] w fun e w' => ∃ s : St, e = .returned (stV s) ∧ s.w = y ∧ Stn T L w' s ∧ (∀ b o, s.a = some ⟨b, o, none⟩ → w.heap.size ≤ b ∧ b < w'.heap.size) ∧ Below w.heap.size w w' := by
  obtain ⟨wa, hwa⟩ : ∃ wa, wa = w.alloc (.cells #[.int .i64 (y.x : Int), .int .i64 y.b, .int .i64 y.m] 52) := ⟨_, rfl⟩
  obtain ⟨wb, hwb⟩ : ∃ wb, wb = wa.alloc (.cells #[.slice A n k] 34) := ⟨_, rfl⟩
  obtain ⟨wc, hwc⟩ : ∃ wc, wc = wb.alloc (.cells #[.slice Ax N cap, .int .i64 c] 31) := ⟨_, rfl⟩
  obtain ⟨w1, hw1⟩ : ∃ w1, w1 = wc.alloc (.cells #[.int .i64 0, .int .i64 0, .int .i64 0, .slice none 0 0, .slice none 0 0] 141) := ⟨_, rfl⟩
  have sa : wa.heap.size = w.heap.size + 1 := by rw [hwa]; simp
  have sb : wb.heap.size = w.heap.size + 1 + 1 := by rw [hwb, World.size_alloc, sa]
  have sc : wc.heap.size = w.heap.size + 1 + 1 + 1 := by rw [hwc, World.size_alloc, sb]
  have b1 : Below w.heap.size w w1 := by rw [hw1, hwc, hwb, hwa]; exact below_two (below_two (below_two (below_new _ _) (below_new _ _)) (below_new _ _)) (below_new _ _)
  have y1 : Wb w1 w.heap.size y := by rw [hw1, hwc, hwb, hwa]; exact (((Bk.new w _ _).below (below_new _ _)).below (below_new _ _)).below (below_new _ _)
  have t1 : Bk w1 (w.heap.size + 1) #[.slice A n k] 34 := by
    have h := Bk.new wa #[.slice A n k] 34
    rw [sa] at h
    rw [hw1, hwc, hwb]; exact (h.below (below_new _ _)).below (below_new _ _)
  have x1 : Bk w1 (w.heap.size + 1 + 1) #[.slice Ax N cap, .int .i64 c] 31 := by
    have h := Bk.new wb #[.slice Ax N cap, .int .i64 c] 31
    rw [sb] at h
    rw [hw1, hwc]; exact h.below (below_new _ _)
  have r1 : Sb w1 (w.heap.size + 1 + 1 + 1) st0 := by
    have h := Bk.new wc #[.int .i64 0, .int .i64 0, .int .i64 0, .slice none 0 0, .slice none 0 0] 141
    rw [sc] at h
    rw [hw1]; exact h
  have HB := Lib.hid b1
  have HY := Lib.hid y1
  have HT1 := Lib.hid t1
  have HX := Lib.hid x1
  have HR := Lib.hid r1
  have HAG := Lib.hid (fun V (hV : Since w1 V) md (hmd : md = 1 ∨ md = 2) => against_any A L n k hN hnk hl Ax T N cap c hNx hG (y.x : Int) y.b md hmd V (hL.below (b1.trans (Below.mono hV b1.size))) (hT.below (b1.trans (Below.mono hV b1.size))))
  have e0 : ∀ V, Since w1 V → V.cell? ⟨w.heap.size, 0, none⟩ = some (.int .i64 (y.x : Int)) := fun V hV => (HY.out.below hV).c 0 _ rfl
  have e1 : ∀ V, Since w1 V → V.cell? ⟨w.heap.size, 1, none⟩ = some (.int .i64 y.b) := fun V hV => (HY.out.below hV).c 1 _ rfl
  have e2 : ∀ V, Since w1 V → V.cell? ⟨w.heap.size, 2, none⟩ = some (.int .i64 y.m) := fun V hV => (HY.out.below hV).c 2 _ rfl
  have e3 : ∀ V, Since w1 V → V.cell? ⟨w.heap.size + 1, 0, none⟩ = some (.slice A n k) := fun V hV => (HT1.out.below hV).c 0 _ rfl
  have e4 : ∀ V, Since w1 V → V.cell? ⟨w.heap.size + 1 + 1, 0, none⟩ = some (.slice Ax N cap) := fun V hV => (HX.out.below hV).c 0 _ rfl
  have e5 : ∀ V, Since w1 V → V.cell? ⟨w.heap.size + 1 + 1, 1, none⟩ = some (.int .i64 c) := fun V hV => (HX.out.below hV).c 1 _ rfl
  have HMD := Lib.hid hy.m
  have HLT := Lib.hid r1.lt
  clear hN hnk hl hNx hG hL hT b1 y1 t1 x1 r1 sa sb sc hy
  unfold wnV
  go_enter Tryz.func84, Tryz.ntmps84
  go_upto_region 1 with fail
  rw [← hwa, ← hwb, ← hwc, ← hw1]
  clear hwa hwb hwc hw1 wa wb wc
  go_cut [7] from 8 to 18 (fun t7 wc => ∃ (g : Nat) (A2 : Option Addr) (c2 : Nat), t7 = .pointer (some ⟨g, 0, none⟩) ∧ w1.heap.size ≤ g ∧ (agL T y.x y.b y.m L).length ≤ c2 ∧ Hid (Sb wc g ⟨y, A2, (agL T y.x y.b y.m L).length, c2, none, 0, 0⟩) ∧ Hid (RI.At wc A2 (agL T y.x y.b y.m L)) ∧ Hid (∀ b o, A2 = some ⟨b, o, none⟩ → w1.heap.size ≤ b ∧ b ≠ g ∧ b < wc.heap.size) ∧ Hid (Sp A2) ∧ Hid (Below w1.heap.size w1 wc))
  case first =>
    refine wp_region_since (by kernel_rfl) ?_
    have hS : Since w1 (World.drew w1) := (Below.refl _ _).drew
    refine wpAnyH_take (i := 0) (oi := ⟨some 8, _, _, _, _, _⟩) (v := ?_) rfl (by kernel_rfl) (by kernel_rfl) (by kernel_rfl) (fun _ _ _ h => h) (Or.inl ⟨by rfl, ?_⟩) hS ?_
    rotate_left
    · intro W hW; go_simp; with_reducible rfl
    try simp only [Act.put, List.setIfInBounds_toArray, List.set_cons_zero, List.set_cons_succ]
    refine wpAnyH_take (i := 1) (oi := ⟨some 9, _, _, _, _, _⟩) (v := ?_) rfl (by kernel_rfl) (by kernel_rfl) (by kernel_rfl) (fun _ _ _ h => h) (Or.inl ⟨by rfl, ?_⟩) hS ?_
    rotate_left
    · intro W hW; go_simp; with_reducible rfl
    try simp only [Act.put, List.setIfInBounds_toArray, List.set_cons_zero, List.set_cons_succ]
    refine wpAnyH_take (i := 2) (oi := ⟨some 10, _, _, _, _, _⟩) (v := ?_) rfl (by kernel_rfl) (by kernel_rfl) (by kernel_rfl) (fun _ _ _ h => h) (Or.inl ⟨by rfl, ?_⟩) hS ?_
    rotate_left
    · intro W hW; go_simp; with_reducible rfl
    try simp only [Act.put, List.setIfInBounds_toArray, List.set_cons_zero, List.set_cons_succ]
    refine wpAnyH_take (i := 3) (oi := ⟨some 11, _, _, _, _, _⟩) (v := ?_) rfl (by kernel_rfl) (by kernel_rfl) (by kernel_rfl) (fun _ _ _ h => h) (Or.inl ⟨by rfl, ?_⟩) hS ?_
    rotate_left
    · intro W hW; go_simp; with_reducible rfl
    try simp only [Act.put, List.setIfInBounds_toArray, List.set_cons_zero, List.set_cons_succ]
    refine wpAnyH_take (i := 4) (oi := ⟨some 12, _, _, _, _, _⟩) (v := ?_) rfl (by kernel_rfl) (by kernel_rfl) (by kernel_rfl) (fun _ _ _ h => h) (Or.inl ⟨by rfl, ?_⟩) hS ?_
    rotate_left
    · intro W hW; go_simp; with_reducible rfl
    try simp only [Act.put, List.setIfInBounds_toArray, List.set_cons_zero, List.set_cons_succ]
    refine wpAnyH_take (i := 5) (oi := ⟨some 13, _, _, _, _, _⟩) (v := ?_) rfl (by kernel_rfl) (by kernel_rfl) (by kernel_rfl) (fun _ _ _ h => h) (Or.inl ⟨by rfl, ?_⟩) hS ?_
    rotate_left
    · intro W hW; go_simp; with_reducible rfl
    try simp only [Act.put, List.setIfInBounds_toArray, List.set_cons_zero, List.set_cons_succ]
    refine wpAnyH_take (i := 6) (oi := ⟨some 14, _, _, _, _, _⟩) (v := ?_) rfl (by kernel_rfl) (by kernel_rfl) (by kernel_rfl) (fun _ _ _ h => h) (Or.inl ⟨by rfl, ?_⟩) hS ?_
    rotate_left
    · intro W hW; go_simp; with_reducible rfl
    try simp only [Act.put, List.setIfInBounds_toArray, List.set_cons_zero, List.set_cons_succ]
    refine wpAnyH_take (i := 7) (oi := ⟨some 15, _, _, _, _, _⟩) (v := ?_) rfl (by kernel_rfl) (by kernel_rfl) (by kernel_rfl) (fun _ _ _ h => h) (Or.inl ⟨by rfl, ?_⟩) hS ?_
    rotate_left
    · intro W hW; go_simp; with_reducible rfl
    try simp only [Act.put, List.setIfInBounds_toArray, List.set_cons_zero, List.set_cons_succ]
    refine wpAnyH_take (i := 8) (oi := ⟨some 16, _, _, _, _, _⟩) (v := ?_) rfl (by kernel_rfl) (by kernel_rfl) (by kernel_rfl) (fun _ _ _ h => h) (Or.inl ⟨by rfl, ?_⟩) hS ?_
    rotate_left
    · intro W hW; go_simp; with_reducible rfl
    try simp only [Act.put, List.setIfInBounds_toArray, List.set_cons_zero, List.set_cons_succ]
    refine wpAnyH_ready (rs := [9, 11]) (by kernel_rfl) (by simp) ?_
    refine AllReadyH.cons (o := ⟨some 17, _, _, _, _, _⟩) rfl (fun Kr hKr => ?_) (AllReadyH.cons (o := ⟨some 7, _, _, _, _, _⟩) rfl (fun Kr hKr => ?_) AllReadyH.nil)
    · skip
      -- operation 9: a call
      go_simp
      have hV2 := Below.size hS
      refine (HAG.out _ hS y.m HMD.out).mono ?_
      rintro e w2 ⟨v2, rfl, ho2, hb2⟩
      obtain ⟨A2, c2, rfl, hc2, hat2, hsp2⟩ := ho2.row
      show Kr _ _
      refine hKr.out _ _ ?_ (fun _ => ?_)
      · exact since_trans hS hb2
      clear hKr Kr
      replace hS : Since w1 w2 := since_trans hS hb2
      try simp only [Act.put, List.setIfInBounds_toArray, List.set_cons_zero, List.set_cons_succ]
      refine wpAnyH_take (i := 10) (oi := ⟨some 18, _, _, _, _, _⟩) (v := ?_) rfl (by kernel_rfl) (by kernel_rfl) (by kernel_rfl) (fun _ _ _ h => h) (Or.inl ⟨by rfl, ?_⟩) hS ?_
      rotate_left
      · intro W hW; go_simp; with_reducible rfl
      try simp only [Act.put, List.setIfInBounds_toArray, List.set_cons_zero, List.set_cons_succ]
      refine wpAnyH_ready (rs := [11]) (by kernel_rfl) (by simp) ?_
      refine AllReadyH.cons (o := ⟨some 7, _, _, _, _, _⟩) rfl (fun Kr hKr => ?_) AllReadyH.nil
      -- operation 11: a step
      refine wp_alloc_stand rfl ?_
      intro w3 g3 hg3 hk3 hb3
      have hG3 : w1.heap.size ≤ g3 := Nat.le_trans (Below.size hS) hg3
      show Kr _ _
      refine hKr.out _ _ ?_ (fun _ => ?_)
      · exact since_trans hS hb3
      clear hKr Kr
      replace hS : Since w1 w3 := since_trans hS hb3
      try simp only [Act.put, List.setIfInBounds_toArray, List.set_cons_zero, List.set_cons_succ]
      refine wpAnyH_ready (rs := [12]) (by kernel_rfl) (by simp) ?_
      refine AllReadyH.cons (o := ⟨none, _, _, _, _, _⟩) rfl (fun Kr hKr => ?_) AllReadyH.nil
      -- operation 12: a step
      refine wp_store_stand (z := ⟨y, A2, (agL T y.x y.b y.m L).length, c2, none, 0, 0⟩) (.tmp 7) (.tmp 18) rfl rfl rfl (by first | exact hk3 | exact Bk.below hk3 hb2) ?_
      intro w4 hk4 hg4
      show Kr _ _
      refine hKr.out _ _ ?_ (fun _ => ?_)
      · exact Below.grown hS hg4 hS.size (fun q e => by injection e with e; omega)
      clear hKr Kr
      replace hS : Since w1 w4 := Below.grown hS hg4 hS.size (fun q e => by injection e with e; omega)
      try simp only [Act.put, List.setIfInBounds_toArray, List.set_cons_zero, List.set_cons_succ]
      refine wpAnyH_done (by kernel_rfl) ?_ _
      have hne : ∀ b o, A2 = some ⟨b, o, none⟩ → w1.heap.size ≤ b ∧ b ≠ g3 ∧ b < w4.heap.size := by
        intro b o e
        rcases hsp2 with h | ⟨g, h, h2, h3⟩
        · rw [h] at e; cases e
        · rw [h] at e
          injection e with e
          injection e with e1
          have h4 := hk3.lt
          have h6 := hg4.size
          have h7 := hb3.size
          omega
      have T4 := (Turn.refl (fun q => q = g3) _).grown hg4 (fun q e => .inl (by injection e with e; exact e.symm))
      have hat4 : RI.At w4 A2 (agL T y.x y.b y.m L) := by first | exact (hat2.below hb3).turn T4 (fun b o e => .inr (hne b o e).2.1) | exact hat2.turn T4 (fun b o e => .inr (hne b o e).2.1)
      go_wp2_with fail
      go_meet
      case rel => exact ⟨g3, A2, c2, rfl, hG3, hc2, hk4, hat4, hne, hsp2.imp id (fun ⟨g, e, _⟩ => ⟨g, 0, e⟩), hS⟩
    · skip
      -- operation 11: a step
      refine wp_alloc_stand rfl ?_
      intro w3 g3 hg3 hk3 hb3
      have hG3 : w1.heap.size ≤ g3 := Nat.le_trans (Below.size hS) hg3
      show Kr _ _
      refine hKr.out _ _ ?_ (fun _ => ?_)
      · exact since_trans hS hb3
      clear hKr Kr
      replace hS : Since w1 w3 := since_trans hS hb3
      try simp only [Act.put, List.setIfInBounds_toArray, List.set_cons_zero, List.set_cons_succ]
      refine wpAnyH_ready (rs := [9]) (by kernel_rfl) (by simp) ?_
      refine AllReadyH.cons (o := ⟨some 17, _, _, _, _, _⟩) rfl (fun Kr hKr => ?_) AllReadyH.nil
      -- operation 9: a call
      go_simp
      have hV2 := Below.size hS
      refine (HAG.out _ hS y.m HMD.out).mono ?_
      rintro e w2 ⟨v2, rfl, ho2, hb2⟩
      obtain ⟨A2, c2, rfl, hc2, hat2, hsp2⟩ := ho2.row
      show Kr _ _
      refine hKr.out _ _ ?_ (fun _ => ?_)
      · exact since_trans hS hb2
      clear hKr Kr
      replace hS : Since w1 w2 := since_trans hS hb2
      try simp only [Act.put, List.setIfInBounds_toArray, List.set_cons_zero, List.set_cons_succ]
      refine wpAnyH_take (i := 10) (oi := ⟨some 18, _, _, _, _, _⟩) (v := ?_) rfl (by kernel_rfl) (by kernel_rfl) (by kernel_rfl) (fun _ _ _ h => h) (Or.inl ⟨by rfl, ?_⟩) hS ?_
      rotate_left
      · intro W hW; go_simp; with_reducible rfl
      try simp only [Act.put, List.setIfInBounds_toArray, List.set_cons_zero, List.set_cons_succ]
      refine wpAnyH_ready (rs := [12]) (by kernel_rfl) (by simp) ?_
      refine AllReadyH.cons (o := ⟨none, _, _, _, _, _⟩) rfl (fun Kr hKr => ?_) AllReadyH.nil
      -- operation 12: a step
      refine wp_store_stand (z := ⟨y, A2, (agL T y.x y.b y.m L).length, c2, none, 0, 0⟩) (.tmp 7) (.tmp 18) rfl rfl rfl (by first | exact hk3 | exact Bk.below hk3 hb2) ?_
      intro w4 hk4 hg4
      show Kr _ _
      refine hKr.out _ _ ?_ (fun _ => ?_)
      · exact Below.grown hS hg4 hS.size (fun q e => by injection e with e; omega)
      clear hKr Kr
      replace hS : Since w1 w4 := Below.grown hS hg4 hS.size (fun q e => by injection e with e; omega)
      try simp only [Act.put, List.setIfInBounds_toArray, List.set_cons_zero, List.set_cons_succ]
      refine wpAnyH_done (by kernel_rfl) ?_ _
      have hne : ∀ b o, A2 = some ⟨b, o, none⟩ → w1.heap.size ≤ b ∧ b ≠ g3 ∧ b < w4.heap.size := by
        intro b o e
        rcases hsp2 with h | ⟨g, h, h2, h3⟩
        · rw [h] at e; cases e
        · rw [h] at e
          injection e with e
          injection e with e1
          have h4 := hk3.lt
          have h6 := hg4.size
          have h7 := hb3.size
          omega
      have T4 := (Turn.refl (fun q => q = g3) _).grown hg4 (fun q e => .inl (by injection e with e; exact e.symm))
      have hat4 : RI.At w4 A2 (agL T y.x y.b y.m L) := by first | exact (hat2.below hb3).turn T4 (fun b o e => .inr (hne b o e).2.1) | exact hat2.turn T4 (fun b o e => .inr (hne b o e).2.1)
      go_wp2_with fail
      go_meet
      case rel => exact ⟨g3, A2, c2, rfl, hG3, hc2, hk4, hat4, hne, hsp2.imp id (fun ⟨g, e, _⟩ => ⟨g, 0, e⟩), hS⟩
  case rest =>
    obtain ⟨g, A2, c2, rfl, hg, hc2, HK, HAT, HNE, HSPP, HBC⟩ := hcut
    have hgw := HK.out.lt
    have x0 := HK.out.c 0 _ rfl
    have x1 := HK.out.c 1 _ rfl
    have x2 := HK.out.c 2 _ rfl
    have x3 := HK.out.c 3 _ rfl
    have x4 := HK.out.c 4 _ rfl
    have f4 := HK.out.fr 4
    have e2w := e2 wc HBC.out
    obtain ⟨w5, hw5⟩ : ∃ w5, w5 = wc.setCell ⟨g, 4, none⟩ (.slice A2 (agL T y.x y.b y.m L).length c2) := ⟨_, rfl⟩
    have HK5 := Lib.hid (show Sb w5 g ⟨y, A2, (agL T y.x y.b y.m L).length, c2, A2, (agL T y.x y.b y.m L).length, c2⟩ by rw [hw5]; exact heap_setCell_same _ _ _ _ _ _ HK.out)
    have T5 : Turn (fun q => q = g) wc w5 := by rw [hw5]; exact (Turn.refl _ _).setCell _ _ (.inl rfl)
    have HSZ5 := Lib.hid T5.size
    have HAT5 := Lib.hid (HAT.out.turn T5 (fun b o e => .inr (HNE.out b o e).2.1))
    have HB5 := Lib.hid (HBC.out.trans (T5.below (B := w1.heap.size) (fun q e => by omega) HBC.out.size))
    have e25 := e2 w5 HB5.out
    have hmd := HMD.out
    rcases hmd with hm | hm
    · rw [hm] at e25 e2w HK HK5 HAT HAT5 x2 hw5 ⊢
      have HR5 := Lib.hid (HR.out.below HB5.out)
      have a0 := e0 w5 HB5.out
      have a1 := e1 w5 HB5.out
      have a3 := e3 w5 HB5.out
      have a4 := e4 w5 HB5.out
      have a5 := e5 w5 HB5.out
      have HNE5 := Lib.hid (show g < w5.heap.size from HK5.out.lt)
      clear T5 e0 e1 e3 e4 e5 e2
      go_upto_region 4 with fail
      rw [← hw5]
      clear hw5 x0 x1 x2 x3 x4 f4 hgw
      go_wp2_with fail
      refine (HAG.out w5 HB5.out 2 (.inr rfl)).mono ?_
      rintro e w6 ⟨v6, rfl, ho6, hb6⟩
      obtain ⟨A6, c6, rfl, hc6, hat6, hsp6⟩ := ho6.row
      have HK6 := Lib.hid (HK5.out.below hb6)
      have x4 := HK6.out.c 4 _ rfl
      have f4 := HK6.out.fr 4
      obtain ⟨w7, hw7⟩ : ∃ w7, w7 = w6.setCell ⟨g, 4, none⟩ (.slice A6 (agL T y.x y.b 2 L).length c6) := ⟨_, rfl⟩
      have HK7 := Lib.hid (show Sb w7 g ⟨y, A2, (agL T y.x y.b 1 L).length, c2, A6, (agL T y.x y.b 2 L).length, c6⟩ by rw [hw7]; exact heap_setCell_same _ _ _ _ _ _ HK6.out)
      have T7 : Turn (fun q => q = g) w6 w7 := by rw [hw7]; exact (Turn.refl _ _).setCell _ _ (.inl rfl)
      have hne6 : ∀ b o, A6 = some ⟨b, o, none⟩ → w5.heap.size ≤ b := fun b o e => by
        rcases hsp6 with h | ⟨q, h, h2, _⟩
        · rw [h] at e; cases e
        · rw [h] at e; injection e with e; injection e with e1; omega
      have HAT7 := Lib.hid ((HAT5.out.below hb6).turn T7 (fun b o e => .inr (HNE.out b o e).2.1))
      have HO7 := Lib.hid (hat6.turn T7 (fun b o e => .inr (fun h => by have h1 := hne6 b o e; have h2 := HNE5.out; have h3 : b = g := h; omega)))
      have HN6 := Lib.hid hne6
      have HR7 := Lib.hid ((HR5.out.below hb6).turn T7 (fun h => by have := HLT.out; omega))
      have HB7 := Lib.hid ((HB5.out.trans (hb6.mono HB5.out.size)).trans (T7.below (B := w1.heap.size) (fun q e => by omega) (HB5.out.trans (hb6.mono HB5.out.size)).size))
      have HSZ7 := Lib.hid (Nat.le_trans hb6.size T7.size)
      have y0 := HK7.out.c 0 _ rfl
      have y1 := HK7.out.c 1 _ rfl
      have y2 : w7.cell? ⟨g, 2, none⟩ = some (.int .i64 1) := by have := HK7.out.c 2 _ rfl; rwa [hm] at this
      have y3 := HK7.out.c 3 _ rfl
      have y4 := HK7.out.c 4 _ rfl
      clear ho6 hb6 hat6 hsp6 a0 a1 a3 a4 a5 T7 hne6 hc6
      go_upto_region 5 with fail
      rw [← hw7]
      clear hw7 x4 f4
      go_wp2_with (first | (refine wpList_store_stand (z := ⟨y, A2, (agL T y.x y.b 1 L).length, c2, A6, (agL T y.x y.b 2 L).length, c6⟩) rfl _ _ rfl rfl (by unfold stV; rw [hm]; rfl) HR7.out ?_; intro w8 hk8 hg8; have HK8 := Lib.hid hk8; have HG8 := Lib.hid hg8; clear hk8 hg8) | fail)
      refine bodyPost_ret (results_stand rfl _ rfl HK8.out) rfl ?_
      have T8 : Turn (fun q => q = w.heap.size + 1 + 1 + 1) w7 w8 := (Turn.refl _ _).grown HG8.out (fun q e => .inl (by injection e with e; exact e.symm))
      have hlt := HLT.out
      refine ⟨_, rfl, rfl, ⟨HSPP.out, by show RI.At w8 A2 (agL T y.x y.b y.m L); rw [hm]; exact HAT7.out.turn T8 (fun b o e => .inr (fun h => by have := (HNE.out b o e).1; omega)), by show _ = (agL T y.x y.b y.m L).length; rw [hm], (by show (agL T y.x y.b _ L).length ≤ c2; rw [← hm]; exact hc2), HO7.out.turn T8 (fun b o e => .inr (fun h => by have h1 := HN6.out b o e; have h2 := HB5.out.size; omega)), rfl⟩, fun b o e => by have h1 := HNE.out b o e; have h2 := HB.out.size; have h3 := HSZ5.out; have h4 := HSZ7.out; have h5 := T8.size; omega, (HB.out.trans (HB7.out.mono HB.out.size)).trans (T8.below (B := w.heap.size) (fun q e => by omega) (HB.out.trans (HB7.out.mono HB.out.size)).size)⟩
    · rw [hm] at e25 e2w HK HK5 HAT HAT5 x2 hw5 ⊢
      have HR5 := Lib.hid (HR.out.below HB5.out)
      have y0 := HK5.out.c 0 _ rfl
      have y1 := HK5.out.c 1 _ rfl
      have y2 : w5.cell? ⟨g, 2, none⟩ = some (.int .i64 2) := by have := HK5.out.c 2 _ rfl; rwa [hm] at this
      have y3 := HK5.out.c 3 _ rfl
      have y4 := HK5.out.c 4 _ rfl
      clear T5
      go_upto_region 5 with fail
      rw [← hw5]
      clear hw5 x0 x1 x2 x3 x4 f4 hgw e0 e1 e2 e3 e4 e5
      go_wp2_with (first | (refine wpList_store_stand (z := ⟨y, A2, (agL T y.x y.b 2 L).length, c2, A2, (agL T y.x y.b 2 L).length, c2⟩) rfl _ _ rfl rfl (by unfold stV; rw [hm]; rfl) HR5.out ?_; intro w8 hk8 hg8; have HK8 := Lib.hid hk8; have HG8 := Lib.hid hg8; clear hk8 hg8) | fail)
      refine bodyPost_ret (results_stand rfl _ rfl HK8.out) rfl ?_
      have T8 : Turn (fun q => q = w.heap.size + 1 + 1 + 1) w5 w8 := (Turn.refl _ _).grown HG8.out (fun q e => .inl (by injection e with e; exact e.symm))
      have hlt := HLT.out
      have h8 := HAT5.out.turn T8 (fun b o e => .inr (fun h => by have := (HNE.out b o e).1; omega))
      refine ⟨_, rfl, rfl, ⟨HSPP.out, by show RI.At w8 A2 (agL T y.x y.b y.m L); rw [hm]; exact h8, by show _ = (agL T y.x y.b y.m L).length; rw [hm], (by show (agL T y.x y.b _ L).length ≤ c2; rw [← hm]; exact hc2), h8, rfl⟩, fun b o e => by have h1 := HNE.out b o e; have h2 := HB.out.size; have h3 := HSZ5.out; have h5 := T8.size; omega, (HB.out.trans (HB5.out.mono HB.out.size)).trans (T8.below (B := w.heap.size) (fun q e => by omega) (HB.out.trans (HB5.out.mono HB.out.size)).size)⟩
end Go.Proofs.YtbokhhialfbjcaaGreat
