/-
  Two notes as one: the program's Merge; all that the program is to answer.
-/
import Derived.Test.YtjpnihmijnpjcaaQj
import Derived.Test.YtjpnihmijnpjcaaQg
import Derived.Deep.CutRange
namespace Go.Proofs.Ytjpnihmijnpjcaa
set_option maxRecDepth 100000
set_option linter.unusedVariables false
set_option linter.unusedSimpArgs false
open Go.RowKit Wm Nn

set_option maxHeartbeats 1000000 in
theorem pdone_any (x : Nt) (r : Nr) (w : World) (hx : NtAt w x r) (hsm : SmallN x) : Calls Try.prog 34 #[ntV x r] w fun e w' => e = .returned (.bool (sane x && decide (x.kind = 1))) ∧ Below w.heap.size w w' := by
  obtain ⟨A1, k1, c1, B1, l1, d1, e1⟩ := r
  obtain ⟨HX, HB, HN⟩ := nt_boxed w x _ hx 32
  clear hx
  unfold ntV
  obtain ⟨C, hC⟩ : ∃ C, C = ntC x ⟨A1, k1, c1, B1, l1, d1, e1⟩ := ⟨_, rfl⟩
  rw [← hC] at HX HB HN ⊢
  clear hC
  have HSM := Lib.hid hsm
  clear hsm
  obtain ⟨o, ho⟩ : ∃ o, o = (sane x && decide (x.kind = 1)) := ⟨_, rfl⟩
  rw [← ho]
  have HO := Lib.hid ho
  clear ho
  go_enter Try.func34, Try.ntmps34
  go_upto_region 1 with fail
  generalize w.alloc (.cells C 32) = w0 at *
  have a0 := HX.out.c0
  have a1 := HX.out.c1
  have a2 := HX.out.c2
  have a3 := HX.out.c3
  simp only at a0 a1 a2 a3
  go_wp2_with fail
  refine (psane_any x ⟨A1, k1, c1, B1, l1, d1, e1⟩ w0 HN.out HSM.out).mono ?_
  rintro e w1 ⟨rfl, hb1⟩
  have HB1 := Lib.hid (HB.out.trans (hb1.mono HB.out.size))
  have HX1 := Lib.hid (HX.out.below hb1)
  clear hb1 a0 a1 a2 a3
  obtain ⟨s, hs⟩ : ∃ s, s = sane x := ⟨_, rfl⟩
  rw [← hs] at HO ⊢
  clear hs
  cases s
  · go_wp2_with fail
    go_ret
    exact ⟨by rw [HO.out]; rfl, HB1.out⟩
  · have a0 := HX1.out.c0
    by_cases hk : x.kind = 1
    · obtain ⟨p1, p2⟩ := ne_yes hk
      have HO2 : Hid (o = true) := Lib.hid (by rw [HO.out]; simp [hk])
      clear hk
      go_wp2_with fail
      go_ret
      exact ⟨by rw [HO2.out]; rfl, HB1.out⟩
    · obtain ⟨p1, p2⟩ := ne_no hk
      have HO2 : Hid (o = false) := Lib.hid (by rw [HO.out]; simp [hk])
      clear hk
      go_wp2_with fail
      go_ret
      exact ⟨by rw [HO2.out]; rfl, HB1.out⟩

/-- two slices in a literal -/
structure TwoS (w : World) (g : Nat) (A : Option Addr) (n c : Nat) (B : Option Addr) (m d : Nat) : Prop where
  lt : g < w.heap.size
  c0 : w.cell? ⟨g, 0, none⟩ = some (.slice A n c)
  c1 : w.cell? ⟨g, 1, none⟩ = some (.slice B m d)
theorem TwoS.below {w V : World} {g : Nat} {A B : Option Addr} {n c m d : Nat} (h : TwoS w g A n c B m d) (hb : Below w.heap.size w V) : TwoS V g A n c B m d :=
  ⟨Nat.lt_of_lt_of_le h.lt hb.size, (hb.cell (p := ⟨g, 0, none⟩) h.lt).trans h.c0, (hb.cell (p := ⟨g, 1, none⟩) h.lt).trans h.c1⟩
theorem wp_build_two {W : World} {o : Oper} {a : Act} {K : Act → World → Prop} {Q : Exit → Act → World → Prop} (x y : Operand) (ho : o.op = .buildSlice 91 2 #[(0, x), (1, y)]) (A : Option Addr) (n c : Nat) (B : Option Addr) (m d : Nat) (hx : a.eval x = .slice A n c) (hy : a.eval y = .slice B m d)
    (h : ∀ w' h', TwoS w' h' A n c B m d → Below W.heap.size W w' → K (a.put o.dst (.slice (some ⟨h', 0, none⟩) 2 2)) w') : o.wp Try.prog a W K Q := by
  have hk := h (W.alloc (.cells #[.slice A n c, .slice B m d] 23)) W.heap.size ⟨by simp, cell_new W _ _ 0, cell_new W _ _ 1⟩ (below_new W _)
  clear h
  unfold Oper.wp execOp
  simp only [ho, List.map_toArray, List.map_cons, List.map_nil, hx, hy]
  go_simp
  exact hk
theorem ImAt.offNew {w : World} {A : Option Addr} {n c z : Nat} {l : List Im} {rs : List Ir} (h : ImAt w A n c l rs) (hz : w.heap.size ≤ z) : OffI A n rs z := by
  have h2 : NtAt w ⟨0, 0, l, []⟩ ⟨A, n, c, none, 0, 0, rs⟩ := ⟨h, (nt_zero w).op, by simp [okI], by simp [okI]⟩
  exact ⟨(h2.offNew hz).1, (h2.offNew hz).2.2⟩

theorem op_own {W : World} {base : Nat} {A : Option Addr} {n c : Nat} {la lb : List Od} (h : RO.Own W base (.slice A n c) (la ++ lb)) (ha : ∀ (i : Nat) (x : Od), la[i]? = some x → okI x.c ∧ okI x.b) (hb : ∀ (i : Nat) (x : Od), lb[i]? = some x → okI x.c ∧ okI x.b) : OpAt W A n c (la ++ lb) := by
  obtain ⟨A', c', e, hc, hat, hf⟩ := h.form ro_ok
  injection e with e1 e2 e3
  subst e1 e2 e3
  refine ⟨hat, rfl, hc, ?_, fun i x hx => ?_⟩
  · rcases hf with h | ⟨g, h, _⟩
    · exact .inl h
    · exact .inr ⟨g, 0, h⟩
  · rw [List.getElem?_append] at hx
    split at hx
    · exact ha i x hx
    · exact hb _ x hx

set_option maxHeartbeats 2000000 in
theorem pmerge_no (x y : Nt) (r q : Nr) (w : World) (hx : NtAt w x r) (hy : NtAt w y q) (hsx : SmallN x) (hsy : SmallN y) (hno : ¬ (San x ∧ San y ∧ x.kind = 1 ∧ y.kind = 1)) : Calls Try.prog 16 #[ntV x r, ntV y q] w (MergeOut w Nt.zero 1 r q) := by
  obtain ⟨A1, k1, c1, B1, l1, d1, e1⟩ := r
  obtain ⟨A2, k2, c2, B2, l2, d2, e2⟩ := q
  obtain ⟨HX, HY, HZ, HB, HNX, HNY⟩ := mer_boxed w x y _ _ hx hy 32
  have HSX := Lib.hid hsx
  have HSY := Lib.hid hsy
  have HNO : Hid ((sane x && decide (x.kind = 1)) = true → (sane y && decide (y.kind = 1)) = false) := Lib.hid (fun h => by
    rw [Bool.and_eq_true] at h
    have h1 : San x := by
      by_cases h1 : San x
      · exact h1
      · have h5 := h.1
        rw [sane_no h1] at h5
        cases h5
    have h2 := of_decide_eq_true h.2
    rw [Bool.and_eq_false_iff]
    by_cases h3 : San y
    · right
      exact decide_eq_false (fun h4 => hno ⟨h1, h3, h2, h4⟩)
    · left
      exact sane_no h3)
  clear hx hy hno hsx hsy
  unfold ntV
  obtain ⟨C1, hC1⟩ : ∃ C1, C1 = ntC x ⟨A1, k1, c1, B1, l1, d1, e1⟩ := ⟨_, rfl⟩
  obtain ⟨C2, hC2⟩ : ∃ C2, C2 = ntC y ⟨A2, k2, c2, B2, l2, d2, e2⟩ := ⟨_, rfl⟩
  rw [← hC1, ← hC2] at HX HY HZ HB HNX HNY ⊢
  clear hC1 hC2
  go_enter Try.func16, Try.ntmps16
  go_upto_region 1 with fail
  have hC : (#[.int .i64 0, .int .i64 0, .slice none 0 0, .slice none 0 0] : Array Value) = ntC .zero nr0 := rfl
  rw [hC]
  clear hC
  generalize ((w.alloc (.cells C1 32)).alloc (.cells C2 32)).alloc (.cells (ntC .zero nr0) 32) = w0 at *
  have a0 := HX.out.c0
  have a1 := HX.out.c1
  have a2 := HX.out.c2
  have a3 := HX.out.c3
  simp only at a2 a3
  go_wp2_with fail
  refine (pdone_any x ⟨A1, k1, c1, B1, l1, d1, e1⟩ w0 HNX.out HSX.out).mono ?_
  rintro e w1 ⟨rfl, hb1⟩
  have HB1 := Lib.hid hb1
  clear hb1 a0 a1 a2 a3
  obtain ⟨s, hs⟩ : ∃ s, s = (sane x && decide (x.kind = 1)) := ⟨_, rfl⟩
  rw [← hs] at HNO ⊢
  clear hs
  cases s
  · have HZ1 := Lib.hid (HZ.out.below HB1.out)
    go_wp2_with (refine wpList_store_bk ty_note HZ1.out rfl rfl (.tmp 4) (.tmp 15) rfl rfl (ntC .zero nr0) rfl rfl (ntC_one _ _) ?_; intro w5 hk5 hg5)
    exact bodyPost_ret (results_bk2 ty_note rfl _ rfl _ rfl hk5 rfl) rfl ⟨nr0, rfl, nt_zero _, (HB.out.trans (HB1.out.mono HB.out.size)).grown hg5 (Nat.le_trans HB.out.size HB1.out.size) (fun j hj => by injection hj with hj; omega), fun z _ _ _ => nr0_off z⟩
  · have HY1 := Lib.hid (HY.out.below HB1.out)
    have a0 := HY1.out.c0
    have a1 := HY1.out.c1
    have a2 := HY1.out.c2
    have a3 := HY1.out.c3
    simp only at a2 a3
    go_wp2_with fail
    refine (pdone_any y ⟨A2, k2, c2, B2, l2, d2, e2⟩ w1 (HNY.out.below HB1.out) HSY.out).mono ?_
    rintro e w2 ⟨rfl, hb2⟩
    rw [HNO.out trivial]
    have HB2 := Lib.hid (HB1.out.trans (hb2.mono HB1.out.size))
    have HZ2 := Lib.hid (HZ.out.below HB2.out)
    clear hb2 a0 a1 a2 a3 HY1
    go_wp2_with (refine wpList_store_bk ty_note HZ2.out rfl rfl (.tmp 4) (.tmp 15) rfl rfl (ntC .zero nr0) rfl rfl (ntC_one _ _) ?_; intro w5 hk5 hg5)
    exact bodyPost_ret (results_bk2 ty_note rfl _ rfl _ rfl hk5 rfl) rfl ⟨nr0, rfl, nt_zero _, (HB.out.trans (HB2.out.mono HB.out.size)).grown hg5 (Nat.le_trans HB.out.size HB2.out.size) (fun j hj => by injection hj with hj; omega), fun z _ _ _ => nr0_off z⟩

set_option maxHeartbeats 4000000 in
theorem pmerge_yes (x y : Nt) (r q : Nr) (w : World) (hx : NtAt w x r) (hy : NtAt w y q) (hsx : SmallN x) (hsy : SmallN y) (hyes : San x ∧ San y ∧ x.kind = 1 ∧ y.kind = 1) : Calls Try.prog 16 #[ntV x r, ntV y q] w (MergeOut w (merN x y) (merE x y) r q) := by
  obtain ⟨A1, k1, c1, B1, l1, d1, e1⟩ := r
  obtain ⟨A2, k2, c2, B2, l2, d2, e2⟩ := q
  obtain ⟨HX, HY, HZ, HB, HNX, HNY⟩ := mer_boxed w x y _ _ hx hy 32
  obtain ⟨PO, hPO⟩ : ∃ PO, PO = MergeOut w (merN x y) (merE x y) ⟨A1, k1, c1, B1, l1, d1, e1⟩ ⟨A2, k2, c2, B2, l2, d2, e2⟩ := ⟨_, rfl⟩
  rw [← hPO]
  have HPO := Lib.hid hPO
  have HYES := Lib.hid hyes
  have HSX := Lib.hid hsx
  have HSY := Lib.hid hsy
  have HDX : Hid ((sane x && decide (x.kind = 1)) = true) := Lib.hid (by rw [sane_yes hyes.1, hyes.2.2.1]; rfl)
  have HDY : Hid ((sane y && decide (y.kind = 1)) = true) := Lib.hid (by rw [sane_yes hyes.2.1, hyes.2.2.2]; rfl)
  have hl1 : l1 ≤ 256 := by have h1 := hyes.1.1.2.2.2.1; have h2 := hx.n_.2.2.1; simp only at h2; omega
  have hl2 : l2 ≤ 256 := by have h1 := hyes.2.1.1.2.2.2.1; have h2 := hy.n_.2.2.1; simp only at h2; omega
  have hd1 : l1 ≤ d1 := hx.n_.2.2.2
  have hd2 : l2 ≤ d2 := hy.n_.2.2.2
  have HSM : Hid (SmallN (mer x y)) := Lib.hid (by
    refine ⟨Nat.le_trans (upTo_len _ _ _) (by omega), ?_, fun i z hz => ?_⟩
    · show (x.op ++ y.op).length ≤ 1000
      rw [List.length_append]
      have h1 := hyes.1.1.2.2.2.1
      have h2 := hyes.2.1.1.2.2.2.1
      omega
    · have hz2 : (upTo x.im y.im 256)[i]? = some z := hz
      have := (upTo_keys hyes.1.2.1 hyes.2.1.2.1 z (List.mem_of_getElem? hz2)).2
      omega)
  have HSQ : Hid (okI 1 ∧ okI y.seq) := Lib.hid ⟨by simp [okI], hy.seq⟩
  clear hx hy hyes hsx hsy hPO
  unfold ntV
  obtain ⟨C1, hC1⟩ : ∃ C1, C1 = ntC x ⟨A1, k1, c1, B1, l1, d1, e1⟩ := ⟨_, rfl⟩
  obtain ⟨C2, hC2⟩ : ∃ C2, C2 = ntC y ⟨A2, k2, c2, B2, l2, d2, e2⟩ := ⟨_, rfl⟩
  rw [← hC1, ← hC2] at HX HY HZ HB HNX HNY ⊢
  clear hC1 hC2
  go_enter Try.func16, Try.ntmps16
  go_upto_region 1 with fail
  have hC : (#[.int .i64 0, .int .i64 0, .slice none 0 0, .slice none 0 0] : Array Value) = ntC .zero nr0 := rfl
  rw [hC]
  clear hC
  generalize ((w.alloc (.cells C1 32)).alloc (.cells C2 32)).alloc (.cells (ntC .zero nr0) 32) = w0 at *
  have a0 := HX.out.c0
  have a1 := HX.out.c1
  have a2 := HX.out.c2
  have a3 := HX.out.c3
  simp only at a2 a3
  go_wp2_with fail
  refine (pdone_any x ⟨A1, k1, c1, B1, l1, d1, e1⟩ w0 HNX.out HSX.out).mono ?_
  rintro e w1 ⟨rfl, hb1⟩
  rw [HDX.out]
  have HB1 := Lib.hid hb1
  have HY1 := Lib.hid (HY.out.below hb1)
  clear hb1 a0 a1 a2 a3
  have a0 := HY1.out.c0
  have a1 := HY1.out.c1
  have a2 := HY1.out.c2
  have a3 := HY1.out.c3
  simp only at a2 a3
  go_wp2_with fail
  refine (pdone_any y ⟨A2, k2, c2, B2, l2, d2, e2⟩ w1 (HNY.out.below HB1.out) HSY.out).mono ?_
  rintro e w2 ⟨rfl, hb2⟩
  rw [HDY.out]
  have HBW := Lib.hid (HB1.out.trans (hb2.mono HB1.out.size))
  clear hb2 a0 a1 a2 a3 HY1 HB1
  have x2 : ∀ V, Since w2 V → V.cell? ⟨w.heap.size, 2, none⟩ = some (.slice A1 k1 c1) := fun V hV => ((HX.out.below HBW.out).below hV).c2
  have x3 : ∀ V, Since w2 V → V.cell? ⟨w.heap.size, 3, none⟩ = some (.slice B1 l1 d1) := fun V hV => ((HX.out.below HBW.out).below hV).c3
  have y1 : ∀ V, Since w2 V → V.cell? ⟨w.heap.size + 1, 1, none⟩ = some (.int .i64 y.seq) := fun V hV => ((HY.out.below HBW.out).below hV).c1
  have y2 : ∀ V, Since w2 V → V.cell? ⟨w.heap.size + 1, 2, none⟩ = some (.slice A2 k2 c2) := fun V hV => ((HY.out.below HBW.out).below hV).c2
  have y3 : ∀ V, Since w2 V → V.cell? ⟨w.heap.size + 1, 3, none⟩ = some (.slice B2 l2 d2) := fun V hV => ((HY.out.below HBW.out).below hV).c3
  have HAX : Hid (∀ V, Since w2 V → NtAt V x ⟨A1, k1, c1, B1, l1, d1, e1⟩) := Lib.hid (fun V hV => (HNX.out.below HBW.out).below hV)
  have HAY : Hid (∀ V, Since w2 V → NtAt V y ⟨A2, k2, c2, B2, l2, d2, e2⟩) := Lib.hid (fun V hV => (HNY.out.below HBW.out).below hV)
  go_upto_region 3 with fail
  go_cut [6] from 16 to 29 (fun b wc => ∃ (z : Nat) (p : Nr), b = .pointer (some ⟨z, 0, none⟩) ∧ Hid (Since w2 wc) ∧ Hid (Bk wc z (ntC (mer x y) p) 32) ∧ Hid (NtAt wc (mer x y) p) ∧ Hid (∀ q, q < w2.heap.size → p.Off q))
  case first =>
    refine wp_region_since (by kernel_rfl) ?_
    have hS : Since w2 (World.drew w2) := (Below.refl _ _).drew
    refine wpAnyH_take (i := 0) (oi := ⟨some 16, _, _, _, _, _⟩) (v := ?_) rfl (by kernel_rfl) (by kernel_rfl) (by kernel_rfl) (fun _ _ _ h => h) (Or.inl ⟨by rfl, ?_⟩) hS ?_
    rotate_left
    · intro W hW; go_simp; with_reducible rfl
    try simp only [Act.put, List.setIfInBounds_toArray, List.set_cons_zero, List.set_cons_succ]
    refine wpAnyH_take (i := 1) (oi := ⟨some 17, _, _, _, _, _⟩) (v := ?_) rfl (by kernel_rfl) (by kernel_rfl) (by kernel_rfl) (fun _ _ _ h => h) (Or.inl ⟨by rfl, ?_⟩) hS ?_
    rotate_left
    · intro W hW; go_simp; with_reducible rfl
    try simp only [Act.put, List.setIfInBounds_toArray, List.set_cons_zero, List.set_cons_succ]
    refine wpAnyH_take (i := 2) (oi := ⟨some 18, _, _, _, _, _⟩) (v := ?_) rfl (by kernel_rfl) (by kernel_rfl) (by kernel_rfl) (fun _ _ _ h => h) (Or.inl ⟨by rfl, ?_⟩) hS ?_
    rotate_left
    · intro W hW; go_simp; with_reducible rfl
    try simp only [Act.put, List.setIfInBounds_toArray, List.set_cons_zero, List.set_cons_succ]
    refine wpAnyH_take (i := 3) (oi := ⟨some 19, _, _, _, _, _⟩) (v := ?_) rfl (by kernel_rfl) (by kernel_rfl) (by kernel_rfl) (fun _ _ _ h => h) (Or.inl ⟨by rfl, ?_⟩) hS ?_
    rotate_left
    · intro W hW; go_simp; with_reducible rfl
    try simp only [Act.put, List.setIfInBounds_toArray, List.set_cons_zero, List.set_cons_succ]
    refine wpAnyH_take (i := 4) (oi := ⟨some 20, _, _, _, _, _⟩) (v := ?_) rfl (by kernel_rfl) (by kernel_rfl) (by kernel_rfl) (fun _ _ _ h => h) (Or.inl ⟨by rfl, ?_⟩) hS ?_
    rotate_left
    · intro W hW; go_simp; with_reducible rfl
    try simp only [Act.put, List.setIfInBounds_toArray, List.set_cons_zero, List.set_cons_succ]
    refine wpAnyH_take (i := 5) (oi := ⟨some 21, _, _, _, _, _⟩) (v := ?_) rfl (by kernel_rfl) (by kernel_rfl) (by kernel_rfl) (fun _ _ _ h => h) (Or.inl ⟨by rfl, ?_⟩) hS ?_
    rotate_left
    · intro W hW; go_simp; with_reducible rfl
    try simp only [Act.put, List.setIfInBounds_toArray, List.set_cons_zero, List.set_cons_succ]
    refine wpAnyH_take (i := 7) (oi := ⟨some 23, _, _, _, _, _⟩) (v := ?_) rfl (by kernel_rfl) (by kernel_rfl) (by kernel_rfl) (fun _ _ _ h => h) (Or.inl ⟨by rfl, ?_⟩) hS ?_
    rotate_left
    · intro W hW; go_simp; with_reducible rfl
    try simp only [Act.put, List.setIfInBounds_toArray, List.set_cons_zero, List.set_cons_succ]
    refine wpAnyH_take (i := 8) (oi := ⟨some 24, _, _, _, _, _⟩) (v := ?_) rfl (by kernel_rfl) (by kernel_rfl) (by kernel_rfl) (fun _ _ _ h => h) (Or.inl ⟨by rfl, ?_⟩) hS ?_
    rotate_left
    · intro W hW; go_simp; with_reducible rfl
    try simp only [Act.put, List.setIfInBounds_toArray, List.set_cons_zero, List.set_cons_succ]
    refine wpAnyH_take (i := 9) (oi := ⟨some 25, _, _, _, _, _⟩) (v := ?_) rfl (by kernel_rfl) (by kernel_rfl) (by kernel_rfl) (fun _ _ _ h => h) (Or.inl ⟨by rfl, ?_⟩) hS ?_
    rotate_left
    · intro W hW; go_simp; with_reducible rfl
    try simp only [Act.put, List.setIfInBounds_toArray, List.set_cons_zero, List.set_cons_succ]
    refine wpAnyH_take (i := 10) (oi := ⟨some 26, _, _, _, _, _⟩) (v := ?_) rfl (by kernel_rfl) (by kernel_rfl) (by kernel_rfl) (fun _ _ _ h => h) (Or.inl ⟨by rfl, ?_⟩) hS ?_
    rotate_left
    · intro W hW; go_simp; with_reducible rfl
    try simp only [Act.put, List.setIfInBounds_toArray, List.set_cons_zero, List.set_cons_succ]
    refine wpAnyH_ready (rs := [6, 11, 14]) (by kernel_rfl) (by simp) ?_
    refine AllReadyH.cons (o := ⟨some 22, _, _, _, _, _⟩) rfl (fun Kr hKr => ?_) (AllReadyH.cons (o := ⟨some 27, _, _, _, _, _⟩) rfl (fun Kr hKr => ?_) (AllReadyH.cons (o := ⟨some 6, _, _, _, _, _⟩) rfl (fun Kr hKr => ?_) AllReadyH.nil))
    · skip
      -- operation 6: a call
      go_simp
      refine (latest_any A1 k1 c1 x.im e1 A2 k2 c2 y.im e2 _ (HAX.out _ hS).im (HAY.out _ hS).im HYES.out.1.2.1 HYES.out.2.1.2.1).mono ?_
      rintro e V6 ⟨A6, n6, c6, rs6, rfl, HI6, HX6, HO6⟩
      have hx := HX6.out
      have HF6 := Lib.hid (show ∀ q, q < w2.heap.size → OffI A6 n6 rs6 q from fun q hq => HO6.out q (Nat.lt_of_lt_of_le hq hS.size))
      try have HOI := Lib.hid (HO6.out z (Bk.lt HAL.out))
      try replace HAL := Lib.hid (HAL.out.below hx)
      try replace HTW := Lib.hid (HTW.out.below hx)
      show Kr _ _
      refine hKr.out _ _ ?_ (fun _ => ?_)
      · exact since_trans hS hx
      clear hKr Kr
      replace hS : Since w2 V6 := since_trans hS hx
      try simp only [Act.put, List.setIfInBounds_toArray, List.set_cons_zero, List.set_cons_succ]
      refine wpAnyH_ready (rs := [11, 14]) (by kernel_rfl) (by simp) ?_
      refine AllReadyH.cons (o := ⟨some 27, _, _, _, _, _⟩) rfl (fun Kr hKr => ?_) (AllReadyH.cons (o := ⟨some 6, _, _, _, _, _⟩) rfl (fun Kr hKr => ?_) AllReadyH.nil)
      · skip
        -- operation 11: a step
        try rw [if_pos (by kernel_rfl)]
        refine wp_build_two (.tmp 24) (.tmp 26) rfl B1 l1 d1 B2 l2 d2 rfl rfl ?_
        intro V11 g11 htw hx
        have HTW := Lib.hid htw
        try replace HAL := Lib.hid (HAL.out.below hx)
        try replace HI6 := Lib.hid (HI6.out.below hx)
        show Kr _ _
        refine hKr.out _ _ ?_ (fun _ => ?_)
        · exact since_trans hS hx
        clear hKr Kr
        replace hS : Since w2 V11 := since_trans hS hx
        try simp only [Act.put, List.setIfInBounds_toArray, List.set_cons_zero, List.set_cons_succ]
        refine wpAnyH_ready (rs := [12, 14]) (by kernel_rfl) (by simp) ?_
        refine AllReadyH.cons (o := ⟨some 28, _, _, _, _, _⟩) rfl (fun Kr hKr => ?_) (AllReadyH.cons (o := ⟨some 6, _, _, _, _, _⟩) rfl (fun Kr hKr => ?_) AllReadyH.nil)
        · skip
          -- operation 12: a call
          go_simp
          refine (concat_op g11 2 B1 d1 l1 x.op (Lib.hid (HAX.out _ hS).op.ll) B2 d2 l2 y.op (Lib.hid (HAY.out _ hS).op.ll) _ HTW.out.lt HTW.out.c0 HTW.out.c1 (Lib.hid (HAX.out _ hS).op.row) (Lib.hid (HAY.out _ hS).op.row) (Lib.hid (HAX.out _ hS).op.fm) (Lib.hid (HAY.out _ hS).op.fm) (by omega) (by omega) hd1 hd2).mono ?_
          rintro e V12 ⟨v12, rfl, ho12, hx⟩
          obtain ⟨A12, n12, c12, rfl⟩ := own_sl ro_ok ho12
          have HF12 := Lib.hid (show ∀ q, q < w2.heap.size → off A12 n12 q from fun q hq => off_own ho12 (Nat.lt_of_lt_of_le hq hS.size))
          have HO12 := Lib.hid (op_own ho12 (HAX.out _ hS).op.ok (HAY.out _ hS).op.ok)
          try have HOP := Lib.hid (off_own ho12 (Bk.lt HAL.out))
          try replace HAL := Lib.hid (HAL.out.below hx)
          replace HI6 := Lib.hid (HI6.out.below hx)
          show Kr _ _
          refine hKr.out _ _ ?_ (fun _ => ?_)
          · exact since_trans hS hx
          clear hKr Kr
          replace hS : Since w2 V12 := since_trans hS hx
          try simp only [Act.put, List.setIfInBounds_toArray, List.set_cons_zero, List.set_cons_succ]
          refine wpAnyH_take (i := 13) (oi := ⟨some 29, _, _, _, _, _⟩) (v := ?_) rfl (by kernel_rfl) (by kernel_rfl) (by kernel_rfl) (fun _ _ _ h => h) (Or.inl ⟨by rfl, ?_⟩) hS ?_
          rotate_left
          · intro W hW; go_simp; with_reducible rfl
          try simp only [Act.put, List.setIfInBounds_toArray, List.set_cons_zero, List.set_cons_succ]
          refine wpAnyH_ready (rs := [14]) (by kernel_rfl) (by simp) ?_
          refine AllReadyH.cons (o := ⟨some 6, _, _, _, _, _⟩) rfl (fun Kr hKr => ?_) AllReadyH.nil
          -- operation 14: a step
          try rw [if_pos (by kernel_rfl)]
          refine wp_alloc_bk 32 rfl ntZ (by kernel_rfl) ?_
          intro VA z hbx hx hle
          have HAL : Hid (Bk VA z ntZ 32) := Lib.hid hbx
          have HLE := Lib.hid (Nat.le_trans hS.size hle)
          try have HOI := Lib.hid (HI6.out.offNew hle)
          try have HOP := Lib.hid (off_at HO12.out.row HO12.out.ll hle)
          try replace HTW := Lib.hid (HTW.out.below hx)
          try replace HI6 := Lib.hid (HI6.out.below hx)
          try replace HO12 := Lib.hid (HO12.out.below hx)
          show Kr _ _
          refine hKr.out _ _ ?_ (fun _ => ?_)
          · exact since_trans hS hx
          clear hKr Kr
          replace hS : Since w2 VA := since_trans hS hx
          try simp only [Act.put, List.setIfInBounds_toArray, List.set_cons_zero, List.set_cons_succ]
          refine wpAnyH_ready (rs := [15]) (by kernel_rfl) (by simp) ?_
          refine AllReadyH.cons (o := ⟨none, _, _, _, _, _⟩) rfl (fun Kr hKr => ?_) AllReadyH.nil
          -- operation 15: a step
          try rw [if_pos (by kernel_rfl)]
          refine wp_store_bk 32 _ _ rfl z (ntC (mer x y) ⟨A6, n6, c6, A12, n12, c12, rs6⟩) rfl rfl 32 ntZ HAL.out (by kernel_rfl) rfl (ntC_one _ _) ?_
          intro VS hbx hg15
          have HBX : Hid (Bk VS z (ntC (mer x y) ⟨A6, n6, c6, A12, n12, c12, rs6⟩) 32) := Lib.hid hbx
          have HNP : Hid (NtAt VS (mer x y) ⟨A6, n6, c6, A12, n12, c12, rs6⟩) := Lib.hid (NtAt.off ⟨HI6.out, HO12.out, HSQ.out.1, HSQ.out.2⟩ ⟨HOI.out.1, HOP.out, HOI.out.2⟩ hg15)
          show Kr _ _
          refine hKr.out _ _ ?_ (fun _ => ?_)
          · exact Below.grown hS hg15 hS.size (fun q e => by have := HLE.out; have e := Option.some.inj e; omega)
          clear hKr Kr
          replace hS : Since w2 VS := Below.grown hS hg15 hS.size (fun q e => by have := HLE.out; have e := Option.some.inj e; omega)
          try simp only [Act.put]
          refine wpAnyH_done (by kernel_rfl) ?_ _
          go_wp2_with fail
          go_meet
          case rel => exact ⟨z, _, rfl, Lib.hid hS, HBX, HNP, Lib.hid (fun q hq => ⟨(HF6.out q hq).1, HF12.out q hq, (HF6.out q hq).2⟩)⟩
        · skip
          -- operation 14: a step
          try rw [if_pos (by kernel_rfl)]
          refine wp_alloc_bk 32 rfl ntZ (by kernel_rfl) ?_
          intro VA z hbx hx hle
          have HAL : Hid (Bk VA z ntZ 32) := Lib.hid hbx
          have HLE := Lib.hid (Nat.le_trans hS.size hle)
          try have HOI := Lib.hid (HI6.out.offNew hle)
          try have HOP := Lib.hid (off_at HO12.out.row HO12.out.ll hle)
          try replace HTW := Lib.hid (HTW.out.below hx)
          try replace HI6 := Lib.hid (HI6.out.below hx)
          try replace HO12 := Lib.hid (HO12.out.below hx)
          show Kr _ _
          refine hKr.out _ _ ?_ (fun _ => ?_)
          · exact since_trans hS hx
          clear hKr Kr
          replace hS : Since w2 VA := since_trans hS hx
          try simp only [Act.put, List.setIfInBounds_toArray, List.set_cons_zero, List.set_cons_succ]
          refine wpAnyH_ready (rs := [12]) (by kernel_rfl) (by simp) ?_
          refine AllReadyH.cons (o := ⟨some 28, _, _, _, _, _⟩) rfl (fun Kr hKr => ?_) AllReadyH.nil
          -- operation 12: a call
          go_simp
          refine (concat_op g11 2 B1 d1 l1 x.op (Lib.hid (HAX.out _ hS).op.ll) B2 d2 l2 y.op (Lib.hid (HAY.out _ hS).op.ll) _ HTW.out.lt HTW.out.c0 HTW.out.c1 (Lib.hid (HAX.out _ hS).op.row) (Lib.hid (HAY.out _ hS).op.row) (Lib.hid (HAX.out _ hS).op.fm) (Lib.hid (HAY.out _ hS).op.fm) (by omega) (by omega) hd1 hd2).mono ?_
          rintro e V12 ⟨v12, rfl, ho12, hx⟩
          obtain ⟨A12, n12, c12, rfl⟩ := own_sl ro_ok ho12
          have HF12 := Lib.hid (show ∀ q, q < w2.heap.size → off A12 n12 q from fun q hq => off_own ho12 (Nat.lt_of_lt_of_le hq hS.size))
          have HO12 := Lib.hid (op_own ho12 (HAX.out _ hS).op.ok (HAY.out _ hS).op.ok)
          try have HOP := Lib.hid (off_own ho12 (Bk.lt HAL.out))
          try replace HAL := Lib.hid (HAL.out.below hx)
          replace HI6 := Lib.hid (HI6.out.below hx)
          show Kr _ _
          refine hKr.out _ _ ?_ (fun _ => ?_)
          · exact since_trans hS hx
          clear hKr Kr
          replace hS : Since w2 V12 := since_trans hS hx
          try simp only [Act.put, List.setIfInBounds_toArray, List.set_cons_zero, List.set_cons_succ]
          refine wpAnyH_take (i := 13) (oi := ⟨some 29, _, _, _, _, _⟩) (v := ?_) rfl (by kernel_rfl) (by kernel_rfl) (by kernel_rfl) (fun _ _ _ h => h) (Or.inl ⟨by rfl, ?_⟩) hS ?_
          rotate_left
          · intro W hW; go_simp; with_reducible rfl
          try simp only [Act.put, List.setIfInBounds_toArray, List.set_cons_zero, List.set_cons_succ]
          refine wpAnyH_ready (rs := [15]) (by kernel_rfl) (by simp) ?_
          refine AllReadyH.cons (o := ⟨none, _, _, _, _, _⟩) rfl (fun Kr hKr => ?_) AllReadyH.nil
          -- operation 15: a step
          try rw [if_pos (by kernel_rfl)]
          refine wp_store_bk 32 _ _ rfl z (ntC (mer x y) ⟨A6, n6, c6, A12, n12, c12, rs6⟩) rfl rfl 32 ntZ HAL.out (by kernel_rfl) rfl (ntC_one _ _) ?_
          intro VS hbx hg15
          have HBX : Hid (Bk VS z (ntC (mer x y) ⟨A6, n6, c6, A12, n12, c12, rs6⟩) 32) := Lib.hid hbx
          have HNP : Hid (NtAt VS (mer x y) ⟨A6, n6, c6, A12, n12, c12, rs6⟩) := Lib.hid (NtAt.off ⟨HI6.out, HO12.out, HSQ.out.1, HSQ.out.2⟩ ⟨HOI.out.1, HOP.out, HOI.out.2⟩ hg15)
          show Kr _ _
          refine hKr.out _ _ ?_ (fun _ => ?_)
          · exact Below.grown hS hg15 hS.size (fun q e => by have := HLE.out; have e := Option.some.inj e; omega)
          clear hKr Kr
          replace hS : Since w2 VS := Below.grown hS hg15 hS.size (fun q e => by have := HLE.out; have e := Option.some.inj e; omega)
          try simp only [Act.put]
          refine wpAnyH_done (by kernel_rfl) ?_ _
          go_wp2_with fail
          go_meet
          case rel => exact ⟨z, _, rfl, Lib.hid hS, HBX, HNP, Lib.hid (fun q hq => ⟨(HF6.out q hq).1, HF12.out q hq, (HF6.out q hq).2⟩)⟩
      · skip
        -- operation 14: a step
        try rw [if_pos (by kernel_rfl)]
        refine wp_alloc_bk 32 rfl ntZ (by kernel_rfl) ?_
        intro VA z hbx hx hle
        have HAL : Hid (Bk VA z ntZ 32) := Lib.hid hbx
        have HLE := Lib.hid (Nat.le_trans hS.size hle)
        try have HOI := Lib.hid (HI6.out.offNew hle)
        try have HOP := Lib.hid (off_at HO12.out.row HO12.out.ll hle)
        try replace HTW := Lib.hid (HTW.out.below hx)
        try replace HI6 := Lib.hid (HI6.out.below hx)
        try replace HO12 := Lib.hid (HO12.out.below hx)
        show Kr _ _
        refine hKr.out _ _ ?_ (fun _ => ?_)
        · exact since_trans hS hx
        clear hKr Kr
        replace hS : Since w2 VA := since_trans hS hx
        try simp only [Act.put, List.setIfInBounds_toArray, List.set_cons_zero, List.set_cons_succ]
        refine wpAnyH_ready (rs := [11]) (by kernel_rfl) (by simp) ?_
        refine AllReadyH.cons (o := ⟨some 27, _, _, _, _, _⟩) rfl (fun Kr hKr => ?_) AllReadyH.nil
        -- operation 11: a step
        try rw [if_pos (by kernel_rfl)]
        refine wp_build_two (.tmp 24) (.tmp 26) rfl B1 l1 d1 B2 l2 d2 rfl rfl ?_
        intro V11 g11 htw hx
        have HTW := Lib.hid htw
        try replace HAL := Lib.hid (HAL.out.below hx)
        try replace HI6 := Lib.hid (HI6.out.below hx)
        show Kr _ _
        refine hKr.out _ _ ?_ (fun _ => ?_)
        · exact since_trans hS hx
        clear hKr Kr
        replace hS : Since w2 V11 := since_trans hS hx
        try simp only [Act.put, List.setIfInBounds_toArray, List.set_cons_zero, List.set_cons_succ]
        refine wpAnyH_ready (rs := [12]) (by kernel_rfl) (by simp) ?_
        refine AllReadyH.cons (o := ⟨some 28, _, _, _, _, _⟩) rfl (fun Kr hKr => ?_) AllReadyH.nil
        -- operation 12: a call
        go_simp
        refine (concat_op g11 2 B1 d1 l1 x.op (Lib.hid (HAX.out _ hS).op.ll) B2 d2 l2 y.op (Lib.hid (HAY.out _ hS).op.ll) _ HTW.out.lt HTW.out.c0 HTW.out.c1 (Lib.hid (HAX.out _ hS).op.row) (Lib.hid (HAY.out _ hS).op.row) (Lib.hid (HAX.out _ hS).op.fm) (Lib.hid (HAY.out _ hS).op.fm) (by omega) (by omega) hd1 hd2).mono ?_
        rintro e V12 ⟨v12, rfl, ho12, hx⟩
        obtain ⟨A12, n12, c12, rfl⟩ := own_sl ro_ok ho12
        have HF12 := Lib.hid (show ∀ q, q < w2.heap.size → off A12 n12 q from fun q hq => off_own ho12 (Nat.lt_of_lt_of_le hq hS.size))
        have HO12 := Lib.hid (op_own ho12 (HAX.out _ hS).op.ok (HAY.out _ hS).op.ok)
        try have HOP := Lib.hid (off_own ho12 (Bk.lt HAL.out))
        try replace HAL := Lib.hid (HAL.out.below hx)
        replace HI6 := Lib.hid (HI6.out.below hx)
        show Kr _ _
        refine hKr.out _ _ ?_ (fun _ => ?_)
        · exact since_trans hS hx
        clear hKr Kr
        replace hS : Since w2 V12 := since_trans hS hx
        try simp only [Act.put, List.setIfInBounds_toArray, List.set_cons_zero, List.set_cons_succ]
        refine wpAnyH_take (i := 13) (oi := ⟨some 29, _, _, _, _, _⟩) (v := ?_) rfl (by kernel_rfl) (by kernel_rfl) (by kernel_rfl) (fun _ _ _ h => h) (Or.inl ⟨by rfl, ?_⟩) hS ?_
        rotate_left
        · intro W hW; go_simp; with_reducible rfl
        try simp only [Act.put, List.setIfInBounds_toArray, List.set_cons_zero, List.set_cons_succ]
        refine wpAnyH_ready (rs := [15]) (by kernel_rfl) (by simp) ?_
        refine AllReadyH.cons (o := ⟨none, _, _, _, _, _⟩) rfl (fun Kr hKr => ?_) AllReadyH.nil
        -- operation 15: a step
        try rw [if_pos (by kernel_rfl)]
        refine wp_store_bk 32 _ _ rfl z (ntC (mer x y) ⟨A6, n6, c6, A12, n12, c12, rs6⟩) rfl rfl 32 ntZ HAL.out (by kernel_rfl) rfl (ntC_one _ _) ?_
        intro VS hbx hg15
        have HBX : Hid (Bk VS z (ntC (mer x y) ⟨A6, n6, c6, A12, n12, c12, rs6⟩) 32) := Lib.hid hbx
        have HNP : Hid (NtAt VS (mer x y) ⟨A6, n6, c6, A12, n12, c12, rs6⟩) := Lib.hid (NtAt.off ⟨HI6.out, HO12.out, HSQ.out.1, HSQ.out.2⟩ ⟨HOI.out.1, HOP.out, HOI.out.2⟩ hg15)
        show Kr _ _
        refine hKr.out _ _ ?_ (fun _ => ?_)
        · exact Below.grown hS hg15 hS.size (fun q e => by have := HLE.out; have e := Option.some.inj e; omega)
        clear hKr Kr
        replace hS : Since w2 VS := Below.grown hS hg15 hS.size (fun q e => by have := HLE.out; have e := Option.some.inj e; omega)
        try simp only [Act.put]
        refine wpAnyH_done (by kernel_rfl) ?_ _
        go_wp2_with fail
        go_meet
        case rel => exact ⟨z, _, rfl, Lib.hid hS, HBX, HNP, Lib.hid (fun q hq => ⟨(HF6.out q hq).1, HF12.out q hq, (HF6.out q hq).2⟩)⟩
    · skip
      -- operation 11: a step
      try rw [if_pos (by kernel_rfl)]
      refine wp_build_two (.tmp 24) (.tmp 26) rfl B1 l1 d1 B2 l2 d2 rfl rfl ?_
      intro V11 g11 htw hx
      have HTW := Lib.hid htw
      try replace HAL := Lib.hid (HAL.out.below hx)
      try replace HI6 := Lib.hid (HI6.out.below hx)
      show Kr _ _
      refine hKr.out _ _ ?_ (fun _ => ?_)
      · exact since_trans hS hx
      clear hKr Kr
      replace hS : Since w2 V11 := since_trans hS hx
      try simp only [Act.put, List.setIfInBounds_toArray, List.set_cons_zero, List.set_cons_succ]
      refine wpAnyH_ready (rs := [6, 14]) (by kernel_rfl) (by simp) ?_
      refine AllReadyH.cons (o := ⟨some 22, _, _, _, _, _⟩) rfl (fun Kr hKr => ?_) (AllReadyH.cons (o := ⟨some 6, _, _, _, _, _⟩) rfl (fun Kr hKr => ?_) AllReadyH.nil)
      · skip
        -- operation 6: a call
        go_simp
        refine (latest_any A1 k1 c1 x.im e1 A2 k2 c2 y.im e2 _ (HAX.out _ hS).im (HAY.out _ hS).im HYES.out.1.2.1 HYES.out.2.1.2.1).mono ?_
        rintro e V6 ⟨A6, n6, c6, rs6, rfl, HI6, HX6, HO6⟩
        have hx := HX6.out
        have HF6 := Lib.hid (show ∀ q, q < w2.heap.size → OffI A6 n6 rs6 q from fun q hq => HO6.out q (Nat.lt_of_lt_of_le hq hS.size))
        try have HOI := Lib.hid (HO6.out z (Bk.lt HAL.out))
        try replace HAL := Lib.hid (HAL.out.below hx)
        try replace HTW := Lib.hid (HTW.out.below hx)
        show Kr _ _
        refine hKr.out _ _ ?_ (fun _ => ?_)
        · exact since_trans hS hx
        clear hKr Kr
        replace hS : Since w2 V6 := since_trans hS hx
        try simp only [Act.put, List.setIfInBounds_toArray, List.set_cons_zero, List.set_cons_succ]
        refine wpAnyH_ready (rs := [12, 14]) (by kernel_rfl) (by simp) ?_
        refine AllReadyH.cons (o := ⟨some 28, _, _, _, _, _⟩) rfl (fun Kr hKr => ?_) (AllReadyH.cons (o := ⟨some 6, _, _, _, _, _⟩) rfl (fun Kr hKr => ?_) AllReadyH.nil)
        · skip
          -- operation 12: a call
          go_simp
          refine (concat_op g11 2 B1 d1 l1 x.op (Lib.hid (HAX.out _ hS).op.ll) B2 d2 l2 y.op (Lib.hid (HAY.out _ hS).op.ll) _ HTW.out.lt HTW.out.c0 HTW.out.c1 (Lib.hid (HAX.out _ hS).op.row) (Lib.hid (HAY.out _ hS).op.row) (Lib.hid (HAX.out _ hS).op.fm) (Lib.hid (HAY.out _ hS).op.fm) (by omega) (by omega) hd1 hd2).mono ?_
          rintro e V12 ⟨v12, rfl, ho12, hx⟩
          obtain ⟨A12, n12, c12, rfl⟩ := own_sl ro_ok ho12
          have HF12 := Lib.hid (show ∀ q, q < w2.heap.size → off A12 n12 q from fun q hq => off_own ho12 (Nat.lt_of_lt_of_le hq hS.size))
          have HO12 := Lib.hid (op_own ho12 (HAX.out _ hS).op.ok (HAY.out _ hS).op.ok)
          try have HOP := Lib.hid (off_own ho12 (Bk.lt HAL.out))
          try replace HAL := Lib.hid (HAL.out.below hx)
          replace HI6 := Lib.hid (HI6.out.below hx)
          show Kr _ _
          refine hKr.out _ _ ?_ (fun _ => ?_)
          · exact since_trans hS hx
          clear hKr Kr
          replace hS : Since w2 V12 := since_trans hS hx
          try simp only [Act.put, List.setIfInBounds_toArray, List.set_cons_zero, List.set_cons_succ]
          refine wpAnyH_take (i := 13) (oi := ⟨some 29, _, _, _, _, _⟩) (v := ?_) rfl (by kernel_rfl) (by kernel_rfl) (by kernel_rfl) (fun _ _ _ h => h) (Or.inl ⟨by rfl, ?_⟩) hS ?_
          rotate_left
          · intro W hW; go_simp; with_reducible rfl
          try simp only [Act.put, List.setIfInBounds_toArray, List.set_cons_zero, List.set_cons_succ]
          refine wpAnyH_ready (rs := [14]) (by kernel_rfl) (by simp) ?_
          refine AllReadyH.cons (o := ⟨some 6, _, _, _, _, _⟩) rfl (fun Kr hKr => ?_) AllReadyH.nil
          -- operation 14: a step
          try rw [if_pos (by kernel_rfl)]
          refine wp_alloc_bk 32 rfl ntZ (by kernel_rfl) ?_
          intro VA z hbx hx hle
          have HAL : Hid (Bk VA z ntZ 32) := Lib.hid hbx
          have HLE := Lib.hid (Nat.le_trans hS.size hle)
          try have HOI := Lib.hid (HI6.out.offNew hle)
          try have HOP := Lib.hid (off_at HO12.out.row HO12.out.ll hle)
          try replace HTW := Lib.hid (HTW.out.below hx)
          try replace HI6 := Lib.hid (HI6.out.below hx)
          try replace HO12 := Lib.hid (HO12.out.below hx)
          show Kr _ _
          refine hKr.out _ _ ?_ (fun _ => ?_)
          · exact since_trans hS hx
          clear hKr Kr
          replace hS : Since w2 VA := since_trans hS hx
          try simp only [Act.put, List.setIfInBounds_toArray, List.set_cons_zero, List.set_cons_succ]
          refine wpAnyH_ready (rs := [15]) (by kernel_rfl) (by simp) ?_
          refine AllReadyH.cons (o := ⟨none, _, _, _, _, _⟩) rfl (fun Kr hKr => ?_) AllReadyH.nil
          -- operation 15: a step
          try rw [if_pos (by kernel_rfl)]
          refine wp_store_bk 32 _ _ rfl z (ntC (mer x y) ⟨A6, n6, c6, A12, n12, c12, rs6⟩) rfl rfl 32 ntZ HAL.out (by kernel_rfl) rfl (ntC_one _ _) ?_
          intro VS hbx hg15
          have HBX : Hid (Bk VS z (ntC (mer x y) ⟨A6, n6, c6, A12, n12, c12, rs6⟩) 32) := Lib.hid hbx
          have HNP : Hid (NtAt VS (mer x y) ⟨A6, n6, c6, A12, n12, c12, rs6⟩) := Lib.hid (NtAt.off ⟨HI6.out, HO12.out, HSQ.out.1, HSQ.out.2⟩ ⟨HOI.out.1, HOP.out, HOI.out.2⟩ hg15)
          show Kr _ _
          refine hKr.out _ _ ?_ (fun _ => ?_)
          · exact Below.grown hS hg15 hS.size (fun q e => by have := HLE.out; have e := Option.some.inj e; omega)
          clear hKr Kr
          replace hS : Since w2 VS := Below.grown hS hg15 hS.size (fun q e => by have := HLE.out; have e := Option.some.inj e; omega)
          try simp only [Act.put]
          refine wpAnyH_done (by kernel_rfl) ?_ _
          go_wp2_with fail
          go_meet
          case rel => exact ⟨z, _, rfl, Lib.hid hS, HBX, HNP, Lib.hid (fun q hq => ⟨(HF6.out q hq).1, HF12.out q hq, (HF6.out q hq).2⟩)⟩
        · skip
          -- operation 14: a step
          try rw [if_pos (by kernel_rfl)]
          refine wp_alloc_bk 32 rfl ntZ (by kernel_rfl) ?_
          intro VA z hbx hx hle
          have HAL : Hid (Bk VA z ntZ 32) := Lib.hid hbx
          have HLE := Lib.hid (Nat.le_trans hS.size hle)
          try have HOI := Lib.hid (HI6.out.offNew hle)
          try have HOP := Lib.hid (off_at HO12.out.row HO12.out.ll hle)
          try replace HTW := Lib.hid (HTW.out.below hx)
          try replace HI6 := Lib.hid (HI6.out.below hx)
          try replace HO12 := Lib.hid (HO12.out.below hx)
          show Kr _ _
          refine hKr.out _ _ ?_ (fun _ => ?_)
          · exact since_trans hS hx
          clear hKr Kr
          replace hS : Since w2 VA := since_trans hS hx
          try simp only [Act.put, List.setIfInBounds_toArray, List.set_cons_zero, List.set_cons_succ]
          refine wpAnyH_ready (rs := [12]) (by kernel_rfl) (by simp) ?_
          refine AllReadyH.cons (o := ⟨some 28, _, _, _, _, _⟩) rfl (fun Kr hKr => ?_) AllReadyH.nil
          -- operation 12: a call
          go_simp
          refine (concat_op g11 2 B1 d1 l1 x.op (Lib.hid (HAX.out _ hS).op.ll) B2 d2 l2 y.op (Lib.hid (HAY.out _ hS).op.ll) _ HTW.out.lt HTW.out.c0 HTW.out.c1 (Lib.hid (HAX.out _ hS).op.row) (Lib.hid (HAY.out _ hS).op.row) (Lib.hid (HAX.out _ hS).op.fm) (Lib.hid (HAY.out _ hS).op.fm) (by omega) (by omega) hd1 hd2).mono ?_
          rintro e V12 ⟨v12, rfl, ho12, hx⟩
          obtain ⟨A12, n12, c12, rfl⟩ := own_sl ro_ok ho12
          have HF12 := Lib.hid (show ∀ q, q < w2.heap.size → off A12 n12 q from fun q hq => off_own ho12 (Nat.lt_of_lt_of_le hq hS.size))
          have HO12 := Lib.hid (op_own ho12 (HAX.out _ hS).op.ok (HAY.out _ hS).op.ok)
          try have HOP := Lib.hid (off_own ho12 (Bk.lt HAL.out))
          try replace HAL := Lib.hid (HAL.out.below hx)
          replace HI6 := Lib.hid (HI6.out.below hx)
          show Kr _ _
          refine hKr.out _ _ ?_ (fun _ => ?_)
          · exact since_trans hS hx
          clear hKr Kr
          replace hS : Since w2 V12 := since_trans hS hx
          try simp only [Act.put, List.setIfInBounds_toArray, List.set_cons_zero, List.set_cons_succ]
          refine wpAnyH_take (i := 13) (oi := ⟨some 29, _, _, _, _, _⟩) (v := ?_) rfl (by kernel_rfl) (by kernel_rfl) (by kernel_rfl) (fun _ _ _ h => h) (Or.inl ⟨by rfl, ?_⟩) hS ?_
          rotate_left
          · intro W hW; go_simp; with_reducible rfl
          try simp only [Act.put, List.setIfInBounds_toArray, List.set_cons_zero, List.set_cons_succ]
          refine wpAnyH_ready (rs := [15]) (by kernel_rfl) (by simp) ?_
          refine AllReadyH.cons (o := ⟨none, _, _, _, _, _⟩) rfl (fun Kr hKr => ?_) AllReadyH.nil
          -- operation 15: a step
          try rw [if_pos (by kernel_rfl)]
          refine wp_store_bk 32 _ _ rfl z (ntC (mer x y) ⟨A6, n6, c6, A12, n12, c12, rs6⟩) rfl rfl 32 ntZ HAL.out (by kernel_rfl) rfl (ntC_one _ _) ?_
          intro VS hbx hg15
          have HBX : Hid (Bk VS z (ntC (mer x y) ⟨A6, n6, c6, A12, n12, c12, rs6⟩) 32) := Lib.hid hbx
          have HNP : Hid (NtAt VS (mer x y) ⟨A6, n6, c6, A12, n12, c12, rs6⟩) := Lib.hid (NtAt.off ⟨HI6.out, HO12.out, HSQ.out.1, HSQ.out.2⟩ ⟨HOI.out.1, HOP.out, HOI.out.2⟩ hg15)
          show Kr _ _
          refine hKr.out _ _ ?_ (fun _ => ?_)
          · exact Below.grown hS hg15 hS.size (fun q e => by have := HLE.out; have e := Option.some.inj e; omega)
          clear hKr Kr
          replace hS : Since w2 VS := Below.grown hS hg15 hS.size (fun q e => by have := HLE.out; have e := Option.some.inj e; omega)
          try simp only [Act.put]
          refine wpAnyH_done (by kernel_rfl) ?_ _
          go_wp2_with fail
          go_meet
          case rel => exact ⟨z, _, rfl, Lib.hid hS, HBX, HNP, Lib.hid (fun q hq => ⟨(HF6.out q hq).1, HF12.out q hq, (HF6.out q hq).2⟩)⟩
      · skip
        -- operation 14: a step
        try rw [if_pos (by kernel_rfl)]
        refine wp_alloc_bk 32 rfl ntZ (by kernel_rfl) ?_
        intro VA z hbx hx hle
        have HAL : Hid (Bk VA z ntZ 32) := Lib.hid hbx
        have HLE := Lib.hid (Nat.le_trans hS.size hle)
        try have HOI := Lib.hid (HI6.out.offNew hle)
        try have HOP := Lib.hid (off_at HO12.out.row HO12.out.ll hle)
        try replace HTW := Lib.hid (HTW.out.below hx)
        try replace HI6 := Lib.hid (HI6.out.below hx)
        try replace HO12 := Lib.hid (HO12.out.below hx)
        show Kr _ _
        refine hKr.out _ _ ?_ (fun _ => ?_)
        · exact since_trans hS hx
        clear hKr Kr
        replace hS : Since w2 VA := since_trans hS hx
        try simp only [Act.put, List.setIfInBounds_toArray, List.set_cons_zero, List.set_cons_succ]
        refine wpAnyH_ready (rs := [6]) (by kernel_rfl) (by simp) ?_
        refine AllReadyH.cons (o := ⟨some 22, _, _, _, _, _⟩) rfl (fun Kr hKr => ?_) AllReadyH.nil
        -- operation 6: a call
        go_simp
        refine (latest_any A1 k1 c1 x.im e1 A2 k2 c2 y.im e2 _ (HAX.out _ hS).im (HAY.out _ hS).im HYES.out.1.2.1 HYES.out.2.1.2.1).mono ?_
        rintro e V6 ⟨A6, n6, c6, rs6, rfl, HI6, HX6, HO6⟩
        have hx := HX6.out
        have HF6 := Lib.hid (show ∀ q, q < w2.heap.size → OffI A6 n6 rs6 q from fun q hq => HO6.out q (Nat.lt_of_lt_of_le hq hS.size))
        try have HOI := Lib.hid (HO6.out z (Bk.lt HAL.out))
        try replace HAL := Lib.hid (HAL.out.below hx)
        try replace HTW := Lib.hid (HTW.out.below hx)
        show Kr _ _
        refine hKr.out _ _ ?_ (fun _ => ?_)
        · exact since_trans hS hx
        clear hKr Kr
        replace hS : Since w2 V6 := since_trans hS hx
        try simp only [Act.put, List.setIfInBounds_toArray, List.set_cons_zero, List.set_cons_succ]
        refine wpAnyH_ready (rs := [12]) (by kernel_rfl) (by simp) ?_
        refine AllReadyH.cons (o := ⟨some 28, _, _, _, _, _⟩) rfl (fun Kr hKr => ?_) AllReadyH.nil
        -- operation 12: a call
        go_simp
        refine (concat_op g11 2 B1 d1 l1 x.op (Lib.hid (HAX.out _ hS).op.ll) B2 d2 l2 y.op (Lib.hid (HAY.out _ hS).op.ll) _ HTW.out.lt HTW.out.c0 HTW.out.c1 (Lib.hid (HAX.out _ hS).op.row) (Lib.hid (HAY.out _ hS).op.row) (Lib.hid (HAX.out _ hS).op.fm) (Lib.hid (HAY.out _ hS).op.fm) (by omega) (by omega) hd1 hd2).mono ?_
        rintro e V12 ⟨v12, rfl, ho12, hx⟩
        obtain ⟨A12, n12, c12, rfl⟩ := own_sl ro_ok ho12
        have HF12 := Lib.hid (show ∀ q, q < w2.heap.size → off A12 n12 q from fun q hq => off_own ho12 (Nat.lt_of_lt_of_le hq hS.size))
        have HO12 := Lib.hid (op_own ho12 (HAX.out _ hS).op.ok (HAY.out _ hS).op.ok)
        try have HOP := Lib.hid (off_own ho12 (Bk.lt HAL.out))
        try replace HAL := Lib.hid (HAL.out.below hx)
        replace HI6 := Lib.hid (HI6.out.below hx)
        show Kr _ _
        refine hKr.out _ _ ?_ (fun _ => ?_)
        · exact since_trans hS hx
        clear hKr Kr
        replace hS : Since w2 V12 := since_trans hS hx
        try simp only [Act.put, List.setIfInBounds_toArray, List.set_cons_zero, List.set_cons_succ]
        refine wpAnyH_take (i := 13) (oi := ⟨some 29, _, _, _, _, _⟩) (v := ?_) rfl (by kernel_rfl) (by kernel_rfl) (by kernel_rfl) (fun _ _ _ h => h) (Or.inl ⟨by rfl, ?_⟩) hS ?_
        rotate_left
        · intro W hW; go_simp; with_reducible rfl
        try simp only [Act.put, List.setIfInBounds_toArray, List.set_cons_zero, List.set_cons_succ]
        refine wpAnyH_ready (rs := [15]) (by kernel_rfl) (by simp) ?_
        refine AllReadyH.cons (o := ⟨none, _, _, _, _, _⟩) rfl (fun Kr hKr => ?_) AllReadyH.nil
        -- operation 15: a step
        try rw [if_pos (by kernel_rfl)]
        refine wp_store_bk 32 _ _ rfl z (ntC (mer x y) ⟨A6, n6, c6, A12, n12, c12, rs6⟩) rfl rfl 32 ntZ HAL.out (by kernel_rfl) rfl (ntC_one _ _) ?_
        intro VS hbx hg15
        have HBX : Hid (Bk VS z (ntC (mer x y) ⟨A6, n6, c6, A12, n12, c12, rs6⟩) 32) := Lib.hid hbx
        have HNP : Hid (NtAt VS (mer x y) ⟨A6, n6, c6, A12, n12, c12, rs6⟩) := Lib.hid (NtAt.off ⟨HI6.out, HO12.out, HSQ.out.1, HSQ.out.2⟩ ⟨HOI.out.1, HOP.out, HOI.out.2⟩ hg15)
        show Kr _ _
        refine hKr.out _ _ ?_ (fun _ => ?_)
        · exact Below.grown hS hg15 hS.size (fun q e => by have := HLE.out; have e := Option.some.inj e; omega)
        clear hKr Kr
        replace hS : Since w2 VS := Below.grown hS hg15 hS.size (fun q e => by have := HLE.out; have e := Option.some.inj e; omega)
        try simp only [Act.put]
        refine wpAnyH_done (by kernel_rfl) ?_ _
        go_wp2_with fail
        go_meet
        case rel => exact ⟨z, _, rfl, Lib.hid hS, HBX, HNP, Lib.hid (fun q hq => ⟨(HF6.out q hq).1, HF12.out q hq, (HF6.out q hq).2⟩)⟩
    · skip
      -- operation 14: a step
      try rw [if_pos (by kernel_rfl)]
      refine wp_alloc_bk 32 rfl ntZ (by kernel_rfl) ?_
      intro VA z hbx hx hle
      have HAL : Hid (Bk VA z ntZ 32) := Lib.hid hbx
      have HLE := Lib.hid (Nat.le_trans hS.size hle)
      try have HOI := Lib.hid (HI6.out.offNew hle)
      try have HOP := Lib.hid (off_at HO12.out.row HO12.out.ll hle)
      try replace HTW := Lib.hid (HTW.out.below hx)
      try replace HI6 := Lib.hid (HI6.out.below hx)
      try replace HO12 := Lib.hid (HO12.out.below hx)
      show Kr _ _
      refine hKr.out _ _ ?_ (fun _ => ?_)
      · exact since_trans hS hx
      clear hKr Kr
      replace hS : Since w2 VA := since_trans hS hx
      try simp only [Act.put, List.setIfInBounds_toArray, List.set_cons_zero, List.set_cons_succ]
      refine wpAnyH_ready (rs := [6, 11]) (by kernel_rfl) (by simp) ?_
      refine AllReadyH.cons (o := ⟨some 22, _, _, _, _, _⟩) rfl (fun Kr hKr => ?_) (AllReadyH.cons (o := ⟨some 27, _, _, _, _, _⟩) rfl (fun Kr hKr => ?_) AllReadyH.nil)
      · skip
        -- operation 6: a call
        go_simp
        refine (latest_any A1 k1 c1 x.im e1 A2 k2 c2 y.im e2 _ (HAX.out _ hS).im (HAY.out _ hS).im HYES.out.1.2.1 HYES.out.2.1.2.1).mono ?_
        rintro e V6 ⟨A6, n6, c6, rs6, rfl, HI6, HX6, HO6⟩
        have hx := HX6.out
        have HF6 := Lib.hid (show ∀ q, q < w2.heap.size → OffI A6 n6 rs6 q from fun q hq => HO6.out q (Nat.lt_of_lt_of_le hq hS.size))
        try have HOI := Lib.hid (HO6.out z (Bk.lt HAL.out))
        try replace HAL := Lib.hid (HAL.out.below hx)
        try replace HTW := Lib.hid (HTW.out.below hx)
        show Kr _ _
        refine hKr.out _ _ ?_ (fun _ => ?_)
        · exact since_trans hS hx
        clear hKr Kr
        replace hS : Since w2 V6 := since_trans hS hx
        try simp only [Act.put, List.setIfInBounds_toArray, List.set_cons_zero, List.set_cons_succ]
        refine wpAnyH_ready (rs := [11]) (by kernel_rfl) (by simp) ?_
        refine AllReadyH.cons (o := ⟨some 27, _, _, _, _, _⟩) rfl (fun Kr hKr => ?_) AllReadyH.nil
        -- operation 11: a step
        try rw [if_pos (by kernel_rfl)]
        refine wp_build_two (.tmp 24) (.tmp 26) rfl B1 l1 d1 B2 l2 d2 rfl rfl ?_
        intro V11 g11 htw hx
        have HTW := Lib.hid htw
        try replace HAL := Lib.hid (HAL.out.below hx)
        try replace HI6 := Lib.hid (HI6.out.below hx)
        show Kr _ _
        refine hKr.out _ _ ?_ (fun _ => ?_)
        · exact since_trans hS hx
        clear hKr Kr
        replace hS : Since w2 V11 := since_trans hS hx
        try simp only [Act.put, List.setIfInBounds_toArray, List.set_cons_zero, List.set_cons_succ]
        refine wpAnyH_ready (rs := [12]) (by kernel_rfl) (by simp) ?_
        refine AllReadyH.cons (o := ⟨some 28, _, _, _, _, _⟩) rfl (fun Kr hKr => ?_) AllReadyH.nil
        -- operation 12: a call
        go_simp
        refine (concat_op g11 2 B1 d1 l1 x.op (Lib.hid (HAX.out _ hS).op.ll) B2 d2 l2 y.op (Lib.hid (HAY.out _ hS).op.ll) _ HTW.out.lt HTW.out.c0 HTW.out.c1 (Lib.hid (HAX.out _ hS).op.row) (Lib.hid (HAY.out _ hS).op.row) (Lib.hid (HAX.out _ hS).op.fm) (Lib.hid (HAY.out _ hS).op.fm) (by omega) (by omega) hd1 hd2).mono ?_
        rintro e V12 ⟨v12, rfl, ho12, hx⟩
        obtain ⟨A12, n12, c12, rfl⟩ := own_sl ro_ok ho12
        have HF12 := Lib.hid (show ∀ q, q < w2.heap.size → off A12 n12 q from fun q hq => off_own ho12 (Nat.lt_of_lt_of_le hq hS.size))
        have HO12 := Lib.hid (op_own ho12 (HAX.out _ hS).op.ok (HAY.out _ hS).op.ok)
        try have HOP := Lib.hid (off_own ho12 (Bk.lt HAL.out))
        try replace HAL := Lib.hid (HAL.out.below hx)
        replace HI6 := Lib.hid (HI6.out.below hx)
        show Kr _ _
        refine hKr.out _ _ ?_ (fun _ => ?_)
        · exact since_trans hS hx
        clear hKr Kr
        replace hS : Since w2 V12 := since_trans hS hx
        try simp only [Act.put, List.setIfInBounds_toArray, List.set_cons_zero, List.set_cons_succ]
        refine wpAnyH_take (i := 13) (oi := ⟨some 29, _, _, _, _, _⟩) (v := ?_) rfl (by kernel_rfl) (by kernel_rfl) (by kernel_rfl) (fun _ _ _ h => h) (Or.inl ⟨by rfl, ?_⟩) hS ?_
        rotate_left
        · intro W hW; go_simp; with_reducible rfl
        try simp only [Act.put, List.setIfInBounds_toArray, List.set_cons_zero, List.set_cons_succ]
        refine wpAnyH_ready (rs := [15]) (by kernel_rfl) (by simp) ?_
        refine AllReadyH.cons (o := ⟨none, _, _, _, _, _⟩) rfl (fun Kr hKr => ?_) AllReadyH.nil
        -- operation 15: a step
        try rw [if_pos (by kernel_rfl)]
        refine wp_store_bk 32 _ _ rfl z (ntC (mer x y) ⟨A6, n6, c6, A12, n12, c12, rs6⟩) rfl rfl 32 ntZ HAL.out (by kernel_rfl) rfl (ntC_one _ _) ?_
        intro VS hbx hg15
        have HBX : Hid (Bk VS z (ntC (mer x y) ⟨A6, n6, c6, A12, n12, c12, rs6⟩) 32) := Lib.hid hbx
        have HNP : Hid (NtAt VS (mer x y) ⟨A6, n6, c6, A12, n12, c12, rs6⟩) := Lib.hid (NtAt.off ⟨HI6.out, HO12.out, HSQ.out.1, HSQ.out.2⟩ ⟨HOI.out.1, HOP.out, HOI.out.2⟩ hg15)
        show Kr _ _
        refine hKr.out _ _ ?_ (fun _ => ?_)
        · exact Below.grown hS hg15 hS.size (fun q e => by have := HLE.out; have e := Option.some.inj e; omega)
        clear hKr Kr
        replace hS : Since w2 VS := Below.grown hS hg15 hS.size (fun q e => by have := HLE.out; have e := Option.some.inj e; omega)
        try simp only [Act.put]
        refine wpAnyH_done (by kernel_rfl) ?_ _
        go_wp2_with fail
        go_meet
        case rel => exact ⟨z, _, rfl, Lib.hid hS, HBX, HNP, Lib.hid (fun q hq => ⟨(HF6.out q hq).1, HF12.out q hq, (HF6.out q hq).2⟩)⟩
      · skip
        -- operation 11: a step
        try rw [if_pos (by kernel_rfl)]
        refine wp_build_two (.tmp 24) (.tmp 26) rfl B1 l1 d1 B2 l2 d2 rfl rfl ?_
        intro V11 g11 htw hx
        have HTW := Lib.hid htw
        try replace HAL := Lib.hid (HAL.out.below hx)
        try replace HI6 := Lib.hid (HI6.out.below hx)
        show Kr _ _
        refine hKr.out _ _ ?_ (fun _ => ?_)
        · exact since_trans hS hx
        clear hKr Kr
        replace hS : Since w2 V11 := since_trans hS hx
        try simp only [Act.put, List.setIfInBounds_toArray, List.set_cons_zero, List.set_cons_succ]
        refine wpAnyH_ready (rs := [6]) (by kernel_rfl) (by simp) ?_
        refine AllReadyH.cons (o := ⟨some 22, _, _, _, _, _⟩) rfl (fun Kr hKr => ?_) AllReadyH.nil
        -- operation 6: a call
        go_simp
        refine (latest_any A1 k1 c1 x.im e1 A2 k2 c2 y.im e2 _ (HAX.out _ hS).im (HAY.out _ hS).im HYES.out.1.2.1 HYES.out.2.1.2.1).mono ?_
        rintro e V6 ⟨A6, n6, c6, rs6, rfl, HI6, HX6, HO6⟩
        have hx := HX6.out
        have HF6 := Lib.hid (show ∀ q, q < w2.heap.size → OffI A6 n6 rs6 q from fun q hq => HO6.out q (Nat.lt_of_lt_of_le hq hS.size))
        try have HOI := Lib.hid (HO6.out z (Bk.lt HAL.out))
        try replace HAL := Lib.hid (HAL.out.below hx)
        try replace HTW := Lib.hid (HTW.out.below hx)
        show Kr _ _
        refine hKr.out _ _ ?_ (fun _ => ?_)
        · exact since_trans hS hx
        clear hKr Kr
        replace hS : Since w2 V6 := since_trans hS hx
        try simp only [Act.put, List.setIfInBounds_toArray, List.set_cons_zero, List.set_cons_succ]
        refine wpAnyH_ready (rs := [12]) (by kernel_rfl) (by simp) ?_
        refine AllReadyH.cons (o := ⟨some 28, _, _, _, _, _⟩) rfl (fun Kr hKr => ?_) AllReadyH.nil
        -- operation 12: a call
        go_simp
        refine (concat_op g11 2 B1 d1 l1 x.op (Lib.hid (HAX.out _ hS).op.ll) B2 d2 l2 y.op (Lib.hid (HAY.out _ hS).op.ll) _ HTW.out.lt HTW.out.c0 HTW.out.c1 (Lib.hid (HAX.out _ hS).op.row) (Lib.hid (HAY.out _ hS).op.row) (Lib.hid (HAX.out _ hS).op.fm) (Lib.hid (HAY.out _ hS).op.fm) (by omega) (by omega) hd1 hd2).mono ?_
        rintro e V12 ⟨v12, rfl, ho12, hx⟩
        obtain ⟨A12, n12, c12, rfl⟩ := own_sl ro_ok ho12
        have HF12 := Lib.hid (show ∀ q, q < w2.heap.size → off A12 n12 q from fun q hq => off_own ho12 (Nat.lt_of_lt_of_le hq hS.size))
        have HO12 := Lib.hid (op_own ho12 (HAX.out _ hS).op.ok (HAY.out _ hS).op.ok)
        try have HOP := Lib.hid (off_own ho12 (Bk.lt HAL.out))
        try replace HAL := Lib.hid (HAL.out.below hx)
        replace HI6 := Lib.hid (HI6.out.below hx)
        show Kr _ _
        refine hKr.out _ _ ?_ (fun _ => ?_)
        · exact since_trans hS hx
        clear hKr Kr
        replace hS : Since w2 V12 := since_trans hS hx
        try simp only [Act.put, List.setIfInBounds_toArray, List.set_cons_zero, List.set_cons_succ]
        refine wpAnyH_take (i := 13) (oi := ⟨some 29, _, _, _, _, _⟩) (v := ?_) rfl (by kernel_rfl) (by kernel_rfl) (by kernel_rfl) (fun _ _ _ h => h) (Or.inl ⟨by rfl, ?_⟩) hS ?_
        rotate_left
        · intro W hW; go_simp; with_reducible rfl
        try simp only [Act.put, List.setIfInBounds_toArray, List.set_cons_zero, List.set_cons_succ]
        refine wpAnyH_ready (rs := [15]) (by kernel_rfl) (by simp) ?_
        refine AllReadyH.cons (o := ⟨none, _, _, _, _, _⟩) rfl (fun Kr hKr => ?_) AllReadyH.nil
        -- operation 15: a step
        try rw [if_pos (by kernel_rfl)]
        refine wp_store_bk 32 _ _ rfl z (ntC (mer x y) ⟨A6, n6, c6, A12, n12, c12, rs6⟩) rfl rfl 32 ntZ HAL.out (by kernel_rfl) rfl (ntC_one _ _) ?_
        intro VS hbx hg15
        have HBX : Hid (Bk VS z (ntC (mer x y) ⟨A6, n6, c6, A12, n12, c12, rs6⟩) 32) := Lib.hid hbx
        have HNP : Hid (NtAt VS (mer x y) ⟨A6, n6, c6, A12, n12, c12, rs6⟩) := Lib.hid (NtAt.off ⟨HI6.out, HO12.out, HSQ.out.1, HSQ.out.2⟩ ⟨HOI.out.1, HOP.out, HOI.out.2⟩ hg15)
        show Kr _ _
        refine hKr.out _ _ ?_ (fun _ => ?_)
        · exact Below.grown hS hg15 hS.size (fun q e => by have := HLE.out; have e := Option.some.inj e; omega)
        clear hKr Kr
        replace hS : Since w2 VS := Below.grown hS hg15 hS.size (fun q e => by have := HLE.out; have e := Option.some.inj e; omega)
        try simp only [Act.put]
        refine wpAnyH_done (by kernel_rfl) ?_ _
        go_wp2_with fail
        go_meet
        case rel => exact ⟨z, _, rfl, Lib.hid hS, HBX, HNP, Lib.hid (fun q hq => ⟨(HF6.out q hq).1, HF12.out q hq, (HF6.out q hq).2⟩)⟩
  case rest =>
    obtain ⟨z, ⟨Av, nv, cv, Bv, mv, dv, rs⟩, rfl, HW3, HK3, HN3, HF3⟩ := hcut
    obtain ⟨w3, hwc⟩ : ∃ u, u = wc := ⟨_, rfl⟩
    subst hwc
    clear x2 x3 y1 y2 y3 HAX HAY
    have HB3 := Lib.hid (HBW.out.trans (show Below w0.heap.size w2 w3 from HW3.out.mono HBW.out.size))
    go_wp2_with (refine wpList_load_bk ty_note HK3.out rfl rfl (.tmp 6) rfl rfl ?_)
    refine (psane_any (mer x y) ⟨Av, nv, cv, Bv, mv, dv, rs⟩ w3 HN3.out HSM.out).mono ?_
    rintro e w4 ⟨rfl, hb4⟩
    have HB4 := Lib.hid (HB3.out.trans (hb4.mono HB3.out.size))
    have HZ4 := Lib.hid (HZ.out.below HB4.out)
    have HK4 := Lib.hid (HK3.out.below hb4)
    have HN4 := Lib.hid (HN3.out.below hb4)
    clear hb4
    by_cases hm : San (mer x y)
    · rw [sane_yes hm]
      obtain ⟨m1, m2⟩ := merE_zero HYES.out hm
      have HMZ := Lib.hid (And.intro m1 m2)
      clear hm m1 m2
      go_wp2_with (first
        | (refine wpList_load_bk ty_note HK4.out rfl rfl (.tmp 6) rfl rfl ?_)
        | (refine wpList_store_bk ty_note HZ4.out rfl rfl (.tmp 4) (.tmp 34) rfl rfl (ntC (mer x y) ⟨Av, nv, cv, Bv, mv, dv, rs⟩) rfl rfl (ntC_one _ _) ?_; intro w5 hk5 hg5))
      refine bodyPost_ret (results_bk2 ty_note rfl _ rfl _ rfl hk5 rfl) rfl ?_
      rw [HPO.out, HMZ.out.1, HMZ.out.2]
      have hz2 : w.heap.size + 2 < w0.heap.size := HZ.out.lt
      have hz3 := HBW.out.size
      have hz4 := HB4.out.size
      exact ⟨_, rfl, HN4.out.off (HF3.out _ (by omega)) hg5, (HB.out.trans (HB4.out.mono HB.out.size)).grown hg5 (by omega) (fun k hk => by injection hk with hk; omega), fun q hq _ _ => HF3.out q (by omega)⟩
    · rw [sane_no hm]
      obtain ⟨m1, m2⟩ := merE_much HYES.out hm
      have HMZ := Lib.hid (And.intro m1 m2)
      clear hm m1 m2
      go_wp2_with (refine wpList_store_bk ty_note HZ4.out rfl rfl (.tmp 4) (.tmp 33) rfl rfl (ntC .zero nr0) rfl rfl (ntC_one _ _) ?_; intro w5 hk5 hg5)
      refine bodyPost_ret (results_bk2 ty_note rfl _ rfl _ rfl hk5 rfl) rfl ?_
      rw [HPO.out, HMZ.out.1, HMZ.out.2]
      have hz4 := HB4.out.size
      have hz5 := HB.out.size
      exact ⟨nr0, rfl, nt_zero _, (HB.out.trans (HB4.out.mono HB.out.size)).grown hg5 (by omega) (fun k hk => by injection hk with hk; omega), fun q _ _ _ => nr0_off q⟩

theorem pmerge_any (x y : Nt) (r q : Nr) (w : World) (hx : NtAt w x r) (hy : NtAt w y q) (hsx : SmallN x) (hsy : SmallN y) : Calls Try.prog 16 #[ntV x r, ntV y q] w (MergeOut w (merN x y) (merE x y) r q) := by
  by_cases h : San x ∧ San y ∧ x.kind = 1 ∧ y.kind = 1
  · exact pmerge_yes x y r q w hx hy hsx hsy h
  · rw [(merE_no h).1, (merE_no h).2]
    exact pmerge_no x y r q w hx hy hsx hsy h
end Go.Proofs.Ytjpnihmijnpjcaa
