/-
  Two notes as one, where that may not be: the document's Merge.
-/
import Derived.Test.YtjpnihmijnpjcaaNf
namespace Go.Proofs.Ytjpnihmijnpjcaa
set_option maxRecDepth 100000
set_option linter.unusedVariables false
set_option linter.unusedSimpArgs false
open Go.RowKit Wm Nn

def nr0 : Nr := ⟨none, 0, 0, none, 0, 0, []⟩
theorem nt_zero (w : World) : NtAt w Nt.zero nr0 :=
  ⟨⟨.inl rfl, rfl, rfl, Nat.le_refl _, .inl rfl, fun i r x hr => by simp [nr0] at hr⟩, ⟨.inl rfl, rfl, Nat.le_refl _, .inl rfl, fun i x hx => by simp [Nt.zero] at hx⟩, by simp [okI, Nt.zero], by simp [okI, Nt.zero]⟩

theorem nr0_off (z : Nat) : nr0.Off z := ⟨fun b o e => (by cases e), fun b o e => (by cases e), fun q hq => (by cases hq)⟩
theorem mer_boxed (w : World) (x y : Nt) (r q : Nr) (hx : NtAt w x r) (hy : NtAt w y q) (ty : TypeId) :
    Hid (NtB (((w.alloc (.cells (ntC x r) ty)).alloc (.cells (ntC y q) ty)).alloc (.cells (ntC .zero nr0) ty)) w.heap.size ty x r) ∧ Hid (NtB (((w.alloc (.cells (ntC x r) ty)).alloc (.cells (ntC y q) ty)).alloc (.cells (ntC .zero nr0) ty)) (w.heap.size + 1) ty y q) ∧
    Hid (Bk (((w.alloc (.cells (ntC x r) ty)).alloc (.cells (ntC y q) ty)).alloc (.cells (ntC .zero nr0) ty)) (w.heap.size + 2) (ntC .zero nr0) ty) ∧ Hid (Below w.heap.size w (((w.alloc (.cells (ntC x r) ty)).alloc (.cells (ntC y q) ty)).alloc (.cells (ntC .zero nr0) ty))) ∧
    Hid (NtAt (((w.alloc (.cells (ntC x r) ty)).alloc (.cells (ntC y q) ty)).alloc (.cells (ntC .zero nr0) ty)) x r) ∧ Hid (NtAt (((w.alloc (.cells (ntC x r) ty)).alloc (.cells (ntC y q) ty)).alloc (.cells (ntC .zero nr0) ty)) y q) := by
  have h1 := NtB.new w ty x r
  have b1 := below_new w (.cells (ntC x r) ty)
  have h2 := NtB.new (w.alloc (.cells (ntC x r) ty)) ty y q
  have b2 := below_new (w.alloc (.cells (ntC x r) ty)) (.cells (ntC y q) ty)
  have h3 := Bk.new ((w.alloc (.cells (ntC x r) ty)).alloc (.cells (ntC y q) ty)) (ntC .zero nr0) ty
  have b3 := below_new ((w.alloc (.cells (ntC x r) ty)).alloc (.cells (ntC y q) ty)) (.cells (ntC .zero nr0) ty)
  have z1 : (w.alloc (.cells (ntC x r) ty)).heap.size = w.heap.size + 1 := by simp
  have z2 : ((w.alloc (.cells (ntC x r) ty)).alloc (.cells (ntC y q) ty)).heap.size = w.heap.size + 2 := by simp
  rw [z1] at h2
  rw [z2] at h3
  have hb := below_two (below_two b1 b2) b3
  exact ⟨Lib.hid ((h1.below b2).below b3), Lib.hid (h2.below b3), Lib.hid h3, Lib.hid hb, Lib.hid (hx.below hb), Lib.hid (hy.below hb)⟩

/-- why two notes are not one -/
inductive NoWay (x y : Nt) : Prop
  | a (h : ¬ San x)
  | b (h : San x) (h' : ¬ San y)
  | ka (h : San x) (h' : San y) (k : x.kind ≠ 1)
  | kb (h : San x) (h' : San y) (k : x.kind = 1) (k' : y.kind ≠ 1)
theorem no_way {x y : Nt} (h : ¬ (San x ∧ San y ∧ x.kind = 1 ∧ y.kind = 1)) : NoWay x y := by
  by_cases h1 : San x
  · by_cases h2 : San y
    · by_cases h3 : x.kind = 1
      · exact .kb h1 h2 h3 (fun h4 => h ⟨h1, h2, h3, h4⟩)
      · exact .ka h1 h2 h3
    · exact .b h1 h2
  · exact .a h1

set_option maxHeartbeats 2000000 in
theorem merge_no (x y : Nt) (r q : Nr) (w : World) (hx : NtAt w x r) (hy : NtAt w y q) (hsx : SmallN x) (hsy : SmallN y) (hno : ¬ (San x ∧ San y ∧ x.kind = 1 ∧ y.kind = 1)) : Calls Try.prog 17 #[ntV x r, ntV y q] w (MergeOut w Nt.zero 1 r q) := by
  obtain ⟨A1, k1, c1, B1, l1, d1, e1⟩ := r
  obtain ⟨A2, k2, c2, B2, l2, d2, e2⟩ := q
  obtain ⟨HX, HY, HZ, HB, HNX, HNY⟩ := mer_boxed w x y _ _ hx hy 25
  have HSX := Lib.hid hsx
  have HSY := Lib.hid hsy
  have hw := no_way hno
  clear hx hy hno hsx hsy
  unfold ntV
  obtain ⟨C1, hC1⟩ : ∃ C1, C1 = ntC x ⟨A1, k1, c1, B1, l1, d1, e1⟩ := ⟨_, rfl⟩
  obtain ⟨C2, hC2⟩ : ∃ C2, C2 = ntC y ⟨A2, k2, c2, B2, l2, d2, e2⟩ := ⟨_, rfl⟩
  rw [← hC1, ← hC2] at HX HY HZ HB HNX HNY ⊢
  clear hC1 hC2
  go_enter Try.func17, Try.ntmps17
  go_upto_region 1 with fail
  have hC : (#[.int .i64 0, .int .i64 0, .slice none 0 0, .slice none 0 0] : Array Value) = ntC .zero nr0 := rfl
  rw [hC]
  clear hC
  generalize ((w.alloc (.cells C1 25)).alloc (.cells C2 25)).alloc (.cells (ntC .zero nr0) 25) = w0 at *
  have a0 := HX.out.c0
  have a1 := HX.out.c1
  have a2 := HX.out.c2
  have a3 := HX.out.c3
  simp only at a2 a3
  go_wp2_with fail
  refine (sane_any x ⟨A1, k1, c1, B1, l1, d1, e1⟩ w0 HNX.out HSX.out).mono ?_
  rintro e w1 ⟨rfl, hb1⟩
  have HB1 := Lib.hid hb1
  clear hb1 a0 a1 a2 a3
  rcases hw with h | ⟨h, h'⟩ | ⟨h, h', k⟩ | ⟨h, h', k, k'⟩
  · rw [sane_no h]
    clear h
    have HZ1 := Lib.hid (HZ.out.below HB1.out)
    go_wp2_with (refine wpList_store_bk ty_rnote HZ1.out rfl rfl (.tmp 4) (.tmp 28) rfl rfl (ntC .zero nr0) rfl rfl (ntC_one _ _) ?_; intro w5 hk5 hg5)
    exact bodyPost_ret (results_bk2 ty_rnote rfl _ rfl _ rfl hk5 rfl) rfl ⟨nr0, rfl, nt_zero _, (HB.out.trans (HB1.out.mono HB.out.size)).grown hg5 (Nat.le_trans HB.out.size HB1.out.size) (fun j hj => by injection hj with hj; omega), fun z _ _ _ => nr0_off z⟩
  all_goals
    rw [sane_yes h]
    clear h
    have HY1 := Lib.hid (HY.out.below HB1.out)
    have a0 := HY1.out.c0
    have a1 := HY1.out.c1
    have a2 := HY1.out.c2
    have a3 := HY1.out.c3
    simp only at a2 a3
    go_wp2_with fail
    refine (sane_any y ⟨A2, k2, c2, B2, l2, d2, e2⟩ w1 (HNY.out.below HB1.out) HSY.out).mono ?_
    rintro e w2 ⟨rfl, hb2⟩
    have HB2 := Lib.hid (HB1.out.trans (hb2.mono HB1.out.size))
    clear hb2 a0 a1 a2 a3 HY1
    have HZ2 := Lib.hid (HZ.out.below HB2.out)
    have HX2 := Lib.hid (HX.out.below HB2.out)
    have HY2 := Lib.hid (HY.out.below HB2.out)
  · rw [sane_no h']
    clear h'
    go_wp2_with (refine wpList_store_bk ty_rnote HZ2.out rfl rfl (.tmp 4) (.tmp 28) rfl rfl (ntC .zero nr0) rfl rfl (ntC_one _ _) ?_; intro w5 hk5 hg5)
    exact bodyPost_ret (results_bk2 ty_rnote rfl _ rfl _ rfl hk5 rfl) rfl ⟨nr0, rfl, nt_zero _, (HB.out.trans (HB2.out.mono HB.out.size)).grown hg5 (Nat.le_trans HB.out.size HB2.out.size) (fun j hj => by injection hj with hj; omega), fun z _ _ _ => nr0_off z⟩
  · rw [sane_yes h']
    obtain ⟨p1, p2⟩ := ne_no k
    clear h' k
    have a0 := HX2.out.c0
    go_wp2_with (refine wpList_store_bk ty_rnote HZ2.out rfl rfl (.tmp 4) (.tmp 28) rfl rfl (ntC .zero nr0) rfl rfl (ntC_one _ _) ?_; intro w5 hk5 hg5)
    exact bodyPost_ret (results_bk2 ty_rnote rfl _ rfl _ rfl hk5 rfl) rfl ⟨nr0, rfl, nt_zero _, (HB.out.trans (HB2.out.mono HB.out.size)).grown hg5 (Nat.le_trans HB.out.size HB2.out.size) (fun j hj => by injection hj with hj; omega), fun z _ _ _ => nr0_off z⟩
  · rw [sane_yes h']
    obtain ⟨p1, p2⟩ := ne_yes k
    obtain ⟨p3, p4⟩ := ne_no k'
    clear h' k k'
    have a0 := HX2.out.c0
    have b0 := HY2.out.c0
    go_wp2_with (refine wpList_store_bk ty_rnote HZ2.out rfl rfl (.tmp 4) (.tmp 28) rfl rfl (ntC .zero nr0) rfl rfl (ntC_one _ _) ?_; intro w5 hk5 hg5)
    exact bodyPost_ret (results_bk2 ty_rnote rfl _ rfl _ rfl hk5 rfl) rfl ⟨nr0, rfl, nt_zero _, (HB.out.trans (HB2.out.mono HB.out.size)).grown hg5 (Nat.le_trans HB.out.size HB2.out.size) (fun j hj => by injection hj with hj; omega), fun z _ _ _ => nr0_off z⟩

end Go.Proofs.Ytjpnihmijnpjcaa
