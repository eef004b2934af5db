/-
  Where a version stands among those that rise: the binary search.
-/
import Derived.Test.YtmhnjmfcenbogaaPb
namespace Go.Proofs.Ytmhnjmfcenbogaa
set_option maxRecDepth 100000
set_option linter.unusedVariables false
set_option linter.unusedSimpArgs false
open Go.RowKit

theorem splitV_at {P L1 L2 : List Vn} {z : Vn} (hs : P = L1 ++ L2) (h1 : ∀ y ∈ L1, y.L z) (h2 : ∀ y ∈ L2, ¬ y.L z) {i : Nat} {y : Vn} (hy : P[i]? = some y) : y.L z ↔ i < L1.length := by
  subst hs
  constructor
  · intro h
    apply Classical.byContradiction
    intro hc
    rw [List.getElem?_append_right (by omega)] at hy
    exact h2 y (List.mem_of_getElem? hy) h
  · intro h
    rw [List.getElem?_append_left h] at hy
    exact h1 y (List.mem_of_getElem? hy)

set_option maxHeartbeats 1000000 in
theorem bsearch_any (A : Option Addr) (n k : Nat) (P L1 L2 : List Vn) (vs : List Vr) (zc zx : Int) (zA : Option Addr) (zn zk : Nat) (hn : n ≤ 100000) (w : World) (h : VrsAt RVo w A n P vs) (hs : P = L1 ++ L2) (h1 : ∀ y ∈ L1, y.L (keyVn zc zx)) (h2 : ∀ y ∈ L2, ¬ y.L (keyVn zc zx)) :
    Calls Try.prog 47 #[.slice A n k, veV zc zx zA zn zk, .func (.func 31) #[] #[]] w fun e w' => e = .returned (.tuple #[.int .i64 (L1.length : Int), .bool (thereV zc zx L2)]) ∧ Below w.heap.size w w' := by
  have hP : P.length = n := h.k
  have HC := Lib.hid (fun (yb yx : Int) (yA : Option Addr) (yn yk : Nat) (V : World) => compare_any yb yx zc zx yA yn yk zA zn zk V)
  have HF := Lib.hid (fun y : Vn => cmpV_facts y zc zx)
  have HI := Lib.hid (fun i y hy => splitV_at hs h1 h2 (i := i) (y := y) hy)
  obtain ⟨m, hm⟩ : ∃ m, m = L1.length := ⟨_, rfl⟩
  have hmn : m ≤ n := by rw [hm, ← hP, hs, List.length_append]; omega
  have HT := Lib.hid (show (m = n → thereV zc zx L2 = false) ∧ (∀ y, P[m]? = some y → thereV zc zx L2 = decide (y.b = zc ∧ y.x = zx)) from ⟨fun e => by
    have : L2 = [] := List.eq_nil_of_length_eq_zero (by rw [hs, List.length_append] at hP; omega)
    rw [this]; rfl, fun y hy => by
    rw [hs, List.getElem?_append_right (by omega), hm, Nat.sub_self] at hy
    cases L2 with
    | nil => simp at hy
    | cons u r => simp at hy; subst hy; rfl⟩)
  have HIM := Lib.hid (fun i y hy => by have := HI.out i y hy; rw [← hm] at this; exact this)
  generalize thereV zc zx L2 = tb at *
  rw [← hm]
  have HL := Lib.hid h
  have HX := Lib.hid (Bk.new w (veC zc zx zA zn zk) 74)
  have HB := Lib.hid (below_new w (.cells (veC zc zx zA zn zk) 74))
  have eg : ∀ args w, (callFunc 31 args).run Try.prog w = .ok (.enter 31 args) w := enters_of Try.func31 (by kernel_rfl) rfl
  clear h h1 h2 hs hP hm HI
  go_enter Try.func47, Try.ntmps47
  go_wp2_with fail
  go_loopg [9, 10] n (fun kx s9 s10 wr => ∃ (lo hi : Nat), s9 = .int .i64 (lo : Int) ∧ s10 = .int .i64 (hi : Int) ∧ lo ≤ m ∧ m ≤ hi ∧ hi ≤ n ∧ hi - lo ≤ kx ∧ Hid (Below w.heap.size w wr) ∧ Hid (Bk wr w.heap.size (veC zc zx zA zn zk) 74))
  case atStart => exact ⟨0, n, rfl, rfl, Nat.zero_le _, hmn, Nat.le_refl _, by omega, HB, HX⟩
  case round =>
    obtain ⟨lo, hi, rfl, rfl, hlo, hhi, hin, hg, HG, HZ⟩ := hrel
    by_cases hlt : lo < hi
    · obtain ⟨c, hcd⟩ : ∃ c, c = (lo + hi) / 2 := ⟨_, rfl⟩
      have hci : (c : Int) = ((lo : Int) + (hi : Int)) / 2 := by omega
      have hcn : c < n := by omega
      obtain ⟨b, o, yA, yn, yk, hA, hbl, hget, q0, q1, q2, _⟩ := ver_cells rfl rv_oko HL.out hcn
      subst hA
      have HQ := Lib.hid (HIM.out c _ hget)
      have HFF := Lib.hid (HF.out (P.getD c vnD)).1
      generalize P.getD c vnD = y at *
      obtain ⟨yc, yx, yd⟩ := y
      simp only at q0 q1
      have hcc := HC.out yc yx yA yn yk
      have hcc : ∀ V, Calls Try.prog 31 #[veV yc yx yA yn yk, veV zc zx zA zn zk] V fun e w' => e = .returned (.int .i64 (cmpV yc yx zc zx)) ∧ Below V.heap.size V w' := hcc
      generalize cmpV yc yx zc zx = q at *
      have HCC := Lib.hid hcc
      have C0 : ∀ V, Since wr V → V.cell? ⟨b, o + c * 3, none⟩ = some (.int .i64 yc) := fun V hV => ((HG.out.trans (Below.mono hV HG.out.size)).cell (p := ⟨b, o + c * 3, none⟩) hbl).trans q0
      have C1 : ∀ V, Since wr V → V.cell? ⟨b, o + c * 3 + 1, none⟩ = some (.int .i64 yx) := fun V hV => ((HG.out.trans (Below.mono hV HG.out.size)).cell (p := ⟨b, o + c * 3 + 1, none⟩) hbl).trans q1
      have C2 : ∀ V, Since wr V → V.cell? ⟨b, o + c * 3 + 2, none⟩ = some (.slice yA yn yk) := fun V hV => ((HG.out.trans (Below.mono hV HG.out.size)).cell (p := ⟨b, o + c * 3 + 2, none⟩) hbl).trans q2
      have Z0 : ∀ V, Since wr V → V.cell? ⟨w.heap.size, 0, none⟩ = some (.int .i64 zc) := fun V hV => (HZ.out.below hV).e0
      have Z1 : ∀ V, Since wr V → V.cell? ⟨w.heap.size, 1, none⟩ = some (.int .i64 zx) := fun V hV => (HZ.out.below hV).e1
      have Z2 : ∀ V, Since wr V → V.cell? ⟨w.heap.size, 2, none⟩ = some (.slice zA zn zk) := fun V hV => (HZ.out.below hV).e2
      have hd1 : decide ((lo : Int) < (hi : Int)) = true := decide_eq_true (by omega)
      have hd2 : decide (lo < hi) = true := decide_eq_true hlt
      have hd3 : decide (c < n) = true := decide_eq_true hcn
      have hi3 : (c : Int) < (n : Int) := by omega
      clear q0 q1 q2 hbl hcc hget
      go_upto_region 5 with fail
      simp only [← hci]
      have HCI := Lib.hid hci
      have HCD := Lib.hid hcd
      clear hci hcd
      by_cases hp : c < m
      · have hneg : decide (q < 0) = true := decide_eq_true (HFF.out.2 (HQ.out.2 hp))
        clear hp
        refine wp_region_since (by kernel_rfl) ?_
        have hS : Since wr (World.drew wr) := (Below.refl _ _).drew
        refine wpAnyH_take (i := 0) (oi := ⟨some 24, _, _, _, _, _⟩) (v := ?_) rfl (by kernel_rfl) (by kernel_rfl) (by kernel_rfl) (fun _ _ _ h => h) (Or.inl ⟨by rfl, ?_⟩) hS ?_
        rotate_left
        · intro W hW; go_simp; with_reducible rfl
        try simp only [Act.put, List.setIfInBounds_toArray, List.set_cons_zero, List.set_cons_succ]
        refine wpAnyH_take (i := 1) (oi := ⟨some 25, _, _, _, _, _⟩) (v := ?_) rfl (by kernel_rfl) (by kernel_rfl) (by kernel_rfl) (fun _ _ _ h => h) (Or.inl ⟨by rfl, ?_⟩) hS ?_
        rotate_left
        · intro W hW; go_simp; with_reducible rfl
        try simp only [Act.put, List.setIfInBounds_toArray, List.set_cons_zero, List.set_cons_succ]
        refine wpAnyH_take (i := 2) (oi := ⟨some 26, _, _, _, _, _⟩) (v := ?_) rfl (by kernel_rfl) (by kernel_rfl) (by kernel_rfl) (fun _ _ _ h => h) (Or.inl ⟨by rfl, ?_⟩) hS ?_
        rotate_left
        · intro W hW; go_simp; with_reducible rfl
        try simp only [Act.put, List.setIfInBounds_toArray, List.set_cons_zero, List.set_cons_succ]
        refine wpAnyH_take (i := 3) (oi := ⟨some 27, _, _, _, _, _⟩) (v := ?_) rfl (by kernel_rfl) (by kernel_rfl) (by kernel_rfl) (fun _ _ _ h => h) (Or.inl ⟨by rfl, ?_⟩) hS ?_
        rotate_left
        · intro W hW; go_simp; with_reducible rfl
        try simp only [Act.put, List.setIfInBounds_toArray, List.set_cons_zero, List.set_cons_succ]
        refine wpAnyH_take (i := 4) (oi := ⟨some 28, _, _, _, _, _⟩) (v := ?_) rfl (by kernel_rfl) (by kernel_rfl) (by kernel_rfl) (fun _ _ _ h => h) (Or.inl ⟨by rfl, ?_⟩) hS ?_
        rotate_left
        · intro W hW; go_simp; with_reducible rfl
        try simp only [Act.put, List.setIfInBounds_toArray, List.set_cons_zero, List.set_cons_succ]
        refine wpAnyH_take (i := 5) (oi := ⟨some 29, _, _, _, _, _⟩) (v := ?_) rfl (by kernel_rfl) (by kernel_rfl) (by kernel_rfl) (fun _ _ _ h => h) (Or.inl ⟨by rfl, ?_⟩) hS ?_
        rotate_left
        · intro W hW; go_simp; with_reducible rfl
        try simp only [Act.put, List.setIfInBounds_toArray, List.set_cons_zero, List.set_cons_succ]
        refine wpAnyH_ready (rs := [6]) (by kernel_rfl) (by simp) ?_
        refine AllReadyH.cons (o := ⟨some 30, _, _, _, _, _⟩) rfl (fun Kr hKr => ?_) AllReadyH.nil
        -- operation 6: a step
        go_simp
        refine (HCC.out _).mono ?_
        rintro e w2 ⟨rfl, hb2⟩
        show Kr _ _
        refine hKr.out _ _ ?_ (fun _ => ?_)
        · exact since_trans hS hb2
        clear hKr Kr
        replace hS : Since wr w2 := since_trans hS hb2
        try simp only [Act.put, List.setIfInBounds_toArray, List.set_cons_zero, List.set_cons_succ]
        refine wpAnyH_take (i := 7) (oi := ⟨some 31, _, _, _, _, _⟩) (v := ?_) rfl (by kernel_rfl) (by kernel_rfl) (by kernel_rfl) (fun _ _ _ h => h) (Or.inl ⟨by rfl, ?_⟩) hS ?_
        rotate_left
        · intro W hW; go_simp; with_reducible rfl
        try simp only [Act.put, List.setIfInBounds_toArray, List.set_cons_zero, List.set_cons_succ]
        refine wpAnyH_done (by kernel_rfl) ?_ _
        go_wp2_with fail
        go_roundg (hi - (c + 1))
        case measure => have := HCD.out; omega
        case rel => exact ⟨c + 1, hi, by simp, rfl, by have := HQ.out.1 (HFF.out.1 (of_decide_eq_true hneg)); omega, hhi, hin, Nat.le_refl _, Lib.hid (HG.out.trans (Below.mono hS HG.out.size)), Lib.hid (HZ.out.below hS)⟩
      · have hneg : decide (q < 0) = false := decide_eq_false (fun h => hp (HQ.out.1 (HFF.out.1 h)))
        have HPP := Lib.hid hp
        clear hp
        refine wp_region_since (by kernel_rfl) ?_
        have hS : Since wr (World.drew wr) := (Below.refl _ _).drew
        refine wpAnyH_take (i := 0) (oi := ⟨some 24, _, _, _, _, _⟩) (v := ?_) rfl (by kernel_rfl) (by kernel_rfl) (by kernel_rfl) (fun _ _ _ h => h) (Or.inl ⟨by rfl, ?_⟩) hS ?_
        rotate_left
        · intro W hW; go_simp; with_reducible rfl
        try simp only [Act.put, List.setIfInBounds_toArray, List.set_cons_zero, List.set_cons_succ]
        refine wpAnyH_take (i := 1) (oi := ⟨some 25, _, _, _, _, _⟩) (v := ?_) rfl (by kernel_rfl) (by kernel_rfl) (by kernel_rfl) (fun _ _ _ h => h) (Or.inl ⟨by rfl, ?_⟩) hS ?_
        rotate_left
        · intro W hW; go_simp; with_reducible rfl
        try simp only [Act.put, List.setIfInBounds_toArray, List.set_cons_zero, List.set_cons_succ]
        refine wpAnyH_take (i := 2) (oi := ⟨some 26, _, _, _, _, _⟩) (v := ?_) rfl (by kernel_rfl) (by kernel_rfl) (by kernel_rfl) (fun _ _ _ h => h) (Or.inl ⟨by rfl, ?_⟩) hS ?_
        rotate_left
        · intro W hW; go_simp; with_reducible rfl
        try simp only [Act.put, List.setIfInBounds_toArray, List.set_cons_zero, List.set_cons_succ]
        refine wpAnyH_take (i := 3) (oi := ⟨some 27, _, _, _, _, _⟩) (v := ?_) rfl (by kernel_rfl) (by kernel_rfl) (by kernel_rfl) (fun _ _ _ h => h) (Or.inl ⟨by rfl, ?_⟩) hS ?_
        rotate_left
        · intro W hW; go_simp; with_reducible rfl
        try simp only [Act.put, List.setIfInBounds_toArray, List.set_cons_zero, List.set_cons_succ]
        refine wpAnyH_take (i := 4) (oi := ⟨some 28, _, _, _, _, _⟩) (v := ?_) rfl (by kernel_rfl) (by kernel_rfl) (by kernel_rfl) (fun _ _ _ h => h) (Or.inl ⟨by rfl, ?_⟩) hS ?_
        rotate_left
        · intro W hW; go_simp; with_reducible rfl
        try simp only [Act.put, List.setIfInBounds_toArray, List.set_cons_zero, List.set_cons_succ]
        refine wpAnyH_take (i := 5) (oi := ⟨some 29, _, _, _, _, _⟩) (v := ?_) rfl (by kernel_rfl) (by kernel_rfl) (by kernel_rfl) (fun _ _ _ h => h) (Or.inl ⟨by rfl, ?_⟩) hS ?_
        rotate_left
        · intro W hW; go_simp; with_reducible rfl
        try simp only [Act.put, List.setIfInBounds_toArray, List.set_cons_zero, List.set_cons_succ]
        refine wpAnyH_ready (rs := [6]) (by kernel_rfl) (by simp) ?_
        refine AllReadyH.cons (o := ⟨some 30, _, _, _, _, _⟩) rfl (fun Kr hKr => ?_) AllReadyH.nil
        -- operation 6: a step
        go_simp
        refine (HCC.out _).mono ?_
        rintro e w2 ⟨rfl, hb2⟩
        show Kr _ _
        refine hKr.out _ _ ?_ (fun _ => ?_)
        · exact since_trans hS hb2
        clear hKr Kr
        replace hS : Since wr w2 := since_trans hS hb2
        try simp only [Act.put, List.setIfInBounds_toArray, List.set_cons_zero, List.set_cons_succ]
        refine wpAnyH_take (i := 7) (oi := ⟨some 31, _, _, _, _, _⟩) (v := ?_) rfl (by kernel_rfl) (by kernel_rfl) (by kernel_rfl) (fun _ _ _ h => h) (Or.inl ⟨by rfl, ?_⟩) hS ?_
        rotate_left
        · intro W hW; go_simp; with_reducible rfl
        try simp only [Act.put, List.setIfInBounds_toArray, List.set_cons_zero, List.set_cons_succ]
        refine wpAnyH_done (by kernel_rfl) ?_ _
        go_wp2_with fail
        go_roundg (c - lo)
        case measure => have := HCD.out; omega
        case rel => exact ⟨lo, c, rfl, rfl, hlo, by have := HPP.out; omega, by omega, Nat.le_refl _, Lib.hid (HG.out.trans (Below.mono hS HG.out.size)), Lib.hid (HZ.out.below hS)⟩
    · obtain rfl : hi = lo := by omega
      obtain rfl : m = hi := by omega
      clear hlo hhi hin hg hlt
      have hd1 : decide ((m : Int) < (m : Int)) = false := decide_eq_false (by omega)
      have hd2 : decide (m < m) = false := decide_eq_false (by omega)
      rcases Nat.lt_or_ge m n with hlt | hge
      · obtain ⟨b, o, yA, yn, yk, hA, hbl, hget, q0, q1, q2, _⟩ := ver_cells rfl rv_oko HL.out hlt
        subst hA
        have HTT := Lib.hid (HT.out.2 _ hget)
        have HFF := Lib.hid (HF.out (P.getD m vnD)).2.1
        generalize P.getD m vnD = y at *
        obtain ⟨yc, yx, yd⟩ := y
        simp only at q0 q1
        have hcc := HC.out yc yx yA yn yk
        have hcc : ∀ V, Calls Try.prog 31 #[veV yc yx yA yn yk, veV zc zx zA zn zk] V fun e w' => e = .returned (.int .i64 (cmpV yc yx zc zx)) ∧ Below V.heap.size V w' := hcc
        generalize cmpV yc yx zc zx = q at *
        have HCC := Lib.hid hcc
        have C0 : ∀ V, Since wr V → V.cell? ⟨b, o + m * 3, none⟩ = some (.int .i64 yc) := fun V hV => ((HG.out.trans (Below.mono hV HG.out.size)).cell (p := ⟨b, o + m * 3, none⟩) hbl).trans q0
        have C1 : ∀ V, Since wr V → V.cell? ⟨b, o + m * 3 + 1, none⟩ = some (.int .i64 yx) := fun V hV => ((HG.out.trans (Below.mono hV HG.out.size)).cell (p := ⟨b, o + m * 3 + 1, none⟩) hbl).trans q1
        have C2 : ∀ V, Since wr V → V.cell? ⟨b, o + m * 3 + 2, none⟩ = some (.slice yA yn yk) := fun V hV => ((HG.out.trans (Below.mono hV HG.out.size)).cell (p := ⟨b, o + m * 3 + 2, none⟩) hbl).trans q2
        have Z0 : ∀ V, Since wr V → V.cell? ⟨w.heap.size, 0, none⟩ = some (.int .i64 zc) := fun V hV => (HZ.out.below hV).e0
        have Z1 : ∀ V, Since wr V → V.cell? ⟨w.heap.size, 1, none⟩ = some (.int .i64 zx) := fun V hV => (HZ.out.below hV).e1
        have Z2 : ∀ V, Since wr V → V.cell? ⟨w.heap.size, 2, none⟩ = some (.slice zA zn zk) := fun V hV => (HZ.out.below hV).e2
        have he1 : decide ((m : Int) < (n : Int)) = true := decide_eq_true (by omega)
        have he2 : decide (m < n) = true := decide_eq_true hlt
        have hi3 : (m : Int) < (n : Int) := by omega
        clear q0 q1 q2 hbl hcc hget
        obtain ⟨tt, htt⟩ : ∃ t : Bool, (q == 0) = t := ⟨_, rfl⟩
        have HTB := Lib.hid (show tt = tb from by
          rw [HTT.out, ← htt]
          apply Bool.eq_iff_iff.2
          rw [beq_iff_eq, decide_eq_true_iff]
          exact HFF.out)
        clear HTT HFF
        go_upto_region 8 with fail
        refine wp_region_since (by kernel_rfl) ?_
        have hS : Since wr (World.drew wr) := (Below.refl _ _).drew
        refine wpAnyH_take (i := 0) (oi := ⟨some 35, _, _, _, _, _⟩) (v := ?_) rfl (by kernel_rfl) (by kernel_rfl) (by kernel_rfl) (fun _ _ _ h => h) (Or.inl ⟨by rfl, ?_⟩) hS ?_
        rotate_left
        · intro W hW; go_simp; with_reducible rfl
        try simp only [Act.put, List.setIfInBounds_toArray, List.set_cons_zero, List.set_cons_succ]
        refine wpAnyH_take (i := 1) (oi := ⟨some 36, _, _, _, _, _⟩) (v := ?_) rfl (by kernel_rfl) (by kernel_rfl) (by kernel_rfl) (fun _ _ _ h => h) (Or.inl ⟨by rfl, ?_⟩) hS ?_
        rotate_left
        · intro W hW; go_simp; with_reducible rfl
        try simp only [Act.put, List.setIfInBounds_toArray, List.set_cons_zero, List.set_cons_succ]
        refine wpAnyH_take (i := 2) (oi := ⟨some 37, _, _, _, _, _⟩) (v := ?_) rfl (by kernel_rfl) (by kernel_rfl) (by kernel_rfl) (fun _ _ _ h => h) (Or.inl ⟨by rfl, ?_⟩) hS ?_
        rotate_left
        · intro W hW; go_simp; with_reducible rfl
        try simp only [Act.put, List.setIfInBounds_toArray, List.set_cons_zero, List.set_cons_succ]
        refine wpAnyH_take (i := 3) (oi := ⟨some 38, _, _, _, _, _⟩) (v := ?_) rfl (by kernel_rfl) (by kernel_rfl) (by kernel_rfl) (fun _ _ _ h => h) (Or.inl ⟨by rfl, ?_⟩) hS ?_
        rotate_left
        · intro W hW; go_simp; with_reducible rfl
        try simp only [Act.put, List.setIfInBounds_toArray, List.set_cons_zero, List.set_cons_succ]
        refine wpAnyH_take (i := 4) (oi := ⟨some 39, _, _, _, _, _⟩) (v := ?_) rfl (by kernel_rfl) (by kernel_rfl) (by kernel_rfl) (fun _ _ _ h => h) (Or.inl ⟨by rfl, ?_⟩) hS ?_
        rotate_left
        · intro W hW; go_simp; with_reducible rfl
        try simp only [Act.put, List.setIfInBounds_toArray, List.set_cons_zero, List.set_cons_succ]
        refine wpAnyH_take (i := 5) (oi := ⟨some 40, _, _, _, _, _⟩) (v := ?_) rfl (by kernel_rfl) (by kernel_rfl) (by kernel_rfl) (fun _ _ _ h => h) (Or.inl ⟨by rfl, ?_⟩) hS ?_
        rotate_left
        · intro W hW; go_simp; with_reducible rfl
        try simp only [Act.put, List.setIfInBounds_toArray, List.set_cons_zero, List.set_cons_succ]
        refine wpAnyH_take (i := 6) (oi := ⟨some 41, _, _, _, _, _⟩) (v := ?_) rfl (by kernel_rfl) (by kernel_rfl) (by kernel_rfl) (fun _ _ _ h => h) (Or.inl ⟨by rfl, ?_⟩) hS ?_
        rotate_left
        · intro W hW; go_simp; with_reducible rfl
        try simp only [Act.put, List.setIfInBounds_toArray, List.set_cons_zero, List.set_cons_succ]
        refine wpAnyH_take (i := 7) (oi := ⟨some 42, _, _, _, _, _⟩) (v := ?_) rfl (by kernel_rfl) (by kernel_rfl) (by kernel_rfl) (fun _ _ _ h => h) (Or.inl ⟨by rfl, ?_⟩) hS ?_
        rotate_left
        · intro W hW; go_simp; with_reducible rfl
        try simp only [Act.put, List.setIfInBounds_toArray, List.set_cons_zero, List.set_cons_succ]
        refine wpAnyH_take (i := 8) (oi := ⟨some 43, _, _, _, _, _⟩) (v := ?_) rfl (by kernel_rfl) (by kernel_rfl) (by kernel_rfl) (fun _ _ _ h => h) (Or.inl ⟨by rfl, ?_⟩) hS ?_
        rotate_left
        · intro W hW; go_simp; with_reducible rfl
        try simp only [Act.put, List.setIfInBounds_toArray, List.set_cons_zero, List.set_cons_succ]
        refine wpAnyH_take (i := 9) (oi := ⟨some 44, _, _, _, _, _⟩) (v := ?_) rfl (by kernel_rfl) (by kernel_rfl) (by kernel_rfl) (fun _ _ _ h => h) (Or.inl ⟨by rfl, ?_⟩) hS ?_
        rotate_left
        · intro W hW; go_simp; with_reducible rfl
        try simp only [Act.put, List.setIfInBounds_toArray, List.set_cons_zero, List.set_cons_succ]
        refine wpAnyH_take (i := 10) (oi := ⟨some 45, _, _, _, _, _⟩) (v := ?_) rfl (by kernel_rfl) (by kernel_rfl) (by kernel_rfl) (fun _ _ _ h => h) (Or.inl ⟨by rfl, ?_⟩) hS ?_
        rotate_left
        · intro W hW; go_simp; with_reducible rfl
        try simp only [Act.put, List.setIfInBounds_toArray, List.set_cons_zero, List.set_cons_succ]
        refine wpAnyH_ready (rs := [11]) (by kernel_rfl) (by simp) ?_
        refine AllReadyH.cons (o := ⟨some 46, _, _, _, _, _⟩) rfl (fun Kr hKr => ?_) AllReadyH.nil
        -- operation 11: a step
        go_simp
        refine (HCC.out _).mono ?_
        rintro e w2 ⟨rfl, hb2⟩
        show Kr _ _
        refine hKr.out _ _ ?_ (fun _ => ?_)
        · exact since_trans hS hb2
        clear hKr Kr
        replace hS : Since wr w2 := since_trans hS hb2
        try simp only [Act.put, List.setIfInBounds_toArray, List.set_cons_zero, List.set_cons_succ]
        refine wpAnyH_take (i := 12) (oi := ⟨some 47, _, _, _, _, _⟩) (v := ?_) rfl (by kernel_rfl) (by kernel_rfl) (by kernel_rfl) (fun _ _ _ h => h) (Or.inl ⟨by rfl, ?_⟩) hS ?_
        rotate_left
        · intro W hW; go_simp; with_reducible rfl
        try simp only [Act.put, List.setIfInBounds_toArray, List.set_cons_zero, List.set_cons_succ]
        refine wpAnyH_take (i := 13) (oi := ⟨some 48, _, _, _, _, _⟩) (v := ?_) rfl (by kernel_rfl) (by kernel_rfl) (by kernel_rfl) (fun _ _ _ h => h) (Or.inl ⟨by rfl, ?_⟩) hS ?_
        rotate_left
        · intro W hW; go_simp; with_reducible rfl
        try simp only [Act.put, List.setIfInBounds_toArray, List.set_cons_zero, List.set_cons_succ]
        refine wpAnyH_take (i := 14) (oi := ⟨some 6, _, _, _, _, _⟩) (v := ?_) rfl (by kernel_rfl) (by kernel_rfl) (by kernel_rfl) (fun _ _ _ h => h) (Or.inl ⟨by rfl, ?_⟩) hS ?_
        rotate_left
        · intro W hW; go_simp; with_reducible rfl
        try simp only [Act.put, List.setIfInBounds_toArray, List.set_cons_zero, List.set_cons_succ]
        refine wpAnyH_take (i := 15) (oi := ⟨some 7, _, _, _, _, _⟩) (v := ?_) rfl (by kernel_rfl) (by kernel_rfl) (by kernel_rfl) (fun _ _ _ h => h) (Or.inl ⟨by rfl, ?_⟩) hS ?_
        rotate_left
        · intro W hW; go_simp; with_reducible rfl
        try simp only [Act.put, List.setIfInBounds_toArray, List.set_cons_zero, List.set_cons_succ]
        refine wpAnyH_done (by kernel_rfl) ?_ _
        go_wp2_with fail
        go_ret2
        exact ⟨by rw [← HTB.out]; rfl, HG.out.trans (Below.mono hS HG.out.size)⟩
      · obtain rfl : m = n := by omega
        have HTB := Lib.hid (HT.out.1 rfl)
        clear hge hmn
        go_upto_region 8 with fail
        refine wp_region_since (by kernel_rfl) ?_
        have hS : Since wr (World.drew wr) := (Below.refl _ _).drew
        refine wpAnyH_take (i := 0) (oi := ⟨some 35, _, _, _, _, _⟩) (v := ?_) rfl (by kernel_rfl) (by kernel_rfl) (by kernel_rfl) (fun _ _ _ h => h) (Or.inl ⟨by rfl, ?_⟩) hS ?_
        rotate_left
        · intro W hW; go_simp; with_reducible rfl
        try simp only [Act.put, List.setIfInBounds_toArray, List.set_cons_zero, List.set_cons_succ]
        refine wpAnyH_take (i := 1) (oi := ⟨some 36, _, _, _, _, _⟩) (v := ?_) rfl (by kernel_rfl) (by kernel_rfl) (by kernel_rfl) (fun _ _ _ h => h) (Or.inl ⟨by rfl, ?_⟩) hS ?_
        rotate_left
        · intro W hW; go_simp; with_reducible rfl
        try simp only [Act.put, List.setIfInBounds_toArray, List.set_cons_zero, List.set_cons_succ]
        refine wpAnyH_take (i := 2) (oi := ⟨some 37, _, _, _, _, _⟩) (v := ?_) rfl (by kernel_rfl) (by kernel_rfl) (by kernel_rfl) (fun _ _ _ h => h) (Or.inl ⟨by rfl, ?_⟩) hS ?_
        rotate_left
        · intro W hW; go_simp; with_reducible rfl
        try simp only [Act.put, List.setIfInBounds_toArray, List.set_cons_zero, List.set_cons_succ]
        refine wpAnyH_take (i := 3) (oi := ⟨some 38, _, _, _, _, _⟩) (v := ?_) rfl (by kernel_rfl) (by kernel_rfl) (by kernel_rfl) (fun _ _ _ h => h) (Or.inl ⟨by rfl, ?_⟩) hS ?_
        rotate_left
        · intro W hW; go_simp; with_reducible rfl
        try simp only [Act.put, List.setIfInBounds_toArray, List.set_cons_zero, List.set_cons_succ]
        refine wpAnyH_take (i := 4) (oi := ⟨some 39, _, _, _, _, _⟩) (v := ?_) rfl (by kernel_rfl) (by kernel_rfl) (by kernel_rfl) (fun _ _ _ h => h) (Or.inl ⟨by rfl, ?_⟩) hS ?_
        rotate_left
        · intro W hW; go_simp; with_reducible rfl
        try simp only [Act.put, List.setIfInBounds_toArray, List.set_cons_zero, List.set_cons_succ]
        refine wpAnyH_take (i := 5) (oi := ⟨some 40, _, _, _, _, _⟩) (v := undef) rfl (by kernel_rfl) (by kernel_rfl) (by kernel_rfl) (fun _ _ _ h => h) (Or.inr ⟨by rfl, rfl⟩) hS ?_
        try simp only [Act.put, List.setIfInBounds_toArray, List.set_cons_zero, List.set_cons_succ]
        refine wpAnyH_take (i := 6) (oi := ⟨some 41, _, _, _, _, _⟩) (v := undef) rfl (by kernel_rfl) (by kernel_rfl) (by kernel_rfl) (fun _ _ _ h => h) (Or.inr ⟨by rfl, rfl⟩) hS ?_
        try simp only [Act.put, List.setIfInBounds_toArray, List.set_cons_zero, List.set_cons_succ]
        refine wpAnyH_take (i := 7) (oi := ⟨some 42, _, _, _, _, _⟩) (v := undef) rfl (by kernel_rfl) (by kernel_rfl) (by kernel_rfl) (fun _ _ _ h => h) (Or.inr ⟨by rfl, rfl⟩) hS ?_
        try simp only [Act.put, List.setIfInBounds_toArray, List.set_cons_zero, List.set_cons_succ]
        refine wpAnyH_take (i := 8) (oi := ⟨some 43, _, _, _, _, _⟩) (v := undef) rfl (by kernel_rfl) (by kernel_rfl) (by kernel_rfl) (fun _ _ _ h => h) (Or.inr ⟨by rfl, rfl⟩) hS ?_
        try simp only [Act.put, List.setIfInBounds_toArray, List.set_cons_zero, List.set_cons_succ]
        refine wpAnyH_take (i := 9) (oi := ⟨some 44, _, _, _, _, _⟩) (v := undef) rfl (by kernel_rfl) (by kernel_rfl) (by kernel_rfl) (fun _ _ _ h => h) (Or.inr ⟨by rfl, rfl⟩) hS ?_
        try simp only [Act.put, List.setIfInBounds_toArray, List.set_cons_zero, List.set_cons_succ]
        refine wpAnyH_take (i := 10) (oi := ⟨some 45, _, _, _, _, _⟩) (v := undef) rfl (by kernel_rfl) (by kernel_rfl) (by kernel_rfl) (fun _ _ _ h => h) (Or.inr ⟨by rfl, rfl⟩) hS ?_
        try simp only [Act.put, List.setIfInBounds_toArray, List.set_cons_zero, List.set_cons_succ]
        refine wpAnyH_take (i := 11) (oi := ⟨some 46, _, _, _, _, _⟩) (v := undef) rfl (by kernel_rfl) (by kernel_rfl) (by kernel_rfl) (fun _ _ _ h => h) (Or.inr ⟨by rfl, rfl⟩) hS ?_
        try simp only [Act.put, List.setIfInBounds_toArray, List.set_cons_zero, List.set_cons_succ]
        refine wpAnyH_take (i := 12) (oi := ⟨some 47, _, _, _, _, _⟩) (v := undef) rfl (by kernel_rfl) (by kernel_rfl) (by kernel_rfl) (fun _ _ _ h => h) (Or.inr ⟨by rfl, rfl⟩) hS ?_
        try simp only [Act.put, List.setIfInBounds_toArray, List.set_cons_zero, List.set_cons_succ]
        refine wpAnyH_take (i := 13) (oi := ⟨some 48, _, _, _, _, _⟩) (v := ?_) rfl (by kernel_rfl) (by kernel_rfl) (by kernel_rfl) (fun _ _ _ h => h) (Or.inl ⟨by rfl, ?_⟩) hS ?_
        rotate_left
        · intro W hW; go_simp; with_reducible rfl
        try simp only [Act.put, List.setIfInBounds_toArray, List.set_cons_zero, List.set_cons_succ]
        refine wpAnyH_take (i := 14) (oi := ⟨some 6, _, _, _, _, _⟩) (v := ?_) rfl (by kernel_rfl) (by kernel_rfl) (by kernel_rfl) (fun _ _ _ h => h) (Or.inl ⟨by rfl, ?_⟩) hS ?_
        rotate_left
        · intro W hW; go_simp; with_reducible rfl
        try simp only [Act.put, List.setIfInBounds_toArray, List.set_cons_zero, List.set_cons_succ]
        refine wpAnyH_take (i := 15) (oi := ⟨some 7, _, _, _, _, _⟩) (v := ?_) rfl (by kernel_rfl) (by kernel_rfl) (by kernel_rfl) (fun _ _ _ h => h) (Or.inl ⟨by rfl, ?_⟩) hS ?_
        rotate_left
        · intro W hW; go_simp; with_reducible rfl
        try simp only [Act.put, List.setIfInBounds_toArray, List.set_cons_zero, List.set_cons_succ]
        refine wpAnyH_done (by kernel_rfl) ?_ _
        go_wp2_with fail
        go_ret2
        exact ⟨by rw [HTB.out]; rfl, HG.out.trans (Below.mono hS HG.out.size)⟩
end Go.Proofs.Ytmhnjmfcenbogaa
