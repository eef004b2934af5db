/-
  What bytes tell: the document's Decode.
-/
import Derived.Test.YtjpnihmijnpjcaaNi
import Derived.Deep.CutRange
namespace Go.Proofs.Ytjpnihmijnpjcaa
set_option maxRecDepth 100000
set_option linter.unusedVariables false
set_option linter.unusedSimpArgs false
open Go.RowKit Wm Nn

theorem dec_boxed (w : World) (A : Option Addr) (c n : Nat) (l : List UInt8) (h : Lies w A c n l) (hn : n ≤ 100000) :
    Dec w ((w.alloc (.cells (ntC .zero nr0) 25)).alloc (.cells #[.slice A n c, .int .i64 0] 66)) w.heap.size (w.heap.size + 1) A c n 0 l := by
  have h1 := Bk.new w (ntC .zero nr0) 25
  have b1 := below_new w (.cells (ntC .zero nr0) 25)
  have b2 := below_new (w.alloc (.cells (ntC .zero nr0) 25)) (.cells #[.slice A n c, .int .i64 0] 66)
  have h2 := Bk.new (w.alloc (.cells (ntC .zero nr0) 25)) #[.slice A n c, .int .i64 0] 66
  have hz : (w.alloc (.cells (ntC .zero nr0) 25)).heap.size = w.heap.size + 1 := by simp
  rw [hz] at h2
  have hb := below_two b1 b2
  exact ⟨h1.below b2, ⟨h2, Nat.zero_le _, h.len, h.cap, by omega, (h.rd.below hb).more (by omega)⟩, hb, Nat.le_refl _, by omega⟩

set_option maxHeartbeats 4000000 in
theorem decode_any (A : Option Addr) (c n : Nat) (l : List UInt8) (w : World) (h : Lies w A c n l) (hn : n ≤ 100000) : Calls Try.prog 15 #[.slice A n c] w (DecodeOut w (decN l) (decE l) A n) := by
  have HD := Lib.hid (dec_boxed w A c n l h hn)
  have HLN := Lib.hid h.len
  have hcn := h.cap
  clear h
  obtain ⟨PO, hPO⟩ : ∃ PO, PO = DecodeOut w (decN l) (decE l) A n := ⟨_, rfl⟩
  rw [← hPO]
  have HPO := Lib.hid hPO
  clear hPO
  go_enter Try.func15, Try.ntmps15
  go_upto_region 2 with fail
  have hC : (#[.int .i64 0, .int .i64 0, .slice none 0 0, .slice none 0 0] : Array Value) = ntC .zero nr0 := rfl
  rw [hC]
  clear hC
  generalize (w.alloc (.cells (ntC .zero nr0) 25)).alloc (.cells #[.slice A n c, .int .i64 0] 66) = w0 at *
  obtain ⟨z, hz⟩ : ∃ z, z = w.heap.size := ⟨_, rfl⟩
  obtain ⟨rr, hrr⟩ : ∃ rr, rr = w.heap.size + 1 := ⟨_, rfl⟩
  rw [← hrr] at HD ⊢
  rw [← hz] at HD ⊢
  clear hz hrr
  -- the first number
  rcases Nat.lt_or_ge n 1 with h1 | h1
  · have HE := Lib.hid (decE_a (b := l) (by have := HLN.out; omega))
    go_wp2_with fail
    refine (dshort HD.out 1 (by omega) (by omega) (by omega)).mono ?_
    rintro e w1 ⟨rfl, HD1, _⟩
    go_wp2_with (refine wpList_store_bk ty_rnote HD1.out.zb rfl rfl (.tmp 2) (.tmp 26) rfl rfl (ntC .zero nr0) rfl rfl (ntC_one _ _) ?_; intro w5 hk5 hg5)
    exact bodyPost_ret (results_bk2 ty_rnote rfl _ rfl _ rfl hk5 rfl) rfl (by rw [HPO.out]; exact HD1.out.no hg5 HE.out (by decide))
  go_wp2_with fail
  refine (dget HD.out 1 1 1 rfl (by omega) (by omega) rfl (by omega)).mono ?_
  rintro e w1 ⟨rfl, HD1, _⟩
  clear HD
  have hK : num l 0 1 ≤ 255 := by have := num_lt l 0 1; omega
  obtain ⟨K, hKe⟩ : ∃ K, K = num l 0 1 := ⟨_, rfl⟩
  rw [← hKe] at hK ⊢
  have HK := Lib.hid hKe
  clear hKe
  go_upto_region 5 with fail
  -- the second
  rcases Nat.lt_or_ge n 7 with h2 | h2
  · have HE := Lib.hid (decE_a (b := l) (by have := HLN.out; omega))
    go_wp2_with fail
    refine (dshort HD1.out 6 (by omega) (by omega) (by omega)).mono ?_
    rintro e w2 ⟨rfl, HD2, _⟩
    go_wp2_with (refine wpList_store_bk ty_rnote HD2.out.zb rfl rfl (.tmp 2) (.tmp 35) rfl rfl (ntC .zero nr0) rfl rfl (ntC_one _ _) ?_; intro w5 hk5 hg5)
    exact bodyPost_ret (results_bk2 ty_rnote rfl _ rfl _ rfl hk5 rfl) rfl (by rw [HPO.out]; exact HD2.out.no hg5 HE.out (by decide))
  go_wp2_with fail
  refine (dget HD1.out 6 6 7 rfl (by omega) (by omega) rfl (by omega)).mono ?_
  rintro e w2 ⟨rfl, HD2, _⟩
  clear HD1
  have hS : num l 1 6 ≤ 281474976710655 := by have := num_lt l 1 6; omega
  obtain ⟨S, hSe⟩ : ∃ S, S = num l 1 6 := ⟨_, rfl⟩
  rw [← hSe] at hS ⊢
  have HS := Lib.hid hSe
  clear hSe
  go_upto_region 8 with fail
  -- how many images
  rcases Nat.lt_or_ge n 9 with h3 | h3
  · have HE := Lib.hid (decE_a (b := l) (by have := HLN.out; omega))
    go_wp2_with fail
    refine (dshort HD2.out 2 (by omega) (by omega) (by omega)).mono ?_
    rintro e w3 ⟨rfl, HD3, _⟩
    go_wp2_with (refine wpList_store_bk ty_rnote HD3.out.zb rfl rfl (.tmp 2) (.tmp 44) rfl rfl (ntC .zero nr0) rfl rfl (ntC_one _ _) ?_; intro w5 hk5 hg5)
    exact bodyPost_ret (results_bk2 ty_rnote rfl _ rfl _ rfl hk5 rfl) rfl (by rw [HPO.out]; exact HD3.out.no hg5 HE.out (by decide))
  go_wp2_with fail
  refine (dget HD2.out 2 2 9 rfl (by omega) (by omega) rfl (by omega)).mono ?_
  rintro e w3 ⟨rfl, HD3, _⟩
  clear HD2
  have hM : num l 7 2 ≤ 65535 := by have := num_lt l 7 2; omega
  obtain ⟨mm, hMe⟩ : ∃ mm, mm = num l 7 2 := ⟨_, rfl⟩
  rw [← hMe] at hM ⊢
  have HM : Hid (mOf l = mm) := Lib.hid hMe.symm
  clear hMe h1 h2
  go_upto_region 11 with fail
  rcases Nat.lt_or_ge 256 mm with h4 | h4
  · have HE := Lib.hid (decE_b (b := l) (by have := HLN.out; omega) (by rw [HM.out]; exact h4))
    obtain ⟨g1, g2⟩ := gt_yes (a := (mm : Int)) (b := 256) (by omega)
    obtain ⟨g3, g4⟩ := gtn_yes h4
    go_wp2_with (refine wpList_store_bk ty_rnote HD3.out.zb rfl rfl (.tmp 2) (.tmp 48) rfl rfl (ntC .zero nr0) rfl rfl (ntC_one _ _) ?_; intro w5 hk5 hg5)
    exact bodyPost_ret (results_bk2 ty_rnote rfl _ rfl _ rfl hk5 rfl) rfl (by rw [HPO.out]; exact HD3.out.no hg5 HE.out (by decide))
  obtain ⟨g1, g2⟩ := gt_no (a := (mm : Int)) (b := 256) (by omega)
  obtain ⟨g3, g4⟩ := gtn_no (a := mm) (b := 256) (by omega)
  go_upto_region 14 with fail
  have HG := Lib.hid (Bk.new w3 (outK (K : Int) (S : Int) (.slice none 0 0) (.slice none 0 0)) 25)
  have HD4 := Lib.hid (HD3.out.below (below_new w3 (.cells (outK (K : Int) (S : Int) (.slice none 0 0) (.slice none 0 0)) 25)))
  have HGR : Hid (rr < w3.heap.size) := Lib.hid HD3.out.cu.lt
  have hC : (#[.int .i64 (K : Int), .int .i64 (S : Int), .slice none 0 0, .slice none 0 0] : Array Value) = outK (K : Int) (S : Int) (.slice none 0 0) (.slice none 0 0) := rfl
  rw [hC]
  clear hC HD3 g1 g2 g3 g4
  generalize w3.alloc (.cells (outK (K : Int) (S : Int) (.slice none 0 0) (.slice none 0 0)) 25) = w4 at *
  obtain ⟨g, hg⟩ : ∃ g, g = w3.heap.size := ⟨_, rfl⟩
  rw [← hg] at HG HGR ⊢
  clear hg
  go_wp2_with fail
  go_loopg [10] mm (fun gn i wr => ∃ (j k : Nat) (V : Value) (rs : List Ir), i = .int .i64 (j : Int) ∧ j + gn = mm ∧ k = 9 + 33 * j ∧ Hid (Dec w wr z rr A c n k l) ∧ Hid (Bk wr g (outK (K : Int) (S : Int) V (.slice none 0 0)) 25) ∧ Hid (Imz wr g V (.slice none 0 0) rs (tIms l j)))
  case atStart => exact ⟨0, 9, _, [], rfl, by omega, rfl, HD4, HG, Lib.hid (Imz.nil _ _)⟩
  case round =>
    obtain ⟨j, k, V, rs, rfl, hog, hk, HD, HG, HI⟩ := hrel
    rcases Nat.lt_or_ge j mm with hlt | hge
    · have hdj : decide (j < mm) = true := decide_eq_true hlt
      have hdi : decide ((j : Int) < (mm : Int)) = true := decide_eq_true (by omega)
      go_wp2_with fail
      refine (dleft HD.out).mono ?_
      rintro e w5 ⟨rfl, HD5, hg5⟩
      have HG5 := Lib.hid (HG.out.far hg5.out (fun e => by have := HGR.out; injection e with e; omega))
      have HI5 := Lib.hid (HI.out.turn (S := fun q => q = rr) ((Turn.refl _ _).grown hg5.out (fun q e => .inl (by injection e with e; exact e.symm))) (fun q e => .inl (by have := HGR.out; omega)))
      clear HD HG HI hg5
      rcases Nat.lt_or_ge n (k + 33) with hs | hs
      · have hd1 : decide ((n : Int) - (k : Int) < 33) = true := decide_eq_true (by omega)
        have HE := Lib.hid (decE_c (b := l) (by rw [HM.out]; omega) (by rw [HM.out, HLN.out]; omega))
        go_wp2_with (refine wpList_store_bk ty_rnote HD5.out.zb rfl rfl (.tmp 2) (.tmp 63) rfl rfl (ntC .zero nr0) rfl rfl (ntC_one _ _) ?_; intro w6 hk6 hg6)
        exact bodyPost_ret (results_bk2 ty_rnote rfl _ rfl _ rfl hk6 rfl) rfl (by rw [HPO.out]; exact HD5.out.no hg6 HE.out (by decide))
      have hd1 : decide ((n : Int) - (k : Int) < 33) = false := decide_eq_false (by omega)
      go_upto_region 19 with fail
      obtain ⟨b, o, y, hA, hbr, hcy, hy, hnum⟩ := HD5.out.byte (k := k) (by omega)
      subst hA
      have HIM : Hid (tIms l (j + 1) = tIms l j ++ [⟨(y : Int), (l.drop (k + 1)).take 32⟩]) := Lib.hid (by rw [tIms_step, ← hnum, hk]; unfold tIm; rw [show 9 + 33 * j + 1 = 10 + 33 * j by omega])
      have HYO : Hid (okI (y : Int)) := Lib.hid (by unfold okI; omega)
      have HVB : Hid (∀ q, V.ownBlock = some q → g < q ∧ q < w5.heap.size) := Lib.hid (fun q e => by have := HI5.out.own.lt q e; omega)
      have r1 : ∀ W, Turn (fun q => q = g ∨ V.ownBlock = some q) w5 W → W.cell? ⟨rr, 1, none⟩ = some (.int .i64 (k : Int)) := fun W hW => hW.cell HD5.out.cu.c1 (fun hq => by
        have h1 := HGR.out
        rcases hq with hq | hq
        · have h2 : rr = g := hq
          omega
        · have h2 := HVB.out rr hq
          omega)
      have cb : ∀ W, Turn (fun q => q = g ∨ V.ownBlock = some q) w5 W → W.cell? ⟨b, o + k, none⟩ = some (.int .u8 (y : Int)) := fun W hW => hW.cell hcy (fun hq => by
        have h1 := HGR.out
        rcases hq with hq | hq
        · have h2 : b = g := hq
          omega
        · have h2 := HVB.out b hq
          omega)
      have HHK := Lib.hid hk
      have HSB : Hid (Below w5.heap.size w5 (World.drew w5)) := Lib.hid ((Below.refl _ _).drew)
      clear hcy hnum hk
      have hk0 : (k : Int) < (n : Int) := by omega
      have hk2 : (k : Int) + 33 ≤ (n : Int) := by omega
      have hk3 : (k : Int) + 33 ≤ (c : Int) := by omega
      have hkc : k + 1 < c ∧ ¬ c = k + 1 := by omega
      obtain ⟨hkc1, hkc2⟩ := hkc
      have e1 : IntKind.i64.wrap ((k : Int) + 1) = (k : Int) + 1 := IntWalk.i64_in _ ⟨by omega, by omega⟩
      have e2 : IntKind.i64.wrap ((k : Int) + 33) = (k : Int) + 33 := IntWalk.i64_in _ ⟨by omega, by omega⟩
      have ey : IntKind.i64.wrap (y : Int) = (y : Int) := IntWalk.i64_in _ ⟨by omega, by omega⟩
      have e5 : (k : Int) + 1 ≤ (k : Int) + 33 := by omega
      have e6 : (0 : Int) ≤ (k : Int) + 1 := by omega
      have e8 : (0 : Int) ≤ (k : Int) + 33 := by omega
      have e3 : ((k : Int) + 1).toNat = k + 1 := by omega
      have e4 : ((k : Int) + 33).toNat = k + 33 := by clear e3; omega
      go_cut [] from 64 to 91 (fun wc => ∃ (V6 : Value) (r : Ir), Hid (Dec w wc z rr (some ⟨b, o, none⟩) c n k l) ∧ Hid (Bk wc g (outK (K : Int) (S : Int) V6 (.slice none 0 0)) 25) ∧ Hid (Imz wc g V6 (.slice none 0 0) (rs ++ [r]) (tIms l (j + 1))))
      case first =>
        refine wp_region_turn (X := (fun q => q = g ∨ V.ownBlock = some q)) (by kernel_rfl) ?_
        have hS : Turn (fun q => q = g ∨ V.ownBlock = some q) w5 (World.drew w5) := (Turn.refl _ _).drew
        refine wpAnyH_take (i := 0) (oi := ⟨some 64, _, _, _, _, _⟩) (v := ?_) rfl (by kernel_rfl) (by kernel_rfl) (by kernel_rfl) (fun _ _ _ h => h) (Or.inl ⟨by rfl, ?_⟩) hS ?_
        rotate_left
        · intro W hW; go_simp; with_reducible rfl
        try simp only [Act.put, List.setIfInBounds_toArray, List.set_cons_zero, List.set_cons_succ]
        refine wpAnyH_take (i := 2) (oi := ⟨some 66, _, _, _, _, _⟩) (v := ?_) rfl (by kernel_rfl) (by kernel_rfl) (by kernel_rfl) (fun _ _ _ h => h) (Or.inl ⟨by rfl, ?_⟩) hS ?_
        rotate_left
        · intro W hW; go_simp; with_reducible rfl
        try simp only [Act.put, List.setIfInBounds_toArray, List.set_cons_zero, List.set_cons_succ]
        refine wpAnyH_take (i := 3) (oi := ⟨some 67, _, _, _, _, _⟩) (v := ?_) rfl (by kernel_rfl) (by kernel_rfl) (by kernel_rfl) (fun _ _ _ h => h) (Or.inl ⟨by rfl, ?_⟩) hS ?_
        rotate_left
        · intro W hW; go_simp; with_reducible rfl
        try simp only [Act.put, List.setIfInBounds_toArray, List.set_cons_zero, List.set_cons_succ]
        refine wpAnyH_take (i := 4) (oi := ⟨some 68, _, _, _, _, _⟩) (v := ?_) rfl (by kernel_rfl) (by kernel_rfl) (by kernel_rfl) (fun _ _ _ h => h) (Or.inl ⟨by rfl, ?_⟩) hS ?_
        rotate_left
        · intro W hW; go_simp; with_reducible rfl
        try simp only [Act.put, List.setIfInBounds_toArray, List.set_cons_zero, List.set_cons_succ]
        refine wpAnyH_take (i := 5) (oi := ⟨some 69, _, _, _, _, _⟩) (v := ?_) rfl (by kernel_rfl) (by kernel_rfl) (by kernel_rfl) (fun _ _ _ h => h) (Or.inl ⟨by rfl, ?_⟩) hS ?_
        rotate_left
        · intro W hW; go_simp; with_reducible rfl
        try simp only [Act.put, List.setIfInBounds_toArray, List.set_cons_zero, List.set_cons_succ]
        refine wpAnyH_take (i := 6) (oi := ⟨some 70, _, _, _, _, _⟩) (v := ?_) rfl (by kernel_rfl) (by kernel_rfl) (by kernel_rfl) (fun _ _ _ h => h) (Or.inl ⟨by rfl, ?_⟩) hS ?_
        rotate_left
        · intro W hW; go_simp; with_reducible rfl
        try simp only [Act.put, List.setIfInBounds_toArray, List.set_cons_zero, List.set_cons_succ]
        refine wpAnyH_take (i := 7) (oi := ⟨some 71, _, _, _, _, _⟩) (v := ?_) rfl (by kernel_rfl) (by kernel_rfl) (by kernel_rfl) (fun _ _ _ h => h) (Or.inl ⟨by rfl, ?_⟩) hS ?_
        rotate_left
        · intro W hW; go_simp; with_reducible rfl
        try simp only [Act.put, List.setIfInBounds_toArray, List.set_cons_zero, List.set_cons_succ]
        refine wpAnyH_take (i := 8) (oi := ⟨some 72, _, _, _, _, _⟩) (v := ?_) rfl (by kernel_rfl) (by kernel_rfl) (by kernel_rfl) (fun _ _ _ h => h) (Or.inl ⟨by rfl, ?_⟩) hS ?_
        rotate_left
        · intro W hW; go_simp; with_reducible rfl
        try simp only [Act.put, List.setIfInBounds_toArray, List.set_cons_zero, List.set_cons_succ]
        refine wpAnyH_take (i := 9) (oi := ⟨some 73, _, _, _, _, _⟩) (v := ?_) rfl (by kernel_rfl) (by kernel_rfl) (by kernel_rfl) (fun _ _ _ h => h) (Or.inl ⟨by rfl, ?_⟩) hS ?_
        rotate_left
        · intro W hW; go_simp; with_reducible rfl
        try simp only [Act.put, List.setIfInBounds_toArray, List.set_cons_zero, List.set_cons_succ]
        refine wpAnyH_take (i := 11) (oi := ⟨some 75, _, _, _, _, _⟩) (v := ?_) rfl (by kernel_rfl) (by kernel_rfl) (by kernel_rfl) (fun _ _ _ h => h) (Or.inl ⟨by rfl, ?_⟩) hS ?_
        rotate_left
        · intro W hW; go_simp; with_reducible rfl
        try simp only [Act.put, List.setIfInBounds_toArray, List.set_cons_zero, List.set_cons_succ]
        refine wpAnyH_take (i := 12) (oi := ⟨some 76, _, _, _, _, _⟩) (v := ?_) rfl (by kernel_rfl) (by kernel_rfl) (by kernel_rfl) (fun _ _ _ h => h) (Or.inl ⟨by rfl, ?_⟩) hS ?_
        rotate_left
        · intro W hW; go_simp; with_reducible rfl
        try simp only [Act.put, List.setIfInBounds_toArray, List.set_cons_zero, List.set_cons_succ]
        refine wpAnyH_take (i := 13) (oi := ⟨some 77, _, _, _, _, _⟩) (v := ?_) rfl (by kernel_rfl) (by kernel_rfl) (by kernel_rfl) (fun _ _ _ h => h) (Or.inl ⟨by rfl, ?_⟩) hS ?_
        rotate_left
        · intro W hW; go_simp; with_reducible rfl
        try simp only [Act.put, List.setIfInBounds_toArray, List.set_cons_zero, List.set_cons_succ]
        refine wpAnyH_take (i := 14) (oi := ⟨some 78, _, _, _, _, _⟩) (v := ?_) rfl (by kernel_rfl) (by kernel_rfl) (by kernel_rfl) (fun _ _ _ h => h) (Or.inl ⟨by rfl, ?_⟩) hS ?_
        rotate_left
        · intro W hW; go_simp; with_reducible rfl
        try simp only [Act.put, List.setIfInBounds_toArray, List.set_cons_zero, List.set_cons_succ]
        refine wpAnyH_take (i := 15) (oi := ⟨some 79, _, _, _, _, _⟩) (v := ?_) rfl (by kernel_rfl) (by kernel_rfl) (by kernel_rfl) (fun _ _ _ h => h) (Or.inl ⟨by rfl, ?_⟩) hS ?_
        rotate_left
        · intro W hW; go_simp; with_reducible rfl
        try simp only [Act.put, List.setIfInBounds_toArray, List.set_cons_zero, List.set_cons_succ]
        refine wpAnyH_take (i := 16) (oi := ⟨some 80, _, _, _, _, _⟩) (v := ?_) rfl (by kernel_rfl) (by kernel_rfl) (by kernel_rfl) (fun _ _ _ h => h) (Or.inl ⟨by rfl, ?_⟩) hS ?_
        rotate_left
        · intro W hW; go_simp; with_reducible rfl
        try simp only [Act.put, List.setIfInBounds_toArray, List.set_cons_zero, List.set_cons_succ]
        refine wpAnyH_take (i := 17) (oi := ⟨some 81, _, _, _, _, _⟩) (v := ?_) rfl (by kernel_rfl) (by kernel_rfl) (by kernel_rfl) (fun _ _ _ h => h) (Or.inl ⟨by rfl, ?_⟩) hS ?_
        rotate_left
        · intro W hW; go_simp; with_reducible rfl
        try simp only [Act.put, List.setIfInBounds_toArray, List.set_cons_zero, List.set_cons_succ]
        refine wpAnyH_take (i := 18) (oi := ⟨some 82, _, _, _, _, _⟩) (v := ?_) rfl (by kernel_rfl) (by kernel_rfl) (by kernel_rfl) (fun _ _ _ h => h) (Or.inl ⟨by rfl, ?_⟩) hS ?_
        rotate_left
        · intro W hW; go_simp; with_reducible rfl
        try simp only [Act.put, List.setIfInBounds_toArray, List.set_cons_zero, List.set_cons_succ]
        refine wpAnyH_take (i := 19) (oi := ⟨some 83, _, _, _, _, _⟩) (v := ?_) rfl (by kernel_rfl) (by kernel_rfl) (by kernel_rfl) (fun _ _ _ h => h) (Or.inl ⟨by rfl, ?_⟩) hS ?_
        rotate_left
        · intro W hW; go_simp; with_reducible rfl
        try simp only [Act.put, List.setIfInBounds_toArray, List.set_cons_zero, List.set_cons_succ]
        refine wpAnyH_take (i := 20) (oi := ⟨some 84, _, _, _, _, _⟩) (v := ?_) rfl (by kernel_rfl) (by kernel_rfl) (by kernel_rfl) (fun _ _ _ h => h) (Or.inl ⟨by rfl, ?_⟩) hS ?_
        rotate_left
        · intro W hW; go_simp; with_reducible rfl
        try simp only [Act.put, List.setIfInBounds_toArray, List.set_cons_zero, List.set_cons_succ]
        refine wpAnyH_take (i := 21) (oi := ⟨some 85, _, _, _, _, _⟩) (v := ?_) rfl (by kernel_rfl) (by kernel_rfl) (by kernel_rfl) (fun _ _ _ h => h) (Or.inl ⟨by rfl, ?_⟩) hS ?_
        rotate_left
        · intro W hW; go_simp; with_reducible rfl
        try simp only [Act.put, List.setIfInBounds_toArray, List.set_cons_zero, List.set_cons_succ]
        refine wpAnyH_take (i := 22) (oi := ⟨some 86, _, _, _, _, _⟩) (v := ?_) rfl (by kernel_rfl) (by kernel_rfl) (by kernel_rfl) (fun _ _ _ h => h) (Or.inl ⟨by rfl, ?_⟩) hS ?_
        rotate_left
        · intro W hW; go_simp; with_reducible rfl
        try simp only [Act.put, List.setIfInBounds_toArray, List.set_cons_zero, List.set_cons_succ]
        refine wpAnyH_ready (rs := [1, 10]) (by kernel_rfl) (by simp) ?_
        refine AllReadyH.cons (o := ⟨some 65, _, _, _, _, _⟩) rfl (fun Kr hKr => ?_) (AllReadyH.cons (o := ⟨some 74, _, _, _, _, _⟩) rfl (fun Kr hKr => ?_) AllReadyH.nil)
        · skip
          -- operation 1: a step
          try rw [if_pos (by kernel_rfl)]
          have q2 : World.cell? _ ⟨g, 2, none⟩ = some V := (HG5.out.below HSB.out).c 2 _ rfl
          go_simp
          clear q2
          show Kr _ _
          refine hKr.out _ _ ?_ (fun _ => ?_)
          · exact hS
          clear hKr Kr
          try simp only [Act.put, List.setIfInBounds_toArray, List.set_cons_zero, List.set_cons_succ]
          refine wpAnyH_ready (rs := [10]) (by kernel_rfl) (by simp) ?_
          refine AllReadyH.cons (o := ⟨some 74, _, _, _, _, _⟩) rfl (fun Kr hKr => ?_) AllReadyH.nil
          -- operation 10: a step
          try rw [if_pos (by kernel_rfl)]
          refine wp_build_none rfl ?_
          intro V1 h1 hle1 how1 hlt1 hx1
          have HOW := Lib.hid how1
          have HH1 := Lib.hid (And.intro (Nat.le_trans HSB.out.size hle1) hlt1)
          replace HSB := Lib.hid (HSB.out.trans (hx1.mono HSB.out.size))
          clear how1 hle1 hlt1 hx1
          show Kr _ _
          refine hKr.out _ _ ?_ (fun _ => ?_)
          · exact Turn.ofBelow HSB.out
          clear hKr Kr
          replace hS : Turn (fun q => q = g ∨ V.ownBlock = some q) w5 V1 := Turn.ofBelow HSB.out
          try simp only [Act.put, List.setIfInBounds_toArray, List.set_cons_zero, List.set_cons_succ]
          refine wpAnyH_ready (rs := [23]) (by kernel_rfl) (by simp) ?_
          refine AllReadyH.cons (o := ⟨some 87, _, _, _, _, _⟩) rfl (fun Kr hKr => ?_) AllReadyH.nil
          -- operation 23: a step
          try rw [if_pos (by kernel_rfl)]
          refine wp_app32 HOW.out (Nat.le_of_lt HH1.out.2) (.tmp 74) (.tmp 86) rfl rfl _ ((l.drop (k + 1)).take 32) _ _ rfl (by omega) ?_ ?_ ?_
          · refine Rd.cut ((HD5.out.cu.rd.below' HSB.out (Nat.le_of_lt HD5.out.cu.lt)).more ?_) (k + 1) 32 _ (fun b' o' e hk => ?_)
            · have := HD5.out.cu.lt; have := HSB.out.size; omega
            · injection e with e; injection e with e8 e9; subst e8 e9; first | rfl | (exfalso; omega)
          · have := HLN.out; rw [List.length_take, List.length_drop]; omega
          intro b1 c1 V2 hL2 hle2 hlt2 hg2
          have HL2 := Lib.hid hL2
          have HB2 := Lib.hid (And.intro (Nat.le_trans HH1.out.1 hle2) hlt2)
          replace HSB := Lib.hid (HSB.out.grown hg2 HSB.out.size (fun q e => by injection e with e; have := HH1.out.1; omega))
          clear hL2 hle2 hlt2 hg2
          show Kr _ _
          refine hKr.out _ _ ?_ (fun _ => ?_)
          · exact Turn.ofBelow HSB.out
          clear hKr Kr
          replace hS : Turn (fun q => q = g ∨ V.ownBlock = some q) w5 V2 := Turn.ofBelow HSB.out
          try simp only [Act.put, List.setIfInBounds_toArray, List.set_cons_zero, List.set_cons_succ]
          refine wpAnyH_take (i := 24) (oi := ⟨some 88, _, _, _, _, _⟩) (v := ?_) rfl (by kernel_rfl) (by kernel_rfl) (by kernel_rfl) (fun _ _ _ h => h) (Or.inl ⟨by rfl, ?_⟩) hS ?_
          rotate_left
          · intro W hW; go_simp; with_reducible rfl
          try simp only [Act.put, List.setIfInBounds_toArray, List.set_cons_zero, List.set_cons_succ]
          refine wpAnyH_ready (rs := [25]) (by kernel_rfl) (by simp) ?_
          refine AllReadyH.cons (o := ⟨some 89, _, _, _, _, _⟩) rfl (fun Kr hKr => ?_) AllReadyH.nil
          -- operation 25: a step
          try rw [if_pos (by kernel_rfl)]
          refine wp_build_im (.tmp 88) rfl (y : Int) (some ⟨b1, 0, none⟩) 32 c1 rfl ?_
          intro V3 g3 hle3 hlt3 hat3 hx3
          have HAT := Lib.hid hat3
          have HL3 := Lib.hid (HL2.out.up hx3)
          have HB3 := Lib.hid (And.intro HB2.out.1 (Nat.lt_of_lt_of_le HB2.out.2 hx3.size))
          replace HSB := Lib.hid (HSB.out.trans (hx3.mono HSB.out.size))
          clear hat3 hx3 hle3 hlt3
          show Kr _ _
          refine hKr.out _ _ ?_ (fun _ => ?_)
          · exact Turn.ofBelow HSB.out
          clear hKr Kr
          replace hS : Turn (fun q => q = g ∨ V.ownBlock = some q) w5 V3 := Turn.ofBelow HSB.out
          try simp only [Act.put, List.setIfInBounds_toArray, List.set_cons_zero, List.set_cons_succ]
          refine wpAnyH_ready (rs := [26]) (by kernel_rfl) (by simp) ?_
          refine AllReadyH.cons (o := ⟨some 90, _, _, _, _, _⟩) rfl (fun Kr hKr => ?_) AllReadyH.nil
          -- operation 26: a step
          try rw [if_pos (by kernel_rfl)]
          refine Rk.wp_append ri_ok (.tmp 65) (.tmp 89) rfl (g + 1) V rs [⟨(y : Int), some ⟨b1, 0, none⟩, 32, c1⟩] rfl (HI5.out.own.below HSB.out) _ 1 1 rfl HAT.out rfl (.inr ⟨_, _, rfl⟩) (by have h1 := HI5.out.rl; rw [tIms_len] at h1; rw [List.length_singleton]; omega) (by have := HSB.out.size; have := HG5.out.lt; omega) ?_
          intro v8 w8 ho8 hg8 ha8
          obtain ⟨A6, n6, c6, rfl⟩ := own_sl ri_ok ho8
          have HO8 := Lib.hid ho8
          have HG8 := Lib.hid hg8
          have HA8 := Lib.hid ha8
          have HT8 := Lib.hid (show Turn (fun q => q = g ∨ V.ownBlock = some q) w5 w8 from (Turn.ofBelow HSB.out).grown hg8 (fun q e => .inl (.inr e)))
          clear ho8 ha8
          show Kr _ _
          refine hKr.out _ _ ?_ (fun _ => ?_)
          · exact HT8.out
          clear hKr Kr
          replace hS : Turn (fun q => q = g ∨ V.ownBlock = some q) w5 w8 := HT8.out
          try simp only [Act.put, List.setIfInBounds_toArray, List.set_cons_zero, List.set_cons_succ]
          refine wpAnyH_take (i := 27) (oi := ⟨some 91, _, _, _, _, _⟩) (v := ?_) rfl (by kernel_rfl) (by kernel_rfl) (by kernel_rfl) (fun _ _ _ h => h) (Or.inl ⟨by rfl, ?_⟩) hS ?_
          rotate_left
          · intro W hW; go_simp; with_reducible rfl
          try simp only [Act.put, List.setIfInBounds_toArray, List.set_cons_zero, List.set_cons_succ]
          refine wpAnyH_ready (rs := [28]) (by kernel_rfl) (by simp) ?_
          refine AllReadyH.cons (o := ⟨none, _, _, _, _, _⟩) rfl (fun Kr hKr => ?_) AllReadyH.nil
          -- operation 28: a step
          try rw [if_pos (by kernel_rfl)]
          have hbk8 := (HG5.out.below HSB.out).far HG8.out (fun e => by have := HI5.out.own.lt g e.symm; omega)
          have f3f := hbk8.fr 2
          have f3c : w8.cell? ⟨g, 2, none⟩ = some V := hbk8.c 2 _ rfl
          clear hbk8
          go_simp
          clear f3f f3c
          obtain ⟨hz1, hz2, hz3⟩ := HI5.out.more rfl HSB.out HL3.out HB3.out.1 HB3.out.2 HYO.out HO8.out HG8.out HA8.out HG5.out
          show Kr _ _
          refine hKr.out _ _ ?_ (fun _ => ?_)
          · exact hz3
          clear hKr Kr
          replace hS : Turn (fun q => q = g ∨ V.ownBlock = some q) w5 (w8.setCell ⟨g, 2, none⟩ (.slice A6 n6 c6)) := hz3
          try simp only [Act.put]
          refine wpAnyH_done (by kernel_rfl) ?_ _
          have HZ1 := Lib.hid hz1
          have HZ2 := Lib.hid hz2
          have HZ3 := Lib.hid (HD5.out.turn hz3 (fun q hq => Or.elim hq (fun hq => by have := HGR.out; omega) (fun hq => by have := HVB.out q hq; have := HGR.out; omega)))
          clear hz1 hz2 hz3 hS
          generalize w8.setCell ⟨g, 2, none⟩ (.slice A6 n6 c6) = w9 at *
          go_wp2_with fail
          go_meet
          case rel => exact ⟨.slice A6 n6 c6, _, HZ3, HZ2, Lib.hid (by rw [HIM.out]; exact HZ1.out)⟩
        · skip
          -- operation 10: a step
          try rw [if_pos (by kernel_rfl)]
          refine wp_build_none rfl ?_
          intro V1 h1 hle1 how1 hlt1 hx1
          have HOW := Lib.hid how1
          have HH1 := Lib.hid (And.intro (Nat.le_trans HSB.out.size hle1) hlt1)
          replace HSB := Lib.hid (HSB.out.trans (hx1.mono HSB.out.size))
          clear how1 hle1 hlt1 hx1
          show Kr _ _
          refine hKr.out _ _ ?_ (fun _ => ?_)
          · exact Turn.ofBelow HSB.out
          clear hKr Kr
          replace hS : Turn (fun q => q = g ∨ V.ownBlock = some q) w5 V1 := Turn.ofBelow HSB.out
          try simp only [Act.put, List.setIfInBounds_toArray, List.set_cons_zero, List.set_cons_succ]
          refine wpAnyH_ready (rs := [1, 23]) (by kernel_rfl) (by simp) ?_
          refine AllReadyH.cons (o := ⟨some 65, _, _, _, _, _⟩) rfl (fun Kr hKr => ?_) (AllReadyH.cons (o := ⟨some 87, _, _, _, _, _⟩) rfl (fun Kr hKr => ?_) AllReadyH.nil)
          · skip
            -- operation 1: a step
            try rw [if_pos (by kernel_rfl)]
            have q2 : World.cell? _ ⟨g, 2, none⟩ = some V := (HG5.out.below HSB.out).c 2 _ rfl
            go_simp
            clear q2
            show Kr _ _
            refine hKr.out _ _ ?_ (fun _ => ?_)
            · exact hS
            clear hKr Kr
            try simp only [Act.put, List.setIfInBounds_toArray, List.set_cons_zero, List.set_cons_succ]
            refine wpAnyH_ready (rs := [23]) (by kernel_rfl) (by simp) ?_
            refine AllReadyH.cons (o := ⟨some 87, _, _, _, _, _⟩) rfl (fun Kr hKr => ?_) AllReadyH.nil
            -- operation 23: a step
            try rw [if_pos (by kernel_rfl)]
            refine wp_app32 HOW.out (Nat.le_of_lt HH1.out.2) (.tmp 74) (.tmp 86) rfl rfl _ ((l.drop (k + 1)).take 32) _ _ rfl (by omega) ?_ ?_ ?_
            · refine Rd.cut ((HD5.out.cu.rd.below' HSB.out (Nat.le_of_lt HD5.out.cu.lt)).more ?_) (k + 1) 32 _ (fun b' o' e hk => ?_)
              · have := HD5.out.cu.lt; have := HSB.out.size; omega
              · injection e with e; injection e with e8 e9; subst e8 e9; first | rfl | (exfalso; omega)
            · have := HLN.out; rw [List.length_take, List.length_drop]; omega
            intro b1 c1 V2 hL2 hle2 hlt2 hg2
            have HL2 := Lib.hid hL2
            have HB2 := Lib.hid (And.intro (Nat.le_trans HH1.out.1 hle2) hlt2)
            replace HSB := Lib.hid (HSB.out.grown hg2 HSB.out.size (fun q e => by injection e with e; have := HH1.out.1; omega))
            clear hL2 hle2 hlt2 hg2
            show Kr _ _
            refine hKr.out _ _ ?_ (fun _ => ?_)
            · exact Turn.ofBelow HSB.out
            clear hKr Kr
            replace hS : Turn (fun q => q = g ∨ V.ownBlock = some q) w5 V2 := Turn.ofBelow HSB.out
            try simp only [Act.put, List.setIfInBounds_toArray, List.set_cons_zero, List.set_cons_succ]
            refine wpAnyH_take (i := 24) (oi := ⟨some 88, _, _, _, _, _⟩) (v := ?_) rfl (by kernel_rfl) (by kernel_rfl) (by kernel_rfl) (fun _ _ _ h => h) (Or.inl ⟨by rfl, ?_⟩) hS ?_
            rotate_left
            · intro W hW; go_simp; with_reducible rfl
            try simp only [Act.put, List.setIfInBounds_toArray, List.set_cons_zero, List.set_cons_succ]
            refine wpAnyH_ready (rs := [25]) (by kernel_rfl) (by simp) ?_
            refine AllReadyH.cons (o := ⟨some 89, _, _, _, _, _⟩) rfl (fun Kr hKr => ?_) AllReadyH.nil
            -- operation 25: a step
            try rw [if_pos (by kernel_rfl)]
            refine wp_build_im (.tmp 88) rfl (y : Int) (some ⟨b1, 0, none⟩) 32 c1 rfl ?_
            intro V3 g3 hle3 hlt3 hat3 hx3
            have HAT := Lib.hid hat3
            have HL3 := Lib.hid (HL2.out.up hx3)
            have HB3 := Lib.hid (And.intro HB2.out.1 (Nat.lt_of_lt_of_le HB2.out.2 hx3.size))
            replace HSB := Lib.hid (HSB.out.trans (hx3.mono HSB.out.size))
            clear hat3 hx3 hle3 hlt3
            show Kr _ _
            refine hKr.out _ _ ?_ (fun _ => ?_)
            · exact Turn.ofBelow HSB.out
            clear hKr Kr
            replace hS : Turn (fun q => q = g ∨ V.ownBlock = some q) w5 V3 := Turn.ofBelow HSB.out
            try simp only [Act.put, List.setIfInBounds_toArray, List.set_cons_zero, List.set_cons_succ]
            refine wpAnyH_ready (rs := [26]) (by kernel_rfl) (by simp) ?_
            refine AllReadyH.cons (o := ⟨some 90, _, _, _, _, _⟩) rfl (fun Kr hKr => ?_) AllReadyH.nil
            -- operation 26: a step
            try rw [if_pos (by kernel_rfl)]
            refine Rk.wp_append ri_ok (.tmp 65) (.tmp 89) rfl (g + 1) V rs [⟨(y : Int), some ⟨b1, 0, none⟩, 32, c1⟩] rfl (HI5.out.own.below HSB.out) _ 1 1 rfl HAT.out rfl (.inr ⟨_, _, rfl⟩) (by have h1 := HI5.out.rl; rw [tIms_len] at h1; rw [List.length_singleton]; omega) (by have := HSB.out.size; have := HG5.out.lt; omega) ?_
            intro v8 w8 ho8 hg8 ha8
            obtain ⟨A6, n6, c6, rfl⟩ := own_sl ri_ok ho8
            have HO8 := Lib.hid ho8
            have HG8 := Lib.hid hg8
            have HA8 := Lib.hid ha8
            have HT8 := Lib.hid (show Turn (fun q => q = g ∨ V.ownBlock = some q) w5 w8 from (Turn.ofBelow HSB.out).grown hg8 (fun q e => .inl (.inr e)))
            clear ho8 ha8
            show Kr _ _
            refine hKr.out _ _ ?_ (fun _ => ?_)
            · exact HT8.out
            clear hKr Kr
            replace hS : Turn (fun q => q = g ∨ V.ownBlock = some q) w5 w8 := HT8.out
            try simp only [Act.put, List.setIfInBounds_toArray, List.set_cons_zero, List.set_cons_succ]
            refine wpAnyH_take (i := 27) (oi := ⟨some 91, _, _, _, _, _⟩) (v := ?_) rfl (by kernel_rfl) (by kernel_rfl) (by kernel_rfl) (fun _ _ _ h => h) (Or.inl ⟨by rfl, ?_⟩) hS ?_
            rotate_left
            · intro W hW; go_simp; with_reducible rfl
            try simp only [Act.put, List.setIfInBounds_toArray, List.set_cons_zero, List.set_cons_succ]
            refine wpAnyH_ready (rs := [28]) (by kernel_rfl) (by simp) ?_
            refine AllReadyH.cons (o := ⟨none, _, _, _, _, _⟩) rfl (fun Kr hKr => ?_) AllReadyH.nil
            -- operation 28: a step
            try rw [if_pos (by kernel_rfl)]
            have hbk8 := (HG5.out.below HSB.out).far HG8.out (fun e => by have := HI5.out.own.lt g e.symm; omega)
            have f3f := hbk8.fr 2
            have f3c : w8.cell? ⟨g, 2, none⟩ = some V := hbk8.c 2 _ rfl
            clear hbk8
            go_simp
            clear f3f f3c
            obtain ⟨hz1, hz2, hz3⟩ := HI5.out.more rfl HSB.out HL3.out HB3.out.1 HB3.out.2 HYO.out HO8.out HG8.out HA8.out HG5.out
            show Kr _ _
            refine hKr.out _ _ ?_ (fun _ => ?_)
            · exact hz3
            clear hKr Kr
            replace hS : Turn (fun q => q = g ∨ V.ownBlock = some q) w5 (w8.setCell ⟨g, 2, none⟩ (.slice A6 n6 c6)) := hz3
            try simp only [Act.put]
            refine wpAnyH_done (by kernel_rfl) ?_ _
            have HZ1 := Lib.hid hz1
            have HZ2 := Lib.hid hz2
            have HZ3 := Lib.hid (HD5.out.turn hz3 (fun q hq => Or.elim hq (fun hq => by have := HGR.out; omega) (fun hq => by have := HVB.out q hq; have := HGR.out; omega)))
            clear hz1 hz2 hz3 hS
            generalize w8.setCell ⟨g, 2, none⟩ (.slice A6 n6 c6) = w9 at *
            go_wp2_with fail
            go_meet
            case rel => exact ⟨.slice A6 n6 c6, _, HZ3, HZ2, Lib.hid (by rw [HIM.out]; exact HZ1.out)⟩
          · skip
            -- operation 23: a step
            try rw [if_pos (by kernel_rfl)]
            refine wp_app32 HOW.out (Nat.le_of_lt HH1.out.2) (.tmp 74) (.tmp 86) rfl rfl _ ((l.drop (k + 1)).take 32) _ _ rfl (by omega) ?_ ?_ ?_
            · refine Rd.cut ((HD5.out.cu.rd.below' HSB.out (Nat.le_of_lt HD5.out.cu.lt)).more ?_) (k + 1) 32 _ (fun b' o' e hk => ?_)
              · have := HD5.out.cu.lt; have := HSB.out.size; omega
              · injection e with e; injection e with e8 e9; subst e8 e9; first | rfl | (exfalso; omega)
            · have := HLN.out; rw [List.length_take, List.length_drop]; omega
            intro b1 c1 V2 hL2 hle2 hlt2 hg2
            have HL2 := Lib.hid hL2
            have HB2 := Lib.hid (And.intro (Nat.le_trans HH1.out.1 hle2) hlt2)
            replace HSB := Lib.hid (HSB.out.grown hg2 HSB.out.size (fun q e => by injection e with e; have := HH1.out.1; omega))
            clear hL2 hle2 hlt2 hg2
            show Kr _ _
            refine hKr.out _ _ ?_ (fun _ => ?_)
            · exact Turn.ofBelow HSB.out
            clear hKr Kr
            replace hS : Turn (fun q => q = g ∨ V.ownBlock = some q) w5 V2 := Turn.ofBelow HSB.out
            try simp only [Act.put, List.setIfInBounds_toArray, List.set_cons_zero, List.set_cons_succ]
            refine wpAnyH_take (i := 24) (oi := ⟨some 88, _, _, _, _, _⟩) (v := ?_) rfl (by kernel_rfl) (by kernel_rfl) (by kernel_rfl) (fun _ _ _ h => h) (Or.inl ⟨by rfl, ?_⟩) hS ?_
            rotate_left
            · intro W hW; go_simp; with_reducible rfl
            try simp only [Act.put, List.setIfInBounds_toArray, List.set_cons_zero, List.set_cons_succ]
            refine wpAnyH_ready (rs := [1, 25]) (by kernel_rfl) (by simp) ?_
            refine AllReadyH.cons (o := ⟨some 65, _, _, _, _, _⟩) rfl (fun Kr hKr => ?_) (AllReadyH.cons (o := ⟨some 89, _, _, _, _, _⟩) rfl (fun Kr hKr => ?_) AllReadyH.nil)
            · skip
              -- operation 1: a step
              try rw [if_pos (by kernel_rfl)]
              have q2 : World.cell? _ ⟨g, 2, none⟩ = some V := (HG5.out.below HSB.out).c 2 _ rfl
              go_simp
              clear q2
              show Kr _ _
              refine hKr.out _ _ ?_ (fun _ => ?_)
              · exact hS
              clear hKr Kr
              try simp only [Act.put, List.setIfInBounds_toArray, List.set_cons_zero, List.set_cons_succ]
              refine wpAnyH_ready (rs := [25]) (by kernel_rfl) (by simp) ?_
              refine AllReadyH.cons (o := ⟨some 89, _, _, _, _, _⟩) rfl (fun Kr hKr => ?_) AllReadyH.nil
              -- operation 25: a step
              try rw [if_pos (by kernel_rfl)]
              refine wp_build_im (.tmp 88) rfl (y : Int) (some ⟨b1, 0, none⟩) 32 c1 rfl ?_
              intro V3 g3 hle3 hlt3 hat3 hx3
              have HAT := Lib.hid hat3
              have HL3 := Lib.hid (HL2.out.up hx3)
              have HB3 := Lib.hid (And.intro HB2.out.1 (Nat.lt_of_lt_of_le HB2.out.2 hx3.size))
              replace HSB := Lib.hid (HSB.out.trans (hx3.mono HSB.out.size))
              clear hat3 hx3 hle3 hlt3
              show Kr _ _
              refine hKr.out _ _ ?_ (fun _ => ?_)
              · exact Turn.ofBelow HSB.out
              clear hKr Kr
              replace hS : Turn (fun q => q = g ∨ V.ownBlock = some q) w5 V3 := Turn.ofBelow HSB.out
              try simp only [Act.put, List.setIfInBounds_toArray, List.set_cons_zero, List.set_cons_succ]
              refine wpAnyH_ready (rs := [26]) (by kernel_rfl) (by simp) ?_
              refine AllReadyH.cons (o := ⟨some 90, _, _, _, _, _⟩) rfl (fun Kr hKr => ?_) AllReadyH.nil
              -- operation 26: a step
              try rw [if_pos (by kernel_rfl)]
              refine Rk.wp_append ri_ok (.tmp 65) (.tmp 89) rfl (g + 1) V rs [⟨(y : Int), some ⟨b1, 0, none⟩, 32, c1⟩] rfl (HI5.out.own.below HSB.out) _ 1 1 rfl HAT.out rfl (.inr ⟨_, _, rfl⟩) (by have h1 := HI5.out.rl; rw [tIms_len] at h1; rw [List.length_singleton]; omega) (by have := HSB.out.size; have := HG5.out.lt; omega) ?_
              intro v8 w8 ho8 hg8 ha8
              obtain ⟨A6, n6, c6, rfl⟩ := own_sl ri_ok ho8
              have HO8 := Lib.hid ho8
              have HG8 := Lib.hid hg8
              have HA8 := Lib.hid ha8
              have HT8 := Lib.hid (show Turn (fun q => q = g ∨ V.ownBlock = some q) w5 w8 from (Turn.ofBelow HSB.out).grown hg8 (fun q e => .inl (.inr e)))
              clear ho8 ha8
              show Kr _ _
              refine hKr.out _ _ ?_ (fun _ => ?_)
              · exact HT8.out
              clear hKr Kr
              replace hS : Turn (fun q => q = g ∨ V.ownBlock = some q) w5 w8 := HT8.out
              try simp only [Act.put, List.setIfInBounds_toArray, List.set_cons_zero, List.set_cons_succ]
              refine wpAnyH_take (i := 27) (oi := ⟨some 91, _, _, _, _, _⟩) (v := ?_) rfl (by kernel_rfl) (by kernel_rfl) (by kernel_rfl) (fun _ _ _ h => h) (Or.inl ⟨by rfl, ?_⟩) hS ?_
              rotate_left
              · intro W hW; go_simp; with_reducible rfl
              try simp only [Act.put, List.setIfInBounds_toArray, List.set_cons_zero, List.set_cons_succ]
              refine wpAnyH_ready (rs := [28]) (by kernel_rfl) (by simp) ?_
              refine AllReadyH.cons (o := ⟨none, _, _, _, _, _⟩) rfl (fun Kr hKr => ?_) AllReadyH.nil
              -- operation 28: a step
              try rw [if_pos (by kernel_rfl)]
              have hbk8 := (HG5.out.below HSB.out).far HG8.out (fun e => by have := HI5.out.own.lt g e.symm; omega)
              have f3f := hbk8.fr 2
              have f3c : w8.cell? ⟨g, 2, none⟩ = some V := hbk8.c 2 _ rfl
              clear hbk8
              go_simp
              clear f3f f3c
              obtain ⟨hz1, hz2, hz3⟩ := HI5.out.more rfl HSB.out HL3.out HB3.out.1 HB3.out.2 HYO.out HO8.out HG8.out HA8.out HG5.out
              show Kr _ _
              refine hKr.out _ _ ?_ (fun _ => ?_)
              · exact hz3
              clear hKr Kr
              replace hS : Turn (fun q => q = g ∨ V.ownBlock = some q) w5 (w8.setCell ⟨g, 2, none⟩ (.slice A6 n6 c6)) := hz3
              try simp only [Act.put]
              refine wpAnyH_done (by kernel_rfl) ?_ _
              have HZ1 := Lib.hid hz1
              have HZ2 := Lib.hid hz2
              have HZ3 := Lib.hid (HD5.out.turn hz3 (fun q hq => Or.elim hq (fun hq => by have := HGR.out; omega) (fun hq => by have := HVB.out q hq; have := HGR.out; omega)))
              clear hz1 hz2 hz3 hS
              generalize w8.setCell ⟨g, 2, none⟩ (.slice A6 n6 c6) = w9 at *
              go_wp2_with fail
              go_meet
              case rel => exact ⟨.slice A6 n6 c6, _, HZ3, HZ2, Lib.hid (by rw [HIM.out]; exact HZ1.out)⟩
            · skip
              -- operation 25: a step
              try rw [if_pos (by kernel_rfl)]
              refine wp_build_im (.tmp 88) rfl (y : Int) (some ⟨b1, 0, none⟩) 32 c1 rfl ?_
              intro V3 g3 hle3 hlt3 hat3 hx3
              have HAT := Lib.hid hat3
              have HL3 := Lib.hid (HL2.out.up hx3)
              have HB3 := Lib.hid (And.intro HB2.out.1 (Nat.lt_of_lt_of_le HB2.out.2 hx3.size))
              replace HSB := Lib.hid (HSB.out.trans (hx3.mono HSB.out.size))
              clear hat3 hx3 hle3 hlt3
              show Kr _ _
              refine hKr.out _ _ ?_ (fun _ => ?_)
              · exact Turn.ofBelow HSB.out
              clear hKr Kr
              replace hS : Turn (fun q => q = g ∨ V.ownBlock = some q) w5 V3 := Turn.ofBelow HSB.out
              try simp only [Act.put, List.setIfInBounds_toArray, List.set_cons_zero, List.set_cons_succ]
              refine wpAnyH_ready (rs := [1]) (by kernel_rfl) (by simp) ?_
              refine AllReadyH.cons (o := ⟨some 65, _, _, _, _, _⟩) rfl (fun Kr hKr => ?_) AllReadyH.nil
              -- operation 1: a step
              try rw [if_pos (by kernel_rfl)]
              have q2 : World.cell? _ ⟨g, 2, none⟩ = some V := (HG5.out.below HSB.out).c 2 _ rfl
              go_simp
              clear q2
              show Kr _ _
              refine hKr.out _ _ ?_ (fun _ => ?_)
              · exact hS
              clear hKr Kr
              try simp only [Act.put, List.setIfInBounds_toArray, List.set_cons_zero, List.set_cons_succ]
              refine wpAnyH_ready (rs := [26]) (by kernel_rfl) (by simp) ?_
              refine AllReadyH.cons (o := ⟨some 90, _, _, _, _, _⟩) rfl (fun Kr hKr => ?_) AllReadyH.nil
              -- operation 26: a step
              try rw [if_pos (by kernel_rfl)]
              refine Rk.wp_append ri_ok (.tmp 65) (.tmp 89) rfl (g + 1) V rs [⟨(y : Int), some ⟨b1, 0, none⟩, 32, c1⟩] rfl (HI5.out.own.below HSB.out) _ 1 1 rfl HAT.out rfl (.inr ⟨_, _, rfl⟩) (by have h1 := HI5.out.rl; rw [tIms_len] at h1; rw [List.length_singleton]; omega) (by have := HSB.out.size; have := HG5.out.lt; omega) ?_
              intro v8 w8 ho8 hg8 ha8
              obtain ⟨A6, n6, c6, rfl⟩ := own_sl ri_ok ho8
              have HO8 := Lib.hid ho8
              have HG8 := Lib.hid hg8
              have HA8 := Lib.hid ha8
              have HT8 := Lib.hid (show Turn (fun q => q = g ∨ V.ownBlock = some q) w5 w8 from (Turn.ofBelow HSB.out).grown hg8 (fun q e => .inl (.inr e)))
              clear ho8 ha8
              show Kr _ _
              refine hKr.out _ _ ?_ (fun _ => ?_)
              · exact HT8.out
              clear hKr Kr
              replace hS : Turn (fun q => q = g ∨ V.ownBlock = some q) w5 w8 := HT8.out
              try simp only [Act.put, List.setIfInBounds_toArray, List.set_cons_zero, List.set_cons_succ]
              refine wpAnyH_take (i := 27) (oi := ⟨some 91, _, _, _, _, _⟩) (v := ?_) rfl (by kernel_rfl) (by kernel_rfl) (by kernel_rfl) (fun _ _ _ h => h) (Or.inl ⟨by rfl, ?_⟩) hS ?_
              rotate_left
              · intro W hW; go_simp; with_reducible rfl
              try simp only [Act.put, List.setIfInBounds_toArray, List.set_cons_zero, List.set_cons_succ]
              refine wpAnyH_ready (rs := [28]) (by kernel_rfl) (by simp) ?_
              refine AllReadyH.cons (o := ⟨none, _, _, _, _, _⟩) rfl (fun Kr hKr => ?_) AllReadyH.nil
              -- operation 28: a step
              try rw [if_pos (by kernel_rfl)]
              have hbk8 := (HG5.out.below HSB.out).far HG8.out (fun e => by have := HI5.out.own.lt g e.symm; omega)
              have f3f := hbk8.fr 2
              have f3c : w8.cell? ⟨g, 2, none⟩ = some V := hbk8.c 2 _ rfl
              clear hbk8
              go_simp
              clear f3f f3c
              obtain ⟨hz1, hz2, hz3⟩ := HI5.out.more rfl HSB.out HL3.out HB3.out.1 HB3.out.2 HYO.out HO8.out HG8.out HA8.out HG5.out
              show Kr _ _
              refine hKr.out _ _ ?_ (fun _ => ?_)
              · exact hz3
              clear hKr Kr
              replace hS : Turn (fun q => q = g ∨ V.ownBlock = some q) w5 (w8.setCell ⟨g, 2, none⟩ (.slice A6 n6 c6)) := hz3
              try simp only [Act.put]
              refine wpAnyH_done (by kernel_rfl) ?_ _
              have HZ1 := Lib.hid hz1
              have HZ2 := Lib.hid hz2
              have HZ3 := Lib.hid (HD5.out.turn hz3 (fun q hq => Or.elim hq (fun hq => by have := HGR.out; omega) (fun hq => by have := HVB.out q hq; have := HGR.out; omega)))
              clear hz1 hz2 hz3 hS
              generalize w8.setCell ⟨g, 2, none⟩ (.slice A6 n6 c6) = w9 at *
              go_wp2_with fail
              go_meet
              case rel => exact ⟨.slice A6 n6 c6, _, HZ3, HZ2, Lib.hid (by rw [HIM.out]; exact HZ1.out)⟩
      case rest =>
        obtain ⟨V6, r, HD6, HG6, HI6⟩ := hcut
        clear r1 cb ey e1 e2 e3 e4 e5 e6 e8 hk0 hk2 hk3 hkc1 hkc2 HD5 HG5 HI5 HSB HIM HVB
        have c1 := HD6.out.cu.c1
        have f1 := HD6.out.cu.fr 1
        have hs9 := setCell_grown wc rr 1 (.int .i64 ((k : Int) + 33))
        have HD7 : Hid (Dec w (wc.setCell ⟨rr, 1, none⟩ (.int .i64 ((k : Int) + 33))) z rr (some ⟨b, o, none⟩) c n (k + 33) l) := Lib.hid (HD6.out.move (HD6.out.cu.move (j := k + 33) hs) hs9)
        have HG7 := Lib.hid (HG6.out.far hs9 (fun e => by have := HGR.out; injection e with e; omega))
        have HI7 := Lib.hid (HI6.out.turn (S := fun q => q = rr) ((Turn.refl _ _).grown hs9 (fun q e => .inl (by injection e with e; exact e.symm))) (fun q e => .inl (by have := HGR.out; omega)))
        clear hs9
        go_wp2_with fail
        go_roundg (gk - 1)
        case measure => omega
        case rel => exact ⟨j + 1, k + 33, V6, _, by go_num, by omega, by have := HHK.out; omega, HD7, HG7, HI7⟩
    · obtain rfl : j = mm := by omega
      clear hge
      have HHK := Lib.hid hk
      rcases Nat.lt_or_ge n (k + 2) with h5 | h5
      · have HE := Lib.hid (decE_c (b := l) (by rw [HM.out]; omega) (by rw [HM.out, HLN.out]; omega))
        clear hk
        go_wp2_with fail
        refine (dshort HD.out 2 (by omega) (by omega) (by omega)).mono ?_
        rintro e w5 ⟨rfl, HD5, _⟩
        go_wp2_with (refine wpList_store_bk ty_rnote HD5.out.zb rfl rfl (.tmp 2) (.tmp 107) rfl rfl (ntC .zero nr0) rfl rfl (ntC_one _ _) ?_; intro w6 hk6 hg6)
        exact bodyPost_ret (results_bk2 ty_rnote rfl _ rfl _ rfl hk6 rfl) rfl (by rw [HPO.out]; exact HD5.out.no hg6 HE.out (by decide))
      clear hk
      go_wp2_with fail
      refine (dget HD.out 2 2 (k + 2) rfl (by omega) (by omega) rfl (by omega)).mono ?_
      rintro e w5 ⟨rfl, HD5, hg5⟩
      have HG5 := Lib.hid (HG.out.far hg5.out (fun e => by have := HGR.out; injection e with e; omega))
      have HI5 := Lib.hid (HI.out.turn (S := fun q => q = rr) ((Turn.refl _ _).grown hg5.out (fun q e => .inl (by injection e with e; exact e.symm))) (fun q e => .inl (by have := HGR.out; omega)))
      clear HD HG HI hg5
      have hQ : num l k 2 ≤ 65535 := by have := num_lt l k 2; omega
      obtain ⟨qq, hQe⟩ : ∃ qq, qq = num l k 2 := ⟨_, rfl⟩
      rw [← hQe] at hQ ⊢
      have HQ : Hid (qOf l = qq) := Lib.hid (by rw [hQe, HHK.out]; unfold qOf; rw [HM.out])
      clear hQe
      go_upto_region 24 with fail
      rcases Nat.lt_or_ge 256 qq with h6 | h6
      · have HE := Lib.hid (decE_d (b := l) (by rw [HM.out]; omega) (by have := HHK.out; rw [HM.out, HLN.out]; omega) (by rw [HQ.out]; exact h6))
        obtain ⟨g1, g2⟩ := gt_yes (a := (qq : Int)) (b := 256) (by omega)
        obtain ⟨g3, g4⟩ := gtn_yes h6
        go_wp2_with (refine wpList_store_bk ty_rnote HD5.out.zb rfl rfl (.tmp 2) (.tmp 111) rfl rfl (ntC .zero nr0) rfl rfl (ntC_one _ _) ?_; intro w6 hk6 hg6)
        exact bodyPost_ret (results_bk2 ty_rnote rfl _ rfl _ rfl hk6 rfl) rfl (by rw [HPO.out]; exact HD5.out.no hg6 HE.out (by decide))
      obtain ⟨g1, g2⟩ := gt_no (a := (qq : Int)) (b := 256) (by omega)
      obtain ⟨g3, g4⟩ := gtn_no (a := qq) (b := 256) (by omega)
      go_wp2_with fail
      clear g1 g2 g3 g4
      go_loopg [11] qq (fun gn i wr => ∃ (u k2 : Nat) (U : Value), i = .int .i64 (u : Int) ∧ u + gn = qq ∧ k2 = k + 2 + 9 * u ∧ Hid (Dec w wr z rr A c n k2 l) ∧ Hid (Bk wr g (outK (K : Int) (S : Int) V U) 25) ∧ Hid (Imz wr g V U rs (tIms l j)) ∧ Hid (RO.Own wr (g + 1) U (tOps l (11 + 33 * j) u)))
      case atStart => exact ⟨0, k + 2, _, rfl, by omega, rfl, HD5, HG5, HI5, Lib.hid (Rk.Own.nil RO _ _)⟩
      case round =>
        obtain ⟨u, k2, U, rfl, hog2, hk2, HD, HG, HI, HO⟩ := hrel
        have HK2 := Lib.hid hk2
        rcases Nat.lt_or_ge u qq with hlt | hge
        · have hdj : decide (u < qq) = true := decide_eq_true hlt
          have hdi : decide ((u : Int) < (qq : Int)) = true := decide_eq_true (by omega)
          rcases Nat.lt_or_ge n (k2 + 9) with h7 | h7
          · have HE := Lib.hid (decE_e (b := l) (by rw [HM.out]; omega) (by have := HHK.out; rw [HM.out, HLN.out]; omega) (by rw [HQ.out]; omega) (by have := HHK.out; rw [HM.out, HQ.out, HLN.out]; omega))
            clear hk2
            rcases Nat.lt_or_ge n (k2 + 1) with h8 | h8
            · go_wp2_with fail
              refine (dshort HD.out 1 (by omega) (by omega) (by omega)).mono ?_
              rintro e w7 ⟨rfl, HD7, _⟩
              go_wp2_with fail
              refine (dsigned_short HD7.out (by omega)).mono ?_
              rintro e w8 ⟨rfl, HD8, _⟩
              go_wp2_with (refine wpList_store_bk ty_rnote HD8.out.zb rfl rfl (.tmp 2) (.tmp 134) rfl rfl (ntC .zero nr0) rfl rfl (ntC_one _ _) ?_; intro w6 hk6 hg6)
              exact bodyPost_ret (results_bk2 ty_rnote rfl _ rfl _ rfl hk6 rfl) rfl (by rw [HPO.out]; exact HD8.out.no hg6 HE.out (by decide))
            · go_wp2_with fail
              refine (dget HD.out 1 1 (k2 + 1) rfl (by omega) (by omega) rfl (by omega)).mono ?_
              rintro e w7 ⟨rfl, HD7, _⟩
              go_wp2_with fail
              refine (dsigned_short HD7.out (by omega)).mono ?_
              rintro e w8 ⟨rfl, HD8, _⟩
              go_wp2_with (refine wpList_store_bk ty_rnote HD8.out.zb rfl rfl (.tmp 2) (.tmp 134) rfl rfl (ntC .zero nr0) rfl rfl (ntC_one _ _) ?_; intro w6 hk6 hg6)
              exact bodyPost_ret (results_bk2 ty_rnote rfl _ rfl _ rfl hk6 rfl) rfl (by rw [HPO.out]; exact HD8.out.no hg6 HE.out (by decide))
          clear hk2
          go_wp2_with fail
          refine (dget HD.out 1 1 (k2 + 1) rfl (by omega) (by omega) rfl (by omega)).mono ?_
          rintro e w7 ⟨rfl, HD7, hg7⟩
          have hcc : num l k2 1 ≤ 255 := by have := num_lt l k2 1; omega
          obtain ⟨cc, hcc2⟩ : ∃ cc, cc = num l k2 1 := ⟨_, rfl⟩
          rw [← hcc2] at hcc ⊢
          have HCC := Lib.hid hcc2
          clear hcc2
          have HT7 : Hid (Turn (fun q => q = rr) wr w7) := Lib.hid ((Turn.refl _ _).grown hg7.out (fun q e => .inl (by injection e with e; exact e.symm)))
          clear hg7
          go_wp2_with fail
          refine (dsigned HD7.out (k2 + 9) (by omega) (by omega)).mono ?_
          rintro e w8 ⟨rfl, HD8, hg8⟩
          obtain ⟨vv, hvv⟩ : ∃ vv, vv = sgnI (num l (k2 + 1) 8 : Nat) := ⟨_, rfl⟩
          rw [← hvv]
          have HVV := Lib.hid hvv
          clear hvv
          have HT8 : Hid (Turn (fun q => q = rr) wr w8) := Lib.hid (HT7.out.grown hg8.out (fun q e => .inl (by injection e with e; exact e.symm)))
          have HG8 := Lib.hid (HG.out.turn HT8.out (fun e => by have := HGR.out; have e2 : g = rr := e; omega))
          have HI8 := Lib.hid (HI.out.turn HT8.out (fun q e => .inl (by have := HGR.out; have e2 : q = rr := e; omega)))
          have HO8 := Lib.hid (HO.out.turn HT8.out (fun q hq e => by have := HO.out.lt q hq; have := HGR.out; have e2 : q = rr := e; omega))
          have HTO : Hid (tOps l (11 + 33 * j) (u + 1) = tOps l (11 + 33 * j) u ++ [⟨(cc : Int), vv⟩]) := Lib.hid (by
            have e : 11 + 33 * j + 9 * u = k2 := by have := HHK.out; have := HK2.out; omega
            rw [tOps_step]
            unfold tOp
            rw [e, HCC.out, HVV.out])
          clear HD HG HI HO HT7 HT8 HD7 hg8
          have f2 : w8.cell? ⟨g, 3, none⟩ = some U := HG8.out.c 3 _ rfl
          have f2f := HG8.out.fr 3
          go_wp2_with (at_builtin; refine RO.wpList_append ro_ok rfl (.tmp 136) (.tmp 141) rfl (g + 1) U _ [⟨(cc : Int), vv⟩] rfl (HO8.out.below (below_new _ _)) _ 1 1 rfl (Rk.At.new ro_ok _ ⟨(cc : Int), vv⟩ _) rfl (.inr ⟨_, _, rfl⟩) (by rw [tOps_len, List.length_singleton]; omega) (by have := HG8.out.lt; simp; omega) ?_; intro U9 w9 ho9 hg9 ha9; obtain ⟨A9, n9, c9, rfl⟩ := own_sl ro_ok ho9; have hBk9 := ((HG8.out.al (.cells (RO.enc ⟨(cc : Int), vv⟩).toArray 53)).far hg9 (fun e => by have := HO8.out.lt g e.symm; omega)); have f3f := hBk9.fr 3; have f3c : w9.cell? ⟨g, 3, none⟩ = some U := hBk9.c 3 _ rfl; clear hBk9)
          obtain ⟨hi9, hb9, ho9', ht9⟩ := HI8.out.ops HO8.out (below_new w8 (.cells (RO.enc ⟨(cc : Int), vv⟩).toArray 53)) ho9 hg9 ha9 HG8.out
          have HD9 := Lib.hid (HD8.out.turn ht9 (fun q hq => Or.elim hq (fun hq => by have := HGR.out; omega) (fun hq => by have := HO8.out.lt q hq; have := HGR.out; omega)))
          go_roundg (gk - 1)
          case measure => omega
          case rel => exact ⟨u + 1, k2 + 9, .slice A9 n9 c9, by go_num, by omega, by have := HK2.out; omega, HD9, Lib.hid hb9, Lib.hid hi9, Lib.hid (by rw [HTO.out]; exact ho9')⟩
        · obtain rfl : u = qq := by omega
          clear hge hk2
          obtain ⟨Av, nv, cv, hV⟩ := own_sl ri_ok HI.out.own
          obtain ⟨Bv, mv, dv, hU⟩ := own_sl ro_ok HO.out
          subst hV hU
          have HTL : Hid (tell l = ⟨(K : Int), (S : Int), tIms l j, tOps l (11 + 33 * j) u⟩) := Lib.hid (by unfold tell; rw [HM.out, HQ.out, HK.out, HS.out])
          obtain ⟨X, hX⟩ : ∃ X : Nt, X = ⟨(K : Int), (S : Int), tIms l j, tOps l (11 + 33 * j) u⟩ := ⟨_, rfl⟩
          have HGX : Hid (Bk wr g (ntC X ⟨Av, nv, cv, Bv, mv, dv, rs⟩) 25) := Lib.hid (by rw [hX]; exact HG.out)
          have HIX : Hid (Imz wr g (.slice Av nv cv) (.slice Bv mv dv) rs X.im) := Lib.hid (by rw [hX]; exact HI.out)
          have HOX : Hid (RO.Own wr (g + 1) (.slice Bv mv dv) X.op) := Lib.hid (by rw [hX]; exact HO.out)
          rw [← hX] at HTL
          have HSM : Hid (SmallN X) := Lib.hid (by rw [← HTL.out]; exact tell_small (by rw [HM.out]; omega) (by rw [HQ.out]; omega))
          have HK1 : Hid (okI X.kind ∧ okI X.seq ∧ ∀ (i : Nat) (y : Od), X.op[i]? = some y → okI y.c ∧ okI y.b) := Lib.hid (by rw [← HTL.out]; exact ⟨num_okI _ (by omega), num_okI _ (by omega), fun i y hy => tell_op i y hy⟩)
          clear hX HG HI HO
          go_wp2_with fail
          refine (dleft HD.out).mono ?_
          rintro e w7 ⟨rfl, HD7, hg7⟩
          have HT7 : Hid (Turn (fun q => q = rr) wr w7) := Lib.hid ((Turn.refl _ _).grown hg7.out (fun q e => .inl (by injection e with e; exact e.symm)))
          have HG7 := Lib.hid (HGX.out.turn HT7.out (fun e => by have := HGR.out; have e2 : g = rr := e; omega))
          have HI7 := Lib.hid (HIX.out.turn HT7.out (fun q e => .inl (by have := HGR.out; have e2 : q = rr := e; omega)))
          have HO7 := Lib.hid (HOX.out.turn HT7.out (fun q hq e => by have := HOX.out.lt q hq; have := HGR.out; have e2 : q = rr := e; omega))
          clear HD HGX HIX HOX hg7 HT7
          rcases Nat.lt_or_ge k2 n with h8 | h8
          · have HE := Lib.hid (decE_f (b := l) (by rw [HM.out]; omega) (by rw [HQ.out]; omega) (by have := HHK.out; have := HK2.out; rw [HM.out, HQ.out, HLN.out]; have := HD7.out.cu.le; omega) (.inl (by have := HHK.out; have := HK2.out; rw [HM.out, HQ.out, HLN.out]; omega)))
            obtain ⟨g1, g2⟩ := gt_yes (a := (n : Int) - (k2 : Int)) (b := 0) (by omega)
            go_wp2_with (refine wpList_store_bk ty_rnote HD7.out.zb rfl rfl (.tmp 2) (.tmp 152) rfl rfl (ntC .zero nr0) rfl rfl (ntC_one _ _) ?_; intro w6 hk6 hg6)
            exact bodyPost_ret (results_bk2 ty_rnote rfl _ rfl _ rfl hk6 rfl) rfl (by rw [HPO.out]; exact HD7.out.no hg6 HE.out (by decide))
          have hkn : k2 = n := by have := HD7.out.cu.le; omega
          have HKN := Lib.hid hkn
          obtain ⟨g1, g2⟩ := gt_no (a := (n : Int) - (k2 : Int)) (b := 0) (by omega)
          clear hkn
          have x0 : w7.cell? ⟨g, 0, none⟩ = some (.int .i64 X.kind) := HG7.out.c 0 _ rfl
          have x1 : w7.cell? ⟨g, 1, none⟩ = some (.int .i64 X.seq) := HG7.out.c 1 _ rfl
          have x2 : w7.cell? ⟨g, 2, none⟩ = some (.slice Av nv cv) := HG7.out.c 2 _ rfl
          have x3 : w7.cell? ⟨g, 3, none⟩ = some (.slice Bv mv dv) := HG7.out.c 3 _ rfl
          go_wp2_with fail
          clear x0 x1 x2 x3
          have HN7 := Lib.hid (HI7.out.note HO7.out HK1.out.1 HK1.out.2.1 HK1.out.2.2)
          refine (sane_any X ⟨Av, nv, cv, Bv, mv, dv, rs⟩ w7 HN7.out.1 HSM.out).mono ?_
          rintro e w8 ⟨rfl, hb8⟩
          have HD8 := Lib.hid (HD7.out.below hb8)
          have HG8 := Lib.hid (HG7.out.below hb8)
          have HN8 := Lib.hid (HN7.out.1.below hb8)
          have HOF := Lib.hid HN7.out.2
          clear hb8 HD7 HG7 HI7 HO7 HN7
          by_cases hm : San X
          · rw [sane_yes hm]
            have HE := Lib.hid (decE_g (b := l) (by rw [HM.out]; omega) (by rw [HQ.out]; omega) (by have := HHK.out; have := HK2.out; have := HKN.out; rw [HM.out, HQ.out, HLN.out]; omega) (by rw [HTL.out]; exact hm))
            clear hm
            go_wp2_with (first
              | (refine wpList_load_bk ty_rnote HG8.out rfl rfl (.tmp 9) rfl rfl ?_)
              | (refine wpList_store_bk ty_rnote HD8.out.zb rfl rfl (.tmp 2) (.tmp 153) rfl rfl (ntC X ⟨Av, nv, cv, Bv, mv, dv, rs⟩) rfl rfl (ntC_one _ _) ?_; intro w9 hk9 hg9))
            refine bodyPost_ret (results_bk2 ty_rnote rfl _ rfl _ rfl hk9 rfl) rfl ?_
            rw [HPO.out, HE.out, decN_ok HE.out, HTL.out]
            have hzw := HD8.out.zw
            have hzr := HD8.out.zr
            exact ⟨⟨Av, nv, cv, Bv, mv, dv, rs⟩, rfl, HN8.out.off (HOF.out z (by have := HGR.out; omega)) hg9, HD8.out.be.grown hg9 HD8.out.be.size (fun q hq => by injection hq with hq; omega), fun q hq _ => HOF.out q (by have := HGR.out; omega)⟩
          · rw [sane_no hm]
            have HE := Lib.hid (decE_f (b := l) (by rw [HM.out]; omega) (by rw [HQ.out]; omega) (by have := HHK.out; have := HK2.out; have := HKN.out; rw [HM.out, HQ.out, HLN.out]; omega) (.inr (by rw [HTL.out]; exact hm)))
            clear hm
            go_wp2_with (refine wpList_store_bk ty_rnote HD8.out.zb rfl rfl (.tmp 2) (.tmp 152) rfl rfl (ntC .zero nr0) rfl rfl (ntC_one _ _) ?_; intro w6 hk6 hg6)
            exact bodyPost_ret (results_bk2 ty_rnote rfl _ rfl _ rfl hk6 rfl) rfl (by rw [HPO.out]; exact HD8.out.no hg6 HE.out (by decide))

end Go.Proofs.Ytjpnihmijnpjcaa
