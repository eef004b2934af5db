/-
  One's lock of a block.
-/
import Derived.Test.YtohnfjneghbceaaFree
namespace Go.Proofs.Ytohnfjneghbceaa
set_option maxRecDepth 100000
set_option linter.unusedVariables false
open Go.RowKit Go.Shelf Go.Sort

set_option maxHeartbeats 1000000 in
theorem find_any (A : Option Addr) (L : List Lk) (n k : Nat) (hN : L.length = n) (hl : LG L) (x b : Int) (hx : 0 ≤ x ∧ x ≤ 63) (w : World) (hL : LkAt w A L) :
    Calls Try.prog 30 #[.agg #[.slice A n k], .int .i64 x, .int .i64 b] w fun e w' => e = .returned (.agg #[.int .i64 b, .int .i64 x, .int .i64 (hof L (b * 64 + x)), .int .i64 (kof L (b * 64 + x))]) ∧ Below w.heap.size w w' := by
  have hn16 : n ≤ 16384 := by rw [← hN]; exact hl.len
  obtain ⟨wa, hwa⟩ : ∃ wa, wa = w.alloc (.cells #[.slice A n k] 49) := ⟨_, rfl⟩
  obtain ⟨wb, hwb⟩ : ∃ wb, wb = wa.alloc (.cells #[.int .i64 x] 3) := ⟨_, rfl⟩
  obtain ⟨wc, hwc⟩ : ∃ wc, wc = wb.alloc (.cells #[.int .i64 b] 3) := ⟨_, rfl⟩
  obtain ⟨w1, hw1⟩ : ∃ w1, w1 = wc.alloc (.cells #[.int .i64 0, .int .i64 0, .int .i64 0, .int .i64 0] 53) := ⟨_, rfl⟩
  have sa : wa.heap.size = w.heap.size + 1 := by rw [hwa]; simp
  have sb : wb.heap.size = w.heap.size + 2 := by rw [hwb, World.size_alloc, sa]
  have sc : wc.heap.size = w.heap.size + 3 := by rw [hwc, World.size_alloc, sb]
  have b1 : Below w.heap.size w w1 := by rw [hw1, hwc, hwb, hwa]; exact below_two (below_two (below_two (below_new _ _) (below_new _ _)) (below_new _ _)) (below_new _ _)
  have k1 : KB w1 w.heap.size A n k := by rw [hw1, hwc, hwb, hwa]; exact (((KB.new w A n k).below (below_new _ _)).below (below_new _ _)).below (below_new _ _)
  have x1 : w1.cell? ⟨w.heap.size + 1, 0, none⟩ = some (.int .i64 x) := by
    have h := (cell_new wa #[.int .i64 x] 3 0).trans rfl
    rw [sa] at h
    rw [hw1, hwc, hwb]; exact cell_al _ (cell_al _ h)
  have y1 : w1.cell? ⟨w.heap.size + 2, 0, none⟩ = some (.int .i64 b) := by
    have h := (cell_new wb #[.int .i64 b] 3 0).trans rfl
    rw [sb] at h
    rw [hw1, hwc]; exact cell_al _ h
  have l1 : LH w1 (w.heap.size + 3) ⟨0, 0, 0, 0⟩ := by
    have h := LH.new wc ⟨0, 0, 0, 0⟩
    rw [sc] at h
    rw [hw1]; exact h
  have HN := Lib.hid hN
  have HLG := Lib.hid hl
  have HX := Lib.hid hx
  have HL := Lib.hid hL
  have HB1 := Lib.hid b1
  have HK1 := Lib.hid k1
  have HX1 := Lib.hid x1
  have HY1 := Lib.hid y1
  have HL1 := Lib.hid l1
  have HP := Lib.hid (place_any A L n k x b hx hl hN w1 (hL.below b1))
  clear hN hl hx hL b1 k1 x1 y1 l1
  go_enter Try.func30, Try.ntmps30
  go_upto_region 1 with fail
  rw [← hwa, ← hwb, ← hwc, ← hw1]
  clear hwa hwb hwc hw1 sa sb sc wa wb wc
  have c0 := HK1.out.c0
  have c1 := HX1.out
  have c2 := HY1.out
  go_upto_region 2 with (go_at_call 50; refine HP.out.mono ?_; rintro e w2 ⟨L1, L2, t, hl12, h1, h2, h3, h4, rfl, hb2⟩; obtain ⟨m, hm⟩ : ∃ m, m = L1.length := ⟨_, rfl⟩; rw [← hm]; have HM := Lib.hid hm; have H12 := Lib.hid hl12; have H1 := Lib.hid h1; have H3 := Lib.hid h3; have H4 := Lib.hid h4; have HB2 := Lib.hid hb2; have HBW := Lib.hid (HB1.out.trans (hb2.mono HB1.out.size)); have HK2 := Lib.hid (HK1.out.below hb2); have HX2 := Lib.hid ((hb2.cell (block_lt_of_cell HX1.out)).trans HX1.out); have HY2 := Lib.hid ((hb2.cell (block_lt_of_cell HY1.out)).trans HY1.out); have HL2 := Lib.hid (HL1.out.below hb2); clear hm hl12 h1 h2 h3 h4 hb2 c0 c1 c2)
  have c0 := HK2.out.c0
  cases t
  · have HNO := Lib.hid (show ∀ y ∈ L, y.q ≠ b * 64 + x from fun y hy => by
      rw [H12.out] at hy
      rcases List.mem_append.1 hy with h | h
      · have := H1.out y h; omega
      · have := H4.out rfl y h; omega)
    go_wp2_with (first
      | (go_at_call 27; refine (sane_any A L n k HN.out HLG.out w2 (HL.out.below HBW.out)).mono ?_; rintro e w3 ⟨rfl, hb3⟩; have HB3 := Lib.hid hb3; have HL3 := Lib.hid (HL2.out.below hb3); have d1 := (hb3.cell (block_lt_of_cell HX2.out)).trans HX2.out; have d2 := (hb3.cell (block_lt_of_cell HY2.out)).trans HY2.out; clear hb3)
      | (refine wpList_store_lock (z := ⟨b, x, 0, 0⟩) rfl _ _ rfl rfl rfl HL3.out ?_; intro w4 hl4 hg4; have HL4 := Lib.hid hl4; have HG4 := Lib.hid hg4; clear hl4 hg4)
      | fail)
    refine bodyPost_ret (results_lock rfl _ rfl HL4.out) rfl ?_
    rw [hof_none HNO.out, kof_none HNO.out]
    have h9 := HBW.out.trans (HB3.out.mono HBW.out.size)
    exact ⟨rfl, h9.grown HG4.out h9.size (fun q e => by injection e with e; omega)⟩
  · obtain ⟨y, r, hyr, hyq⟩ := H3.out rfl
    have hmem : y ∈ L := by rw [H12.out, hyr]; simp
    have hyL : L[m]? = some y := by rw [H12.out, HM.out, List.getElem?_append_right (Nat.le_refl _), Nat.sub_self, hyr]; rfl
    obtain ⟨bb, oo, rfl, hbb, hcc⟩ := (HL.out.below HBW.out).get hyL
    have hmn : m < n := by rw [← HN.out]; exact (List.getElem?_eq_some_iff.1 hyL).1
    have hat := HLG.out.at_ hmem
    have hmx := (HLG.out.may y hmem).x
    have HE := Lib.hid (show y.b = b ∧ y.x = x ∧ y.h = hof L (b * 64 + x) ∧ y.k = kof L (b * 64 + x) by
      rw [← hyq]
      have h1 := HX.out
      unfold Lk.q at hyq
      exact ⟨by omega, by omega, hat.1.symm, hat.2.symm⟩)
    have e0 := hcc.c0
    have e1 := hcc.c1
    have e2 := hcc.c2
    have e3 := hcc.c3
    clear hyr hyq hmem hyL hcc hat hmx hbb
    go_wp2_with (first
      | (refine wpList_store_lock (z := y) rfl _ _ rfl rfl rfl HL2.out ?_; intro w4 hl4 hg4; have HL4 := Lib.hid hl4; have HG4 := Lib.hid hg4; clear hl4 hg4)
      | fail)
    refine bodyPost_ret (results_lock rfl _ rfl HL4.out) rfl ?_
    obtain ⟨g1, g2, g3, g4⟩ := HE.out
    rw [← g3, ← g4, ← g1, ← g2]
    exact ⟨rfl, HBW.out.grown HG4.out HBW.out.size (fun q e => by injection e with e; omega)⟩
end Go.Proofs.Ytohnfjneghbceaa
