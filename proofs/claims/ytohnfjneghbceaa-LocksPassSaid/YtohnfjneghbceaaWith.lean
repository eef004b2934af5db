/-
  A table with more locks.
-/
import Derived.Test.YtohnfjneghbceaaBoxk
import Derived.RegionTactic
import Derived.OwnWalk
namespace Go.Proofs.Ytohnfjneghbceaa
set_option maxRecDepth 100000
set_option linter.unusedVariables false
open Go.RowKit Go.Shelf Go.Sort

theorem lay_snoc (L more : List Lk) (z : Lk) : lay L (more ++ [z]) = ins (lay L more) z := by unfold lay; rw [List.foldl_append]; rfl
theorem CellsAt.of {W : World} {b o : Nat} {y : Lk} {i : Nat} (h : CellsAt W b (o + i * 4) y) (hi : i = 0) : CellsAt W b o y := by subst hi; simpa using h

set_option maxHeartbeats 2000000 in
theorem with_any (A : Option Addr) (L : List Lk) (n k : Nat) (hN : L.length = n) (hnk : n ≤ k) (hA : Sp A) (hl : LG L) (Am : Option Addr) (more : List Lk) (nm km : Nat) (hNm : more.length = nm) (hm : LG more) (w : World) (hL : LkAt w A L) (hM : LkAt w Am more) :
    Calls Try.prog 49 #[.agg #[.slice A n k], .slice Am nm km] w fun e w' => ∃ A' n' k', e = .returned (.agg #[.slice A' n' k']) ∧ OwnLk w' w.heap.size (.slice A' n' k') (lay L more) ∧ Below w.heap.size w w' := by
  have hn16 : n ≤ 16384 := by rw [← hN]; exact hl.len
  have hm16 : nm ≤ 16384 := by rw [← hNm]; exact hm.len
  obtain ⟨w0, hw0⟩ : ∃ w0, w0 = w.alloc (.cells #[.slice A n k] 49) := ⟨_, rfl⟩
  obtain ⟨w1, hw1⟩ : ∃ w1, w1 = w0.alloc (.cells #[.slice none 0 0] 49) := ⟨_, rfl⟩
  have hs0 : w0.heap.size = w.heap.size + 1 := by rw [hw0]; simp
  have hs1 : w1.heap.size = w.heap.size + 2 := by rw [hw1, World.size_alloc, hs0]
  have b0 : Below w.heap.size w w1 := by rw [hw1, hw0]; exact below_two (below_new _ _) (below_new _ _)
  have x0 : KB w1 w.heap.size A n k := by rw [hw1, hw0]; exact (KB.new w A n k).below (below_new _ _)
  have x1 : KB w1 (w.heap.size + 1) none 0 0 := by have := KB.new w0 none 0 0; rw [hs0] at this; rw [hw1]; exact this
  obtain ⟨i0, hi, hz0, hz1, hz2⟩ := parts_of lk_facts
  have HN := Lib.hid hN
  have HLG := Lib.hid hl
  have HNM := Lib.hid hNm
  have HMG := Lib.hid hm
  have HA := Lib.hid hA
  have HL0 := Lib.hid hL
  have HM0 := Lib.hid hM
  have HB1 := Lib.hid b0
  have HK1 := Lib.hid x1
  have HS1 := Lib.hid hs1
  have c0 := x0.c0
  clear hN hl hNm hm hA hL hM b0 x0 x1 hs1
  go_enter Try.func49, Try.ntmps49
  go_upto_region 1 with fail
  rw [← hw0, ← hw1]
  clear hw0 hw1 hs0 w0
  obtain ⟨nc, hnc⟩ : ∃ nc, nc = n + nm := ⟨_, rfl⟩
  have hsum : (n : Int) + (nm : Int) = (nc : Int) := by omega
  have hnc1 : nc ≤ 32768 := by omega
  clear hnc
  go_wp2_with (first | (refine wpList_make_own _ rfl _ _ _ rfl (w.heap.size + 2) 53 i0 _ 4 Try.underlying47 hi hz0 hz1 _ _ _ nc rfl rfl rfl (by rw [hz2]; omega) (by unfold maxLen; omega) (by have := HS1.out; omega) ?_; intro w2 hown2 hg2; have HO2 := Lib.hid hown2; have HG2 := Lib.hid hg2; clear hown2 hg2) | fail)
  have HB2 := Lib.hid (HB1.out.grown HG2.out HB1.out.size (by simp))
  have HK2 := Lib.hid (HK1.out.far HG2.out (by simp))
  have HO2b : Hid (OwnLk w2 (w.heap.size + 2) (.slice (some ⟨w1.heap.size, 0, none⟩) 0 nc) []) := HO2.out
  clear hi hz0 hz1 hz2 c0 hsum HO2 HG2
  go_loopw [5, 6, 21] (fun rv lv iv wr => ∃ (j : Nat) (acc R : List Lk) (A' : Option Addr) (n' k' : Nat), iv = .int .i64 (j : Int) ∧ rv = .slice A' n' k' ∧ j ≤ nm ∧ n' ≤ k' ∧ n' ≤ n ∧ Hid (R.length = n') ∧ Hid (Sp A') ∧ Hid (LkAt w A' R) ∧ Hid (OwnLk wr (w.heap.size + 2) lv acc) ∧ Hid (lay L (more.take j) = acc ++ R) ∧ Hid (LG R) ∧
    Hid (∀ z ∈ more.drop j, ∀ y ∈ acc, y.q < z.q) ∧ Hid (acc.length + n' ≤ n + j) ∧ Hid (KB wr (w.heap.size + 1) none 0 0) ∧ Hid (Below w.heap.size w wr)) (fun _ _ iv _ => nm - (intOf iv).toNat)
  case atStart => exact ⟨0, [], L, A, n, k, rfl, rfl, Nat.zero_le _, hnk, Nat.le_refl _, HN.out, HA.out, HL0.out, HO2b.out, rfl, HLG.out, (fun _ _ _ h => by cases h), (by simp : ([] : List Lk).length + n ≤ n + 0), HK2.out, HB2.out⟩
  case round =>
    obtain ⟨j, acc, R, A', n', k', rfl, rfl, hj, hnk', hnn, HR, HSP, HLR, HO, HLAY, HRG, HLT, HLEN, HK, HB⟩ := hrel
    clear HO2b HK2 HB2
    rcases Nat.lt_or_ge j nm with hlt | hge
    · obtain ⟨z, hz⟩ : ∃ z, more[j]? = some z := ⟨more[j]'(by rw [HNM.out]; exact hlt), List.getElem?_eq_getElem (by rw [HNM.out]; exact hlt)⟩
      have HMZ := Lib.hid (HMG.out.may z (List.mem_of_getElem? hz))
      obtain ⟨bm, om, rfl, hbm, hc⟩ := (HM0.out.below HB.out).get hz
      have HTK := Lib.hid (show more.take (j + 1) = more.take j ++ [z] by rw [List.take_add_one, hz]; rfl)
      have HDR := Lib.hid (show more.drop j = z :: more.drop (j + 1) by
        obtain ⟨h1, h2⟩ := List.getElem?_eq_some_iff.1 hz
        rw [← h2]; exact List.drop_eq_getElem_cons h1)
      have HUP := Lib.hid (show ∀ u ∈ more.drop (j + 1), z.q < u.q by
        have h := HMG.out.up
        rw [← List.take_append_drop j more, HDR.out] at h
        exact (List.pairwise_cons.1 (List.pairwise_append.1 h).2.1).1)
      have hc0 := hc.c0
      have hc1 := hc.c1
      have hc2 := hc.c2
      have hc3 := hc.c3
      obtain ⟨wz, hwz⟩ : ∃ wz, wz = wr.alloc (.cells #[.int .i64 z.b, .int .i64 z.x, .int .i64 z.h, .int .i64 z.k] 53) := ⟨_, rfl⟩
      have hbz : Below wr.heap.size wr wz := by rw [hwz]; exact below_new _ _
      obtain ⟨g, hg⟩ : ∃ g, g = wr.heap.size := ⟨_, rfl⟩
      have hy4 : LH wz g z := by rw [hwz, hg]; exact LH.new wr z
      have HBZ := Lib.hid (HB.out.trans (hbz.mono HB.out.size))
      have HKZ := Lib.hid (HK.out.below hbz)
      have HOZ := Lib.hid (HO.out.below hbz)
      have HGZ := Lib.hid (show ∀ q, u6.ownBlock = some q → q ≠ g from fun q e => by have := (HO.out.lt q e).2; omega)
      have HG2 := Lib.hid (show w.heap.size + 2 ≤ g by have h1 := HK.out.lt; omega)
      have cz0 := hy4.c0
      have cz1 := hy4.c1
      have HY4 := Lib.hid hy4
      clear hc hbz hy4 hz hbm
      go_upto_region 6 with fail
      rw [← hg, ← hwz]
      clear hwz hg hc0 hc1 hc2 hc3
      have HWB := Lib.hid HBZ.out
      go_upto_region 9 with (first
        | (go_at_call 50; refine (place_any A' R n' k' z.x z.b HMZ.out.x HRG.out HR.out wz (HLR.out.below HBZ.out)).mono ?_; rintro e w2 ⟨L1, L2, t, hl12, h1, h2, h3, h4, rfl, hb2⟩; obtain ⟨m, hm⟩ : ∃ m, m = L1.length := ⟨_, rfl⟩; rw [← hm]; have hmn : m ≤ n' := (by rw [← HR.out, hl12, List.length_append]; omega); have hmk : m ≤ k' := (by omega); have HM := Lib.hid hm; have H12 := Lib.hid hl12; have H1 := Lib.hid h1; have H3 := Lib.hid h3; have H4 := Lib.hid h4; have HB2 := Lib.hid hb2; have HO2 := Lib.hid (HOZ.out.below hb2); have HK2 := Lib.hid (HKZ.out.below hb2); have HY2 := Lib.hid (HY4.out.below hb2); have HBW := Lib.hid (HBZ.out.trans (hb2.mono HBZ.out.size)); clear hm hl12 h1 h2 h3 h4 hb2)
        | (refine wpList_slice_to rfl _ _ rfl A' n' k' m rfl rfl HSP.out hmk ?_)
        | (at_builtin; refine wpList_append_lks rfl _ _ rfl (w.heap.size + 2) u6 acc L1 rfl HO2.out A' m k' rfl (by have h := HLR.out; rw [H12.out] at h; exact (h.left).below HBW.out) HM.out.symm HSP.out (by have := HLEN.out; have := HM.out; omega) (by have h1 := HK2.out.lt; omega) ?_; intro v3 w3 hown3 hg3 hat3; have HO3 := Lib.hid hown3; have HG3 := Lib.hid hg3; have HK3 := Lib.hid (HK2.out.far hg3 (fun e => by have := (HO2.out.lt _ e.symm).1; omega)); have HY3 := Lib.hid (HY2.out.far hg3 (fun e => HGZ.out _ e.symm rfl)); have HB3 := Lib.hid (HBW.out.grown hg3 HBW.out.size (fun q e => by have := (HO2.out.lt q e).1; omega)); have HA3 := Lib.hid (show ∀ q, v3.ownBlock = some q → q ≠ g from fun q e => by
            rcases hat3 with h | h
            · exact HGZ.out q (by rw [← h]; exact e)
            · rw [e] at h; injection h with h; have := HY2.out.lt; omega); clear hown3 hg3 hat3)
        | (refine wpList_slice_from rfl _ _ rfl A' n' k' m rfl rfl HSP.out hmn hnk' (by have h := HLR.out; rw [H12.out] at h; exact h) HM.out.symm (by rw [← H12.out]; exact HR.out) ?_; intro A4 n4 k4 hsp4 hl4 hn4 hnk4; have HSP4 := Lib.hid hsp4; have HL4 := Lib.hid hl4; have HN4 := Lib.hid hn4; clear hsp4 hl4 hn4)
        | fail)
      have HLI := Lib.hid (show lay L (more.take (j + 1)) = acc ++ L1 ++ ins L2 z from by
        rw [HTK.out, lay_snoc, HLAY.out, ins_front (fun y hy => HLT.out z (by rw [HDR.out]; simp) y hy), H12.out, ins_front (l := L1) H1.out, List.append_assoc])
      have HG2R := Lib.hid (show LG L2 from by have h := HRG.out; rw [H12.out] at h; exact h.right)
      have HLR12 := Lib.hid (show L1.length + L2.length = n' from by rw [← HR.out, H12.out, List.length_append])
      have HLT2 := Lib.hid (show ∀ u ∈ more.drop (j + 1), ∀ y ∈ acc ++ L1, y.q < u.q from fun u hu y hy => by
        rcases List.mem_append.1 hy with h | h
        · exact HLT.out u (by rw [HDR.out]; exact List.mem_cons_of_mem _ hu) y h
        · have h1 := H1.out y h
          have h2 := HUP.out u hu
          have h3 : z.q = z.b * 64 + z.x := rfl
          omega)
      cases t
      · have HI := Lib.hid (show ins L2 z = z :: L2 from by
          cases L2 with
          | nil => rfl
          | cons y r => exact ins_new (by have := H4.out rfl y (by simp); exact this))
        have d0 := HY3.out.c0
        have d1 := HY3.out.c1
        have d2 := HY3.out.c2
        have d3 := HY3.out.c3
        go_wp2_with (first
            | (at_builtin; refine wpList_append_lks rfl _ _ rfl (w.heap.size + 2) v3 (acc ++ L1) [z] rfl (HO3.out.below (below_new _ _)) _ 1 1 rfl (LkAt.new _ z _) rfl (.inr ⟨_, _, rfl⟩) (by have h1 := HLEN.out; have h2 := HM.out; simp; omega) (by have h1 := HK3.out.lt; simp; omega) ?_; intro v5 w5 hown5 hg5 hat5; have HO5 := Lib.hid hown5; have HG5 := Lib.hid hg5; clear hown5 hg5 hat5)
            | fail)
        have hb5 := below_new w3 (.cells #[.int .i64 z.b, .int .i64 z.x, .int .i64 z.h, .int .i64 z.k] 53)
        have HK5 := Lib.hid ((HK3.out.below hb5).far HG5.out (fun e => by have := (HO3.out.lt _ e.symm).1; omega))
        have HB5 := Lib.hid ((HB3.out.alloc HB3.out.size (.cells #[.int .i64 z.b, .int .i64 z.x, .int .i64 z.h, .int .i64 z.k] 53)).grown HG5.out (by have := HB3.out.size; simp; omega) (fun q e => by have := (HO3.out.lt q e).1; omega))
        clear hb5
        go_roundw
        case rel => exact ⟨j + 1, acc ++ L1 ++ [z], L2, A4, n4, k4, by simp, rfl, by omega, hnk4, by have h1 := HLR12.out; have h2 := HN4.out; omega, HN4.out, HSP4.out, HL4.out, HO5.out, (show lay L (more.take (j + 1)) = acc ++ L1 ++ [z] ++ L2 by rw [HLI.out, HI.out]; simp), HG2R.out, (fun u hu y hy => by
            rcases List.mem_append.1 hy with h | h
            · exact HLT2.out u hu y h
            · have : y = z := by simpa using h
              rw [this]; exact HUP.out u hu), (show (acc ++ L1 ++ [z]).length + n4 ≤ n + (j + 1) by have h1 := HLEN.out; have h2 := HLR12.out; have h3 := HN4.out; simp only [List.length_append, List.length_cons, List.length_nil]; omega), HK5.out, HB5.out⟩
        case measure => simp [intOf]; omega
      · obtain ⟨y, r, hyr, hyq⟩ := H3.out rfl
        subst hyr
        have HQ := Lib.hid hyq
        have HMY := Lib.hid (HG2R.out.may y (by simp))
        obtain ⟨b4, o4, rfl, hb4, hc4⟩ := (HL4.out.below HB3.out).get (i := 0) (y := y) rfl
        have hc4 := hc4.of rfl
        obtain ⟨H, hH⟩ : ∃ H, max z.h y.h = H := ⟨_, rfl⟩
        obtain ⟨K, hK⟩ : ∃ K, max z.k y.k = K := ⟨_, rfl⟩
        have hn4 : 0 < n4 := by rw [← HN4.out]; simp
        have d2 := HY3.out.c2
        have e2 := hc4.c2
        have f2 := HY3.out.fr 2
        have HC4 := Lib.hid hc4
        have HB4 := Lib.hid hb4
        clear hyq hc4 hb4
        go_upto_region 10 with fail
        go_region
        obtain ⟨w10, hw10⟩ : ∃ w10, w10 = World.drew (w3.setCell ⟨g, 2, none⟩ (.int .i64 H)) := ⟨_, rfl⟩
        rw [← hw10]
        have hB10 : Below w.heap.size w w10 := by rw [hw10]; exact (HB3.out.setCell (p := ⟨g, 2, none⟩) (by have := HG2.out; show w.heap.size ≤ g; omega) _).drew
        have hT10 : Turn (fun k => k = g) w3 w10 := by rw [hw10]; exact ((Turn.refl (fun k => k = g) w3).setCell ⟨g, 2, none⟩ _ (.inl rfl)).drew
        have hY10 : LH w10 g ⟨z.b, z.x, H, z.k⟩ := by rw [hw10]; exact HY3.out.setH H
        have HB10 := Lib.hid hB10
        have HY10 := Lib.hid hY10
        have HO10 := Lib.hid (HO3.out.turn hT10 (fun q e h => HA3.out q e h))
        have HK10 := Lib.hid (HK3.out.turn hT10 (by have := HG2.out; omega))
        clear d2 e2 f2 hw10 hB10 hT10 hY10
        obtain ⟨b5, o5, e5, hb5, hc5⟩ := (HL4.out.below HB10.out).get (i := 0) (y := y) rfl
        injection e5 with e5
        injection e5 with e51 e52
        subst e51
        subst e52
        have d3 : w10.cell? ⟨g, 3, none⟩ = some (.int .i64 z.k) := HY10.out.c3
        have e3 := (hc5.of rfl).c3
        have f3 := HY10.out.fr 3
        clear hc5 hb5
        go_upto_region 11 with fail
        go_region
        obtain ⟨w11, hw11⟩ : ∃ w11, w11 = World.drew (w10.setCell ⟨g, 3, none⟩ (.int .i64 K)) := ⟨_, rfl⟩
        rw [← hw11]
        obtain ⟨zz, hzz⟩ : ∃ zz : Lk, zz = ⟨z.b, z.x, H, K⟩ := ⟨_, rfl⟩
        have hB11 : Below w.heap.size w w11 := by rw [hw11]; exact (HB10.out.setCell (p := ⟨g, 3, none⟩) (by have := HG2.out; show w.heap.size ≤ g; omega) _).drew
        have hT11 : Turn (fun k => k = g) w10 w11 := by rw [hw11]; exact ((Turn.refl (fun k => k = g) w10).setCell ⟨g, 3, none⟩ _ (.inl rfl)).drew
        have hY11 : LH w11 g zz := by rw [hw11, hzz]; exact HY10.out.setK K
        have HB11 := Lib.hid hB11
        have HY11 := Lib.hid hY11
        have HO11 := Lib.hid (HO10.out.turn hT11 (fun q e h => HA3.out q e h))
        have HK11 := Lib.hid (HK10.out.turn hT11 (by have := HG2.out; omega))
        have hmz : zz = mrg z y := by rw [hzz, ← hH, ← hK]; rfl
        have HI := Lib.hid (show ins (y :: r) z = zz :: r from by rw [hmz]; exact ins_there (by rw [HQ.out]; rfl))
        have HZQ := Lib.hid (show zz.q = z.q from by rw [hzz]; rfl)
        clear d3 e3 f3 hw11 hB11 hT11 hzz hmz hH hK
        have d0 := HY11.out.c0
        have d1 := HY11.out.c1
        have d2 := HY11.out.c2
        have d3 := HY11.out.c3
        go_wp2_with (first
            | (at_builtin; refine wpList_append_lks rfl _ _ rfl (w.heap.size + 2) v3 (acc ++ L1) [zz] rfl (HO11.out.below (below_new _ _)) _ 1 1 rfl (LkAt.new _ zz _) rfl (.inr ⟨_, _, rfl⟩) (by have h1 := HLEN.out; have h2 := HM.out; simp; omega) (by have h1 := HK11.out.lt; simp; omega) ?_; intro v5 w5 hown5 hg5 hat5; have HO5 := Lib.hid hown5; have HG5 := Lib.hid hg5; clear hown5 hg5 hat5)
            | (refine wpList_slice_from rfl _ _ rfl (some ⟨b4, o4, none⟩) n4 k4 1 rfl rfl HSP4.out (by omega) hnk4 (W := w) (l := [y]) (r := r) HL4.out rfl HN4.out ?_; intro A6 n6 k6 hsp6 hl6 hn6 hnk6; have HSP6 := Lib.hid hsp6; have HL6 := Lib.hid hl6; have HN6 := Lib.hid hn6; clear hsp6 hl6 hn6)
            | fail)
        have hb5 := below_new w11 (.cells #[.int .i64 zz.b, .int .i64 zz.x, .int .i64 zz.h, .int .i64 zz.k] 53)
        have HK5 := Lib.hid ((HK11.out.below hb5).far HG5.out (fun e => by have := (HO11.out.lt _ e.symm).1; omega))
        have HB5 := Lib.hid ((HB11.out.alloc HB11.out.size (.cells #[.int .i64 zz.b, .int .i64 zz.x, .int .i64 zz.h, .int .i64 zz.k] 53)).grown HG5.out (by have := HB11.out.size; simp; omega) (fun q e => by have := (HO11.out.lt q e).1; omega))
        clear hb5
        go_roundw
        case rel => exact ⟨j + 1, acc ++ L1 ++ [zz], r, A6, n6, k6, by simp, rfl, by omega, hnk6, by have h1 := HLR12.out; have h2 := HN6.out; simp only [List.length_cons] at h1; omega, HN6.out, HSP6.out, HL6.out, HO5.out, (show lay L (more.take (j + 1)) = acc ++ L1 ++ [zz] ++ r by rw [HLI.out, HI.out]; simp), HG2R.out.tail, (fun u hu x hx => by
            rcases List.mem_append.1 hx with h | h
            · exact HLT2.out u hu x h
            · have : x = zz := by simpa using h
              rw [this, HZQ.out]; exact HUP.out u hu), (show (acc ++ L1 ++ [zz]).length + n6 ≤ n + (j + 1) by have h1 := HLEN.out; have h2 := HLR12.out; have h3 := HN6.out; simp only [List.length_append, List.length_cons, List.length_nil] at *; omega), HK5.out, HB5.out⟩
        case measure => simp [intOf]; omega
    · obtain rfl : j = nm := by omega
      have hlen : acc.length ≤ 40000 := by have := HLEN.out; omega
      have HLAST := Lib.hid (show lay L more = acc ++ R by have h := HLAY.out; rw [List.take_of_length_le (by rw [HNM.out]; omega)] at h; exact h)
      have HAL := Lib.hid hlen
      have HLRB := Lib.hid (HLR.out.below HB.out)
      have HSZ := Lib.hid HK.out.lt
      clear hlen
      go_wp2_with (first
        | (at_builtin; refine wpList_append_lks rfl _ _ rfl (w.heap.size + 2) u6 acc R rfl HO.out A' n' k' rfl HLRB.out HR.out HSP.out (by have h1 := HAL.out; have h2 := HR.out; omega) (by have h1 := HSZ.out; omega) ?_; intro v5 w5 hown5 hg5 hat5; have HO5 := Lib.hid hown5; have HG5 := Lib.hid hg5; have HK5 := Lib.hid (HK.out.far hg5 (fun e => by have := (HO.out.lt _ e.symm).1; omega)); have HB5 := Lib.hid (HB.out.grown hg5 HB.out.size (fun q e => by have := (HO.out.lt q e).1; omega)); obtain ⟨A7, c7, e7, hc7, hl7, hs7⟩ := hown5.form; subst e7; clear hown5 hg5 hat5 hl7 hs7)
        | (refine wpList_store_table rfl _ _ rfl rfl rfl HK5.out ?_; intro w6 hk6 hg6; have HK6 := Lib.hid hk6; have HG6 := Lib.hid hg6; clear hk6 hg6)
        | fail)
      refine bodyPost_ret (results_table rfl _ rfl HK6.out) rfl ?_
      refine ⟨A7, _, c7, rfl, ?_, HB5.out.grown HG6.out HB5.out.size (fun q e => by injection e with e; omega)⟩
      rw [HLAST.out]
      have h7 := HO5.out.turn (S := fun q => q = w.heap.size + 1) ((Turn.refl _ w5).grown HG6.out (fun q e => by injection e with e; exact .inl e.symm)) (fun q e h => by have := (HO5.out.lt q e).1; omega)
      rw [List.length_append] at h7
      exact OwnLk.le (b := w.heap.size) h7 (Nat.le_add_right _ 2)
end Go.Proofs.Ytohnfjneghbceaa
