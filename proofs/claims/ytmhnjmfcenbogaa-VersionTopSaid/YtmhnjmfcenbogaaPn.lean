/-
  A block read.
-/
import Derived.Test.YtmhnjmfcenbogaaPm
import Derived.WalkMore
namespace Go.Proofs.Ytmhnjmfcenbogaa
set_option maxRecDepth 100000
set_option linter.unusedVariables false
set_option linter.unusedSimpArgs false
open Go.RowKit Go.Shelf

theorem way_next {T : Tr} (h : Good T) {i : Nat} (hi : i < T.l.length) : T.way (i : Int) = i :: T.way (T.tx i).p := by
  rw [Tr.way_nat hi]
  have h1 := h.par i hi
  by_cases h0 : (T.tx i).p < 0
  · rw [wayN_top (by unfold Tr.par; exact h0), Tr.way_none (.inl h0)]
  · obtain ⟨j, hj⟩ : ∃ j : Nat, (T.tx i).p = (j : Int) := ⟨(T.tx i).p.toNat, by omega⟩
    rw [wayN_up (j := j) (by unfold Tr.par; exact hj) (by omega), hj, Tr.way_nat (by omega)]
theorem way_in {T : Tr} {z : Int} {ws : List Nat} {w : Nat} (h : T.way z = w :: ws) : z = (w : Int) ∧ w < T.l.length := by
  unfold Tr.way at h
  split at h
  · obtain ⟨r, hr⟩ := wayN_head T.par z.toNat
    rw [hr] at h
    injection h with h1 h2
    omega
  · cases h

theorem readD_skip {t : Vt} {u : Nat} {ws : List Nat} {k : Int} (h : hasV t.L (u : Int) k = none) : readD t (u :: ws) k = readD t ws k := by
  unfold readD; rw [nearV_cons, h]; rfl

set_option maxHeartbeats 4000000 in
theorem read_any : ReadOk := by
  intro A B n a m b t D N d c T x k w ht hs hl hr hG hTc hc9 hN hx hk
  obtain ⟨w1, hw1⟩ : ∃ q, q = (w.alloc (.cells (vtC A n a B m b) 30)).alloc (.cells (txC2 D N d c) 26) := ⟨_, rfl⟩
  have HB1 := Lib.hid (show Below w.heap.size w w1 by rw [hw1]; exact below_two (below_new w _) (below_new _ _))
  have H4 := Lib.hid (show Bk w1 w.heap.size (vtC A n a B m b) 30 by rw [hw1]; exact (Bk.new w _ _).al _)
  have H5 := Lib.hid (show Bk w1 (w.heap.size + 1) (txC2 D N d c) 26 by
    rw [hw1]
    have h := Bk.new (w.alloc (.cells (vtC A n a B m b) 30)) (txC2 D N d c) 26
    rw [size_al] at h; exact h)
  have HT := Lib.hid ht
  have HS := Lib.hid hs
  have HL := Lib.hid hl
  have HR := Lib.hid hr
  have HNN := Lib.hid hN
  have HG := Lib.hid hG
  clear ht hs hl hr hG hTc hc9 hN hx hk
  go_enter Try.func11, Try.ntmps11
  go_upto_region 1 with fail
  rw [← hw1]
  clear hw1
  go_step3
  obtain ⟨g5, hg5⟩ : ∃ q, q = w.heap.size + 1 := ⟨_, rfl⟩
  rw [← hg5] at H5 ⊢
  have HG5 := Lib.hid hg5
  clear hg5
  have x0 := H4.out.v0
  have x1 := H4.out.v1
  have y0 : w1.cell? ⟨g5, 0, none⟩ = some (.slice D N d) := H5.out.c 0 _ rfl
  have y1 : w1.cell? ⟨g5, 1, none⟩ = some (.int .i64 c) := H5.out.c 1 _ rfl
  go_wp2_with fail
  refine (asked_any A B n a m b t D N d c T x k w1 (HT.out.below HB1.out) HS.out HL.out (HR.out.below HB1.out) HNN.out).mono ?_
  rintro e w2 ⟨rfl, hb2⟩
  have H42 := Lib.hid (H4.out.below hb2)
  have H52 := Lib.hid (H5.out.below hb2)
  have HB2 := Lib.hid (HB1.out.trans (hb2.mono HB1.out.size))
  clear hb2 H4 H5 HB1 x0 x1 y0 y1
  obtain ⟨E, hE⟩ : ∃ E, askV t T x k = E := ⟨_, rfl⟩
  have HE := Lib.hid hE
  rw [hE]
  clear hE
  by_cases e0 : E = 0
  · subst e0
    obtain ⟨hk0, hx0, _⟩ := askV_live HE.out
    obtain ⟨ss, hss⟩ := HT.out.base
    obtain ⟨vs, hvs⟩ := HT.out.vers
    have hkn : t.B.length = n := hss.k
    obtain ⟨kn, rfl⟩ : ∃ kn : Nat, k = (kn : Int) := ⟨k.toNat, by omega⟩
    obtain ⟨i, rfl⟩ : ∃ i : Nat, x = (i : Int) := ⟨x.toNat, by omega⟩
    have hlt : kn < n := by omega
    have hn256 : n ≤ 256 := by rw [← hkn]; exact HS.out.n
    have hiN : i < T.l.length := by omega
    obtain ⟨b2, o, Ax, nx, cx, hA, hbl, q0, hd⟩ := bas_cells hss hlt
    subst hA
    have hm1 : m ≤ 1000 := by rw [← hvs.k]; exact HL.out
    have HOF := Lib.hid (fun V (hV : Below w.heap.size w V) => of_any (some ⟨b2, o, none⟩) B n a m b t.L vs (kn : Int) (by omega) HS.out.up (fun p hp => (HS.out.may p hp).2.1.1) (by omega) HT.out.mb HT.out.sb V (hvs.below hV))
    have HDB := Lib.hid hd
    have x0 : ∀ V, Since w2 V → V.cell? ⟨w.heap.size, 0, none⟩ = some (.slice (some ⟨b2, o, none⟩) n a) := fun V hV => (H42.out.below hV).v0
    have x1 : ∀ V, Since w2 V → V.cell? ⟨w.heap.size, 1, none⟩ = some (.slice B m b) := fun V hV => (H42.out.below hV).v1
    have c0' : ∀ V, Since w2 V → V.cell? ⟨b2, o + kn, none⟩ = some (.slice Ax nx cx) := fun V hV => ((HB2.out.trans (Below.mono hV HB2.out.size)).cell (p := ⟨b2, o + kn, none⟩) hbl).trans q0
    have hi1 : (kn : Int) < (n : Int) := by omega
    have HRB := Lib.hid (show readD t [] (kn : Int) = t.B.getD kn [] from rfl)
    have HIN := Lib.hid hiN
    clear hk0 hx0 hss hkn hiN hbl q0 hd hvs hn256
    go_upto_region 4 with fail
    refine wp_region_since (by kernel_rfl) ?_
    have hS : Since w2 (World.drew w2) := (Below.refl _ _).drew
    refine wpAnyH_take (i := 0) (oi := ⟨some 24, _, _, _, _, _⟩) (v := ?_) rfl (by kernel_rfl) (by kernel_rfl) (by kernel_rfl) (fun _ _ _ h => h) (Or.inl ⟨by rfl, ?_⟩) hS ?_
    rotate_left
    · intro W hW; go_simp; with_reducible rfl
    try simp only [Act.put, List.setIfInBounds_toArray, List.set_cons_zero, List.set_cons_succ]
    refine wpAnyH_take (i := 1) (oi := ⟨some 25, _, _, _, _, _⟩) (v := ?_) rfl (by kernel_rfl) (by kernel_rfl) (by kernel_rfl) (fun _ _ _ h => h) (Or.inl ⟨by rfl, ?_⟩) hS ?_
    rotate_left
    · intro W hW; go_simp; with_reducible rfl
    try simp only [Act.put, List.setIfInBounds_toArray, List.set_cons_zero, List.set_cons_succ]
    refine wpAnyH_take (i := 2) (oi := ⟨some 26, _, _, _, _, _⟩) (v := ?_) rfl (by kernel_rfl) (by kernel_rfl) (by kernel_rfl) (fun _ _ _ h => h) (Or.inl ⟨by rfl, ?_⟩) hS ?_
    rotate_left
    · intro W hW; go_simp; with_reducible rfl
    try simp only [Act.put, List.setIfInBounds_toArray, List.set_cons_zero, List.set_cons_succ]
    refine wpAnyH_take (i := 3) (oi := ⟨some 27, _, _, _, _, _⟩) (v := ?_) rfl (by kernel_rfl) (by kernel_rfl) (by kernel_rfl) (fun _ _ _ h => h) (Or.inl ⟨by rfl, ?_⟩) hS ?_
    rotate_left
    · intro W hW; go_simp; with_reducible rfl
    try simp only [Act.put, List.setIfInBounds_toArray, List.set_cons_zero, List.set_cons_succ]
    refine wpAnyH_take (i := 4) (oi := ⟨some 28, _, _, _, _, _⟩) (v := ?_) rfl (by kernel_rfl) (by kernel_rfl) (by kernel_rfl) (fun _ _ _ h => h) (Or.inl ⟨by rfl, ?_⟩) hS ?_
    rotate_left
    · intro W hW; go_simp; with_reducible rfl
    try simp only [Act.put, List.setIfInBounds_toArray, List.set_cons_zero, List.set_cons_succ]
    refine wpAnyH_take (i := 5) (oi := ⟨some 29, _, _, _, _, _⟩) (v := ?_) rfl (by kernel_rfl) (by kernel_rfl) (by kernel_rfl) (fun _ _ _ h => h) (Or.inl ⟨by rfl, ?_⟩) hS ?_
    rotate_left
    · intro W hW; go_simp; with_reducible rfl
    try simp only [Act.put, List.setIfInBounds_toArray, List.set_cons_zero, List.set_cons_succ]
    refine wpAnyH_take (i := 6) (oi := ⟨some 30, _, _, _, _, _⟩) (v := ?_) rfl (by kernel_rfl) (by kernel_rfl) (by kernel_rfl) (fun _ _ _ h => h) (Or.inl ⟨by rfl, ?_⟩) hS ?_
    rotate_left
    · intro W hW; go_simp; with_reducible rfl
    try simp only [Act.put, List.setIfInBounds_toArray, List.set_cons_zero, List.set_cons_succ]
    refine wpAnyH_take (i := 8) (oi := ⟨some 32, _, _, _, _, _⟩) (v := ?_) rfl (by kernel_rfl) (by kernel_rfl) (by kernel_rfl) (fun _ _ _ h => h) (Or.inl ⟨by rfl, ?_⟩) hS ?_
    rotate_left
    · intro W hW; go_simp; with_reducible rfl
    try simp only [Act.put, List.setIfInBounds_toArray, List.set_cons_zero, List.set_cons_succ]
    refine wpAnyH_ready (rs := [7]) (by kernel_rfl) (by simp) ?_
    refine AllReadyH.cons (o := ⟨some 31, _, _, _, _, _⟩) rfl (fun Kr hKr => ?_) AllReadyH.nil
    -- operation 7: a call
    go_simp
    refine (HOF.out _ (HB2.out.trans (Below.mono hS HB2.out.size))).mono ?_
    rintro e V0 ⟨A3, n3, c3, us, rfl, hus, hn3, hv⟩
    have HUS := Lib.hid hus
    have HN3 := Lib.hid hn3
    clear hus hn3
    show Kr _ _
    refine hKr.out _ _ ?_ (fun _ => ?_)
    · exact since_trans hS hv
    clear hKr Kr
    replace hS : Since w2 V0 := since_trans hS hv
    try simp only [Act.put, List.setIfInBounds_toArray, List.set_cons_zero, List.set_cons_succ]
    refine wpAnyH_take (i := 9) (oi := ⟨some 11, _, _, _, _, _⟩) (v := ?_) rfl (by kernel_rfl) (by kernel_rfl) (by kernel_rfl) (fun _ _ _ h => h) (Or.inl ⟨by rfl, ?_⟩) hS ?_
    rotate_left
    · intro W hW; go_simp; with_reducible rfl
    try simp only [Act.put, List.setIfInBounds_toArray, List.set_cons_zero, List.set_cons_succ]
    refine wpAnyH_take (i := 10) (oi := ⟨some 12, _, _, _, _, _⟩) (v := ?_) rfl (by kernel_rfl) (by kernel_rfl) (by kernel_rfl) (fun _ _ _ h => h) (Or.inl ⟨by rfl, ?_⟩) hS ?_
    rotate_left
    · intro W hW; go_simp; with_reducible rfl
    try simp only [Act.put, List.setIfInBounds_toArray, List.set_cons_zero, List.set_cons_succ]
    refine wpAnyH_take (i := 11) (oi := ⟨some 13, _, _, _, _, _⟩) (v := ?_) rfl (by kernel_rfl) (by kernel_rfl) (by kernel_rfl) (fun _ _ _ h => h) (Or.inl ⟨by rfl, ?_⟩) hS ?_
    rotate_left
    · intro W hW; go_simp; with_reducible rfl
    try simp only [Act.put, List.setIfInBounds_toArray, List.set_cons_zero, List.set_cons_succ]
    refine wpAnyH_done (by kernel_rfl) ?_ _
    have HS3 := Lib.hid hS
    clear hS x0 x1 c0' HOF
    have H53 := Lib.hid (H52.out.below HS3.out)
    have HB3 := Lib.hid (HB2.out.trans (Below.mono HS3.out HB2.out.size))
    obtain ⟨w3, hw3⟩ : ∃ w3, w3 = V0 := ⟨_, rfl⟩
    subst hw3
    clear H42 H52 HB2 HS3
    have y0 : w3.cell? ⟨g5, 0, none⟩ = some (.slice D N d) := H53.out.c 0 _ rfl
    have y1 : w3.cell? ⟨g5, 1, none⟩ = some (.int .i64 c) := H53.out.c 1 _ rfl
    go_wp2_with fail
    go_step3
    go_wp2_with fail
    refine (deep_any D T N d c (i : Int) HNN.out HG.out w3 (HR.out.below HB3.out)).mono ?_
    rintro e w4 ⟨rfl, hb4⟩
    have H54 := Lib.hid (H53.out.below hb4)
    have HB4 := Lib.hid (HB3.out.trans (hb4.mono HB3.out.size))
    have HUS4 := Lib.hid (HUS.out.below hb4)
    obtain ⟨q, hq⟩ : ∃ q, (T.way (i : Int)).length = q := ⟨_, rfl⟩
    rw [hq]
    have HQ := Lib.hid hq
    clear hb4 H53 HB3 HUS y0 y1 hq
    have HB5 := Lib.hid (show ∀ q o, A3 = some ⟨q, o, none⟩ → True from fun _ _ _ => trivial)
    have HBL := Lib.hid (show ∀ V, Below w4.heap.size w4 V → DatAt V ⟨Ax, nx, cx⟩ (t.B.getD kn []) from fun V hV => HDB.out.below (HB4.out.trans (hV.mono HB4.out.size)))
    have HTG := Lib.hid (show ∀ V, Below w4.heap.size w4 V → ∀ u, u < N → ∃ b, D = some ⟨b, 0, none⟩ ∧ V.cell? ⟨b, u * 4, none⟩ = some (.int .i64 (T.tx u).p) from fun V hV u hu => by
      obtain ⟨b, e, hb, h1, _⟩ := tx_get HR.out (by rw [HNN.out]; exact hu)
      exact ⟨b, e, ((HB4.out.trans (hV.mono HB4.out.size)).cell (p := ⟨b, u * 4, none⟩) hb).trans h1⟩)
    have HONB := Lib.hid (show ∀ y ∈ onV t.L (kn : Int), y.b = (kn : Int) from fun y hy => by unfold onV at hy; rw [List.mem_filter] at hy; simpa using hy.2)
    have HOND := Lib.hid (show ∀ y ∈ onV t.L (kn : Int), y.d.length = 32 from fun y hy => by unfold onV at hy; rw [List.mem_filter] at hy; exact (HS.out.may y hy.1).2.2)
    have HRDL := Lib.hid (show (readD t [] (kn : Int)).length = 32 from readD_len HS.out (askV_live HE.out).1 [])
    have hn3b : n3 ≤ 1000 := by have := HN3.out; omega
    have hq8 : q ≤ 8 := by
      rw [← HQ.out, Tr.way_nat HIN.out]; exact HG.out.deep i HIN.out
    go_wp2_with fail
    go_loopw [11, 13, 36] (fun nv av iv wr => ∃ (cc : Nat) (z : Int) (ws : List Nat), nv = .slice Ax nx cx ∧ av = .int .i64 z ∧ iv = .int .i64 (cc : Int) ∧ Hid (T.way z = ws) ∧ ws.length + cc = q ∧ Hid (readD t (T.way (i : Int)) (kn : Int) = readD t ws (kn : Int)) ∧ Hid (Below w4.heap.size w4 wr)) (fun _ _ iv _ => q - (intOf iv).toNat)
    case atStart => exact ⟨0, (i : Int), T.way (i : Int), rfl, rfl, rfl, Lib.hid rfl, by rw [HQ.out]; rfl, Lib.hid rfl, Lib.hid (Below.refl _ _)⟩
    case round =>
      obtain ⟨cc, z, ws, rfl, rfl, rfl, HWZ, hcc, HRW, HBR⟩ := hrel
      cases ws with
      | nil =>
        have hcq : cc = q := by simpa using hcc
        subst hcq
        have hd4 : decide ((cc : Int) < (cc : Int)) = false := decide_eq_false (by omega)
        have hd5 : decide (cc < cc) = false := decide_eq_false (by omega)
        have HDX := Lib.hid (HBL.out wr HBR.out)
        obtain ⟨gl, hgl⟩ : ∃ g, wr.heap.size = g := ⟨_, rfl⟩
        have HLD := Lib.hid (laid_any Ax nx cx (t.B.getD kn []) (by have h1 := HDB.out.n; have h2 := HRDL.out; rw [HRB.out] at h2; simp only at h1; omega) gl wr hgl HDX.out)
        go_wp2_with fail
        refine HLD.out.mono ?_
        rintro e w5 ⟨rfl, hd5', _, hb5⟩
        have HD5 := Lib.hid hd5'
        have HB6 := Lib.hid ((HB4.out.trans (HBR.out.mono HB4.out.size)).trans (hb5.mono (HB4.out.trans (HBR.out.mono HB4.out.size)).size))
        clear hd5' hb5
        go_wp2_with fail
        go_ret2
        refine ⟨HB6.out, .inl ⟨HE.out, some ⟨gl, 0, none⟩, 32, rfl, ?_⟩⟩
        rw [HRW.out, HRB.out]
        have h := HD5.out
        rw [padV_full (by have h2 := HRDL.out; rw [HRB.out] at h2; exact h2)] at h
        exact h
      | cons u ws =>
        obtain ⟨hzu, hun⟩ := way_in HWZ.out
        subst hzu
        have hcl : cc < q := by simp only [List.length_cons] at hcc; omega
        have hd4 : decide ((cc : Int) < (q : Int)) = true := decide_eq_true (by omega)
        have hd5 : decide (cc < q) = true := decide_eq_true hcl
        have HWN := Lib.hid (show T.way (T.tx u).p = ws from by
          have h1 := HWZ.out
          rw [way_next HG.out hun] at h1
          injection h1)
        have HUN := Lib.hid (show u < N by rw [← HNN.out]; exact hun)
        have HCC := Lib.hid (show ws.length + (cc + 1) = q by simp only [List.length_cons] at hcc; omega)
        obtain ⟨wo, hwo⟩ : ∃ wo, wo = wr := ⟨_, rfl⟩
        subst hwo
        clear hun hcc hcl
        go_wp2_with fail
        go_loopw [11, 40] (fun nv jv wv => ∃ j : Nat, nv = .slice Ax nx cx ∧ jv = .int .i64 (j : Int) ∧ j ≤ n3 ∧ Hid (∀ y ∈ (onV t.L (kn : Int)).take j, y.x ≠ (u : Int)) ∧ Hid (Below w4.heap.size w4 wv)) (fun _ jv _ => n3 - (intOf jv).toNat)
        case atStart => exact ⟨0, rfl, rfl, Nat.zero_le _, Lib.hid (by simp), HBR⟩
        case round =>
          obtain ⟨j, rfl, rfl, hj, HNO, HBJ⟩ := hrel
          rcases Nat.lt_or_ge j n3 with hlt | hge
          · obtain ⟨b3, o3, yA, yn, yk, hA3, hbl3, hget, q0, q1, q2, hdy⟩ := ver_cells rfl rv_oko HUS4.out hlt
            subst hA3
            generalize (onV t.L (kn : Int)).getD j vnD = y at *
            obtain ⟨yb, yx, yd⟩ := y
            simp only at q0 q1 hdy
            have c0 := (HBJ.out.cell (p := ⟨b3, o3 + j * 3, none⟩) hbl3).trans q0
            have c1 := (HBJ.out.cell (p := ⟨b3, o3 + j * 3 + 1, none⟩) hbl3).trans q1
            have c2 := (HBJ.out.cell (p := ⟨b3, o3 + j * 3 + 2, none⟩) hbl3).trans q2
            have hd6 : decide ((j : Int) < (n3 : Int)) = true := decide_eq_true (by omega)
            have hd7 : decide (j < n3) = true := decide_eq_true hlt
            have hi1 : (j : Int) < (n3 : Int) := by omega
            have HGT := Lib.hid hget
            have HDY := Lib.hid (hdy.below HBJ.out)
            have HJ1 := Lib.hid (show j + 1 ≤ n3 from hlt)
            clear q0 q1 q2 hbl3 hget hdy
            go_upto_region 10 with fail
            obtain ⟨wk, hwk⟩ : ∃ q, q = wr.alloc (.cells (veC yb yx yA yn yk) 74) := ⟨_, rfl⟩
            obtain ⟨g7, hg7⟩ : ∃ q, q = wr.heap.size := ⟨_, rfl⟩
            have hbk : Below wr.heap.size wr wk := by rw [hwk]; exact below_new _ _
            have hk7 : Bk wk g7 (veC yb yx yA yn yk) 74 := by rw [hwk, hg7]; exact Bk.new _ _ _
            have HDK := Lib.hid (HDY.out.below hbk)
            have HBK := Lib.hid (HBJ.out.trans (hbk.mono HBJ.out.size))
            rw [← hg7, ← hwk]
            clear hbk hwk hg7 c0 c1 c2
            have y0 := hk7.e0
            have y1 := hk7.e1
            have y2 := hk7.e2
            clear hk7
            by_cases hx : yx = (u : Int)
            · have f1 : (yx == (u : Int)) = true := by simpa using hx
              have HRE := Lib.hid (show readD t (u :: ws) (kn : Int) = yd from readD_head (by rw [← hasV_on]; exact hasV_first HONB.out HNO.out HGT.out hx))
              have HYL := Lib.hid (show yd.length = 32 from HOND.out _ (List.mem_of_getElem? HGT.out))
              clear hx
              obtain ⟨gl, hgl⟩ : ∃ g, wk.heap.size = g := ⟨_, rfl⟩
              have HLD := Lib.hid (laid_any yA yn yk yd (by have h1 := HDK.out.n; have h2 := HYL.out; simp only at h1; omega) gl wk hgl HDK.out)
              clear hgl
              go_wp2_with fail
              refine HLD.out.mono ?_
              rintro e w5 ⟨rfl, hd5', _, hb5⟩
              have HD5 := Lib.hid hd5'
              have HB6 := Lib.hid ((HB4.out.trans (HBK.out.mono HB4.out.size)).trans (hb5.mono (HB4.out.trans (HBK.out.mono HB4.out.size)).size))
              clear hd5' hb5
              go_wp2_with fail
              go_ret2
              refine ⟨HB6.out, .inl ⟨HE.out, some ⟨gl, 0, none⟩, 32, rfl, ?_⟩⟩
              rw [HRW.out, HRE.out]
              have h := HD5.out
              rw [padV_full HYL.out] at h
              exact h
            · have f1 : (yx == (u : Int)) = false := by simpa using hx
              have HXN := Lib.hid hx
              clear hx
              go_wp2_with fail
              exact ⟨⟨j + 1, rfl, by simp, HJ1.out, Lib.hid (fun y hy => by
                rw [List.take_add_one, HGT.out] at hy
                rcases List.mem_append.1 hy with h | h
                · exact HNO.out y h
                · have e : y = ⟨yb, yx, yd⟩ := by simpa using h
                  rw [e]; exact HXN.out), HBK⟩, by have := HJ1.out; simp [intOf]; omega⟩
          · obtain rfl : j = n3 := by omega
            have hd6 : decide ((j : Int) < (j : Int)) = false := decide_eq_false (by omega)
            have hd7 : decide (j < j) = false := decide_eq_false (by omega)
            have HSK := Lib.hid (show readD t (u :: ws) (kn : Int) = readD t ws (kn : Int) from readD_skip (by rw [← hasV_on]; exact hasV_not (by have h := HNO.out; rw [List.take_of_length_le (by rw [HUS4.out.k]; exact Nat.le_refl _)] at h; exact h)))
            obtain ⟨bD, hD, c0⟩ := HTG.out wr HBJ.out u HUN.out
            subst hD
            have hu1 : (u : Int) < (N : Int) := by have := HUN.out; omega
            have hu2 : u < N := HUN.out
            have H5J := H54.out.below HBJ.out
            have y0 : wr.cell? ⟨g5, 0, none⟩ = some (.slice (some ⟨bD, 0, none⟩) N d) := H5J.c 0 _ rfl
            clear H5J
            have hcl3 : cc < q := by have := HCC.out; omega
            go_wp2_with fail
            exact ⟨⟨cc + 1, (T.tx u).p, ws, rfl, rfl, by simp, HWN, HCC.out, Lib.hid (HRW.out.trans HSK.out), HBJ⟩, by have := HCC.out; simp [intOf]; omega⟩
  · have eb : (E == 0) = false := by simpa using e0
    have eb2 : (E != 0) = true := by simpa using e0
    have HE0 := Lib.hid e0
    clear e0
    go_wp2_with fail
    go_ret2
    exact ⟨HB2.out, .inr ⟨by rw [HE.out]; exact HE0.out, .slice none 0 0, by rw [HE.out]; rfl⟩⟩
end Go.Proofs.Ytmhnjmfcenbogaa
