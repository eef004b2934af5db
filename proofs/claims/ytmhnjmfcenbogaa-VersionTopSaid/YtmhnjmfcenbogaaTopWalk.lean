/-
  VersionTop: what a top one changed is, when it is passed to none, what the blocks are.
-/
import Derived.Test.YtmhnjmfcenbogaaGo
namespace Go.Proofs.Ytmhnjmfcenbogaa
set_option maxRecDepth 100000
set_option linter.unusedVariables false
set_option linter.unusedSimpArgs false
open Go.RowKit Go.Shelf

theorem wantV_take {k : Int} {d : List UInt8} {Q : List Vn} {j : Nat} {v : Vn} (h : Q[j]? = some v) : wantV k d (Q.take (j + 1)) = if v.b = k then v.d else wantV k d (Q.take j) := by
  unfold wantV
  rw [List.take_add_one, h, List.foldl_append]; rfl

set_option maxHeartbeats 8000000 in
theorem top_walk (a : Option Addr) (len cap : Nat) (qa : Nat → Ac) (u : Int) (w : World) (hacts : Acts w a len qa) :
    Calls Try.prog 5 #[.slice a len cap, .int .i64 u] w fun e w' => e = .returned (.bool true) ∧ Below w.heap.size w w' := by
  have HACT := Lib.hid hacts
  clear hacts
  go_enter Try.func5, Try.ntmps5
  go_wp2_with fail
  refine (awake_any _).mono ?_
  rintro e w0 ⟨rfl, hv0⟩
  have HV0 := Lib.hid hv0
  have HAC0 := Lib.hid (show Acts w0 a len qa from by
    rcases HACT.out with h | ⟨b, o, e, hb, hc⟩
    · exact .inl h
    · exact .inr ⟨b, o, e, Nat.lt_of_lt_of_le hb hv0.size, fun i hi => by
        obtain ⟨h1, h2, h3, h4⟩ := hc i hi
        exact ⟨(hv0.cell (p := ⟨b, o + i * 4, none⟩) hb).trans h1, (hv0.cell (p := ⟨b, o + i * 4 + 1, none⟩) hb).trans h2, (hv0.cell (p := ⟨b, o + i * 4 + 2, none⟩) hb).trans h3, (hv0.cell (p := ⟨b, o + i * 4 + 3, none⟩) hb).trans h4⟩⟩)
  clear hv0 HACT
  rcases Nat.lt_or_ge 100 len with hbig | hsm
  · have d1 : decide ((len : Int) > 100) = true := decide_eq_true (by omega)
    have d2 : decide ((100 : Int) < (len : Int)) = true := decide_eq_true (by omega)
    have d3 : decide (100 < len) = true := decide_eq_true hbig
    go_wp2_with fail
    go_ret
    exact ⟨rfl, HV0.out⟩
  have d1 : decide ((len : Int) > 100) = false := decide_eq_false (by omega)
  have d2 : decide ((100 : Int) < (len : Int)) = false := decide_eq_false (by omega)
  have d3 : decide (100 < len) = false := decide_eq_false (by omega)
  have HGR := Lib.hid (grown_any write_any pass_any free_any a len cap qa (by omega) w0 HAC0.out)
  go_wp2_with fail
  refine HGR.out.mono ?_
  rintro e w1 ⟨A, n, k, c, T, A1, n1, a1, B1, m1, b1, t, rfl, hgf, hx, ht, haw, hnk, hv1⟩
  have HGF := Lib.hid hgf
  have HX := Lib.hid hx
  have HT := Lib.hid ht
  have HNK := Lib.hid hnk
  have HV1 := Lib.hid (HV0.out.trans (hv1.mono HV0.out.size))
  clear hgf hx ht haw hnk hv1 HGR HAC0 HV0 d1 d2 d3
  go_upto_region 5 with fail
  obtain ⟨gx, hgx⟩ : ∃ q, q = w1.heap.size := ⟨_, rfl⟩
  obtain ⟨gt, hgt⟩ : ∃ q, q = w1.heap.size + 1 := ⟨_, rfl⟩
  obtain ⟨w2, hw2⟩ : ∃ q, q = (w1.alloc (.cells (txC2 A n k c) 26)).alloc (.cells (vtC A1 n1 a1 B1 m1 b1) 30) := ⟨_, rfl⟩
  have hb2 : Below w1.heap.size w1 w2 := by rw [hw2]; exact below_two (below_new _ _) (below_new _ _)
  have HZ := Lib.hid (show Gz w2 gx gt A n k c T A1 n1 a1 B1 m1 b1 t from ⟨HX.out.below hb2, HT.out.below hb2, by rw [hw2, hgx]; exact (Bk.new _ _ _).al _, by
    have h := Bk.new (w1.alloc (.cells (txC2 A n k c) 26)) (vtC A1 n1 a1 B1 m1 b1) 30
    rw [size_al] at h
    rw [hw2, hgt]; exact h⟩)
  have HV2 := Lib.hid (HV1.out.trans (hb2.mono HV1.out.size))
  rw [← hgt, ← hgx, ← hw2]
  clear hgx hgt hw2 hb2 HX HT HV1
  have x0 := HZ.out.x0
  have x1 := HZ.out.x1
  have hn64 : n ≤ 64 := HGF.out.n64
  obtain rfl : 4 = n1 := by have h1 := HZ.out.tn; have h2 := HGF.out.v.b; omega
  have t0 := HZ.out.t0
  have t1 := HZ.out.t1
  rcases Nat.eq_zero_or_pos n with hn0 | hpos
  · subst hn0
    go_wp2_with fail
    go_ret
    exact ⟨rfl, HV2.out⟩
  have hq1 : ((n : Int) == 0) = false := by simp; omega
  have hq2 : ¬ (n : Int) = 0 := by omega
  have hq3 : ¬ n = 0 := by omega
  obtain ⟨ux, p, hux, hpn, hmod, hmod2⟩ := pick_of u n hpos
  have hwp : IntKind.i64.wrap (p : Int) = (p : Int) := by rw [IntKind.wrap_i64]; omega
  have HPN := Lib.hid hpn
  have HTS := Lib.hid (show SanV t ∧ t.L.length ≤ 1000 ∧ t.L.length = m1 from ⟨HGF.out.v.s, by have := HGF.out.l; omega, HZ.out.tm⟩)
  have HCH := Lib.hid (changed_any A1 B1 4 a1 m1 b1 t (p : Int) w2 HZ.out.t HTS.out.1 HTS.out.2.1)
  clear hpos hpn
  go_wp2_with fail
  refine HCH.out.mono ?_
  rintro e w3 ⟨CA, cn, cc, is, rfl, hpi, hio, hb3⟩
  have HPI := Lib.hid hpi
  have HCN := Lib.hid (show is.length = cn ∧ (ofV t.L (p : Int)).length = cn from ⟨own_len rim_ok hio, by rw [← hpi.l]; exact own_len rim_ok hio⟩)
  have HIA := Lib.hid (own_parts rim_ok hio (own_len rim_ok hio)).1
  have HZ3 := Lib.hid (HZ.out.below hb3)
  have HV3 := Lib.hid (HV2.out.trans (hb3.mono HV2.out.size))
  clear hpi hio hb3 HCH HZ HV2 x0 x1 t0 t1
  have t0 := HZ3.out.t0
  have t1 := HZ3.out.t1
  have HPS := Lib.hid (pass_any A1 B1 4 a1 m1 b1 t (p : Int) (-1) w3 HZ3.out.t HTS.out.1 HTS.out.2.1 (by unfold okI; have := HPN.out; omega) (by unfold okI; omega) (by omega))
  go_wp2_with fail
  refine HPS.out.mono ?_
  rintro e w4 ⟨hb4, A8, n8, a8, B8, m8, b8, _, rfl, ht8⟩
  obtain rfl : 4 = n8 := by
    obtain ⟨ss, h2⟩ := ht8.base
    have h3 := h2.k
    rw [(HTS.out.1.pass (p : Int) (par := -1) (by omega)).2, HGF.out.v.b] at h3
    exact h3
  have HM8 := Lib.hid (show m8 = m1 - cn ∧ cn ≤ m1 from by
    have h1 := ht8.vk
    rw [top_len HTS.out.1 (p : Int) (par := -1) (by omega), HTS.out.2.2, HCN.out.2] at h1
    have h2 : (ofV t.L (p : Int)).length ≤ t.L.length := List.length_filter_le ..
    rw [HCN.out.2, HTS.out.2.2] at h2
    exact ⟨h1.symm, h2⟩)
  have HT4 := Lib.hid ht8
  have HPI4 := Lib.hid (HPI.out.below hb4)
  have HIA4 := Lib.hid (HIA.out.below hb4)
  have HZ4 := Lib.hid (HZ3.out.below hb4)
  have HV4 := Lib.hid (HV3.out.trans (hb4.mono HV3.out.size))
  clear ht8 hb4 HPS HPI HIA HZ3 HV3 t0 t1
  go_upto_region 10 with fail
  obtain ⟨gu, hgu⟩ : ∃ g, g = w4.heap.size := ⟨_, rfl⟩
  obtain ⟨w5, hw5⟩ : ∃ q, q = w4.alloc (.cells (vtC A8 4 a8 B8 m8 b8) 30) := ⟨_, rfl⟩
  have hb5 : Below w4.heap.size w4 w5 := by rw [hw5]; exact below_new _ _
  have HK5 := Lib.hid (show Bk w5 gu (vtC A8 4 a8 B8 m8 b8) 30 by rw [hw5, hgu]; exact Bk.new _ _ _)
  have HT5 := Lib.hid (HT4.out.below hb5)
  have HPI5 := Lib.hid (HPI4.out.below hb5)
  have HIA5 := Lib.hid (HIA4.out.below hb5)
  have HZ5 := Lib.hid (HZ4.out.below hb5)
  have HV5 := Lib.hid (HV4.out.trans (hb5.mono HV4.out.size))
  rw [← hgu, ← hw5]
  clear hgu hw5 hb5 HT4 HPI4 HIA4 HZ4 HV4
  have u0 := HK5.out.v0
  have hcn : cn ≤ 1000 := by have h1 := HCN.out.2; have h2 := HM8.out; have h3 := HTS.out.2; omega
  have hm1 : m1 ≤ 1000 := by have := HTS.out.2; omega
  have HWY := Lib.hid (way_next HGF.out.good (i := p) (by rw [HGF.out.nl]; exact HPN.out))
  have HSB := Lib.hid (show ∀ V, Below w5.heap.size w5 V → ∀ j, j < 4 → ∃ b o Ax nx cx, A1 = some ⟨b, o, none⟩ ∧ V.cell? ⟨b, o + j, none⟩ = some (.slice Ax nx cx) ∧ DatAt V ⟨Ax, nx, cx⟩ (t.B.getD j []) from fun V hV j hj => by
    obtain ⟨ss, hss⟩ := HZ5.out.t.base
    obtain ⟨b, o, Ax, nx, cx, e, hb, hc, hd⟩ := bas_cells hss hj
    exact ⟨b, o, Ax, nx, cx, e, (hV.cell (p := ⟨b, o + j, none⟩) hb).trans hc, hd.below hV⟩)
  have HSU := Lib.hid (show ∀ j, j < 4 → ∃ b o Ax nx cx, A8 = some ⟨b, o, none⟩ ∧ b < w5.heap.size ∧ w5.cell? ⟨b, o + j, none⟩ = some (.slice Ax nx cx) ∧ DatAt w5 ⟨Ax, nx, cx⟩ (wantV (j : Int) (t.B.getD j []) (ofV t.L (p : Int))) from fun j hj => by
    obtain ⟨ss, hss⟩ := HT5.out.base
    obtain ⟨b, o, Ax, nx, cx, e, hb, hc, hd⟩ := bas_cells hss hj
    rw [top_want HTS.out.1 (p : Int) (par := -1) (by omega) j] at hd
    exact ⟨b, o, Ax, nx, cx, e, hb, hc, hd⟩)
  go_wp2_with fail
  clear u0
  go_loopw [11] (fun iv wr => ∃ kk : Nat, iv = .int .i64 (kk : Int) ∧ kk ≤ 4 ∧ Hid (Below w5.heap.size w5 wr)) (fun iv _ => 4 - (intOf iv).toNat)
  case atStart => exact ⟨0, rfl, Nat.zero_le _, Lib.hid (Below.refl _ _)⟩
  case round =>
    obtain ⟨kk, rfl, hk4, HB⟩ := hrel
    rcases Nat.lt_or_ge kk 4 with hlt | hge
    · obtain ⟨b2, o2, Ax, nx, cx, hA1, hcx, hdx⟩ := HSB.out wr HB.out kk hlt
      have hd4 : decide ((kk : Int) < 4) = true := decide_eq_true (by omega)
      have hi1 : (kk : Int) < 4 := by omega
      have HDX := Lib.hid hdx
      have HZr := Lib.hid (HZ5.out.below HB.out)
      have HKL := Lib.hid hlt
      have t0 := HZr.out.t0
      subst hA1
      obtain ⟨wo, hwo⟩ : ∃ wo, wo = wr := ⟨_, rfl⟩
      subst hwo
      clear hdx
      go_wp2_with fail
      clear t0 hcx
      go_loopw [12, 13] (fun sv iv wv => ∃ (j : Nat) (WA : Option Addr) (wn wc : Nat), sv = .slice WA wn wc ∧ iv = .int .i64 (j : Int) ∧ j ≤ cn ∧ Hid (DatAt wv ⟨WA, wn, wc⟩ (wantV (kk : Int) (t.B.getD kk []) ((ofV t.L (p : Int)).take j))) ∧ Hid (Below w5.heap.size w5 wv)) (fun _ iv _ => cn - (intOf iv).toNat)
      case atStart => exact ⟨0, Ax, nx, cx, rfl, rfl, Nat.zero_le _, HDX, HB⟩
      case round =>
        obtain ⟨j, WA, wn, wc, rfl, rfl, hj, HDW, HBj⟩ := hrel
        clear HDX HZr
        have HZj := Lib.hid (HZ5.out.below HBj.out)
        rcases Nat.lt_or_ge j cn with hjc | hjc
        · obtain ⟨b3, o3, hCA, hbl, hget, q0, q1⟩ := im_cells HIA5.out HCN.out.1 hjc
          subst hCA
          have hql : j < (ofV t.L (p : Int)).length := by rw [HCN.out.2]; exact hjc
          obtain ⟨k1, k2, _⟩ := HPI5.out.d j _ _ hget (List.getElem?_eq_getElem hql)
          have HTK := Lib.hid (wantV_take (k := (kk : Int)) (d := t.B.getD kk []) (List.getElem?_eq_getElem hql))
          have HRV := Lib.hid (top_reads HTS.out.1 (i := p) (List.getElem_mem hql) (T.way (T.tx p).p))
          generalize is.getD j irD = im at *
          generalize (ofV t.L (p : Int))[j] = vv at *
          obtain ⟨pb, pA, pn, pk⟩ := im
          obtain ⟨vb, vx, vd⟩ := vv
          simp only at q0 q1 k1 k2 HTK HRV
          subst k1
          have HDI := Lib.hid (k2.below HBj.out)
          have c0 := (HBj.out.cell (p := ⟨b3, o3 + j * 2, none⟩) hbl).trans q0
          have c1 := (HBj.out.cell (p := ⟨b3, o3 + j * 2 + 1, none⟩) hbl).trans q1
          have hd6 : decide ((j : Int) < (cn : Int)) = true := decide_eq_true (by omega)
          have hd7 : decide (j < cn) = true := decide_eq_true hjc
          have hj1 : (j : Int) < (cn : Int) := by omega
          have HJ1 := Lib.hid (show j + 1 ≤ cn from hjc)
          clear q0 q1 hbl hget hql k2
          by_cases hvk : pb = (kk : Int)
          · have f1 : (pb == (kk : Int)) = true := by simpa using hvk
            have HTK2 := Lib.hid (show wantV (kk : Int) (t.B.getD kk []) ((ofV t.L (p : Int)).take (j + 1)) = vd by rw [HTK.out, if_pos hvk])
            have HRV2 := Lib.hid (show readD t (T.way (p : Int)) (kk : Int) = vd by rw [HWY.out, ← hvk]; exact HRV.out)
            have t0 := HZj.out.t0
            have t1 := HZj.out.t1
            have x0 := HZj.out.x0
            have x1 := HZj.out.x1
            have HRD := Lib.hid (read_any (some ⟨b2, o2, none⟩) B1 4 a1 m1 b1 t A n k c T (p : Int) (kk : Int) wr HZj.out.t HTS.out.1 HTS.out.2.1 HZj.out.x HGF.out.good HGF.out.cl (by have := HGF.out.cj; omega) HGF.out.nl (by unfold okI; have := HPN.out; omega) (by unfold okI; omega))
            clear hvk
            go_wp2_with fail
            refine HRD.out.mono ?_
            rintro e w6 ⟨hb6, ⟨hok, YA, yc, rfl, hdy⟩ | ⟨hno, yv, rfl⟩⟩
            · rw [HRV2.out] at hdy
              have s1 := hdy.conv
              have s2 := (HDI.out.below hb6).conv
              have HD6 := Lib.hid (HDI.out.below hb6)
              have HB6 := Lib.hid (HBj.out.trans (hb6.mono HBj.out.size))
              clear hdy hb6 HRD t0 t1 x0 x1 c0 c1 hok
              go_wp2_with fail
              exact ⟨⟨j + 1, pA, pn, pk, rfl, by simp, HJ1.out, Lib.hid (by rw [HTK2.out]; exact HD6.out), HB6⟩, by have := HJ1.out; simp [intOf]; omega⟩
            · obtain ⟨E, hE⟩ : ∃ E, askV t T (p : Int) (kk : Int) = E := ⟨_, rfl⟩
              rw [hE] at hno ⊢
              have eb : (E == 0) = false := by simpa using hno
              have HD6 := Lib.hid (HDI.out.below hb6)
              have HB6 := Lib.hid (HBj.out.trans (hb6.mono HBj.out.size))
              clear hb6 HRD t0 t1 x0 x1 c0 c1 hno hE
              go_wp2_with fail
              exact ⟨⟨j + 1, pA, pn, pk, rfl, by simp, HJ1.out, Lib.hid (by rw [HTK2.out]; exact HD6.out), HB6⟩, by have := HJ1.out; simp [intOf]; omega⟩
          · have f1 : (pb == (kk : Int)) = false := by simpa using hvk
            have HTK2 := Lib.hid (show wantV (kk : Int) (t.B.getD kk []) ((ofV t.L (p : Int)).take (j + 1)) = wantV (kk : Int) (t.B.getD kk []) ((ofV t.L (p : Int)).take j) by rw [HTK.out, if_neg hvk])
            clear hvk
            go_wp2_with fail
            exact ⟨⟨j + 1, WA, wn, wc, rfl, by simp, HJ1.out, Lib.hid (by rw [HTK2.out]; exact HDW.out), HBj⟩, by have := HJ1.out; simp [intOf]; omega⟩
        · obtain rfl : j = cn := by omega
          have hd6 : decide ((j : Int) < (j : Int)) = false := decide_eq_false (by omega)
          have hd7 : decide (j < j) = false := decide_eq_false (by omega)
          have hE : (ofV t.L (p : Int)).take j = ofV t.L (p : Int) := List.take_of_length_le (by rw [HCN.out.2]; exact Nat.le_refl _)
          rw [hE] at HDW
          obtain ⟨b4, o4, Au, nu, cu, hA8, hbu, hcu, hdu⟩ := HSU.out kk HKL.out
          subst hA8
          generalize wantV (kk : Int) (t.B.getD kk []) (ofV t.L (p : Int)) = wv at *
          obtain ⟨w6, hw6⟩ : ∃ w6, w6 = wr := ⟨_, rfl⟩
          subst hw6
          have u0 : ∀ V, Since w6 V → V.cell? ⟨gu, 0, none⟩ = some (.slice (some ⟨b4, o4, none⟩) 4 a8) := fun V hV => ((HK5.out.below HBj.out).below hV).v0
          have u1 : ∀ V, Since w6 V → V.cell? ⟨b4, o4 + kk, none⟩ = some (.slice Au nu cu) := fun V hV => ((HBj.out.trans (Below.mono hV HBj.out.size)).cell (p := ⟨b4, o4 + kk, none⟩) hbu).trans hcu
          have s1 : ∀ V, Since w6 V → (convert 36 9 (.slice Au nu cu)).run Try.prog V = .ok (.string ⟨wv.toArray⟩) V := fun V hV => (hdu.below (HBj.out.trans (Below.mono hV HBj.out.size))).conv
          have s2 : ∀ V, Since w6 V → (convert 36 9 (.slice WA wn wc)).run Try.prog V = .ok (.string ⟨wv.toArray⟩) V := fun V hV => (HDW.out.below hV).conv
          have hkl : kk < 4 := HKL.out
          clear hE hbu hcu hdu
          go_upto_region 24 with fail
          refine wp_region_since (by kernel_rfl) ?_
          have hS : Since w6 (World.drew w6) := (Below.refl _ _).drew
          refine wpAnyH_take (i := 0) (oi := ⟨some 103, _, _, _, _, _⟩) (v := ?_) rfl (by kernel_rfl) (by kernel_rfl) (by kernel_rfl) (fun _ _ _ h => h) (Or.inl ⟨by rfl, ?_⟩) hS ?_
          rotate_left
          · intro W hW; go_simp; with_reducible rfl
          try simp only [Act.put, List.setIfInBounds_toArray, List.set_cons_zero, List.set_cons_succ]
          refine wpAnyH_take (i := 1) (oi := ⟨some 104, _, _, _, _, _⟩) (v := ?_) rfl (by kernel_rfl) (by kernel_rfl) (by kernel_rfl) (fun _ _ _ h => h) (Or.inl ⟨by rfl, ?_⟩) hS ?_
          rotate_left
          · intro W hW; go_simp; with_reducible rfl
          try simp only [Act.put, List.setIfInBounds_toArray, List.set_cons_zero, List.set_cons_succ]
          refine wpAnyH_take (i := 2) (oi := ⟨some 105, _, _, _, _, _⟩) (v := ?_) rfl (by kernel_rfl) (by kernel_rfl) (by kernel_rfl) (fun _ _ _ h => h) (Or.inl ⟨by rfl, ?_⟩) hS ?_
          rotate_left
          · intro W hW; go_simp; with_reducible rfl
          try simp only [Act.put, List.setIfInBounds_toArray, List.set_cons_zero, List.set_cons_succ]
          refine wpAnyH_take (i := 3) (oi := ⟨some 106, _, _, _, _, _⟩) (v := ?_) rfl (by kernel_rfl) (by kernel_rfl) (by kernel_rfl) (fun _ _ _ h => h) (Or.inl ⟨by rfl, ?_⟩) hS ?_
          rotate_left
          · intro W hW; go_simp; with_reducible rfl
          try simp only [Act.put, List.setIfInBounds_toArray, List.set_cons_zero, List.set_cons_succ]
          refine wpAnyH_take (i := 4) (oi := ⟨some 107, _, _, _, _, _⟩) (v := ?_) rfl (by kernel_rfl) (by kernel_rfl) (by kernel_rfl) (fun _ _ _ h => h) (Or.inl ⟨by rfl, ?_⟩) hS ?_
          rotate_left
          · intro W hW; go_simp; with_reducible rfl
          try simp only [Act.put, List.setIfInBounds_toArray, List.set_cons_zero, List.set_cons_succ]
          refine wpAnyH_take (i := 5) (oi := ⟨some 108, _, _, _, _, _⟩) (v := ?_) rfl (by kernel_rfl) (by kernel_rfl) (by kernel_rfl) (fun _ _ _ h => h) (Or.inl ⟨by rfl, ?_⟩) hS ?_
          rotate_left
          · intro W hW; go_simp; with_reducible rfl
          try simp only [Act.put, List.setIfInBounds_toArray, List.set_cons_zero, List.set_cons_succ]
          refine wpAnyH_take (i := 6) (oi := ⟨some 109, _, _, _, _, _⟩) (v := ?_) rfl (by kernel_rfl) (by kernel_rfl) (by kernel_rfl) (fun _ _ _ h => h) (Or.inl ⟨by rfl, ?_⟩) hS ?_
          rotate_left
          · intro W hW; go_simp; with_reducible rfl
          try simp only [Act.put, List.setIfInBounds_toArray, List.set_cons_zero, List.set_cons_succ]
          refine wpAnyH_take (i := 7) (oi := ⟨some 110, _, _, _, _, _⟩) (v := ?_) rfl (by kernel_rfl) (by kernel_rfl) (by kernel_rfl) (fun _ _ _ h => h) (Or.inl ⟨by rfl, ?_⟩) hS ?_
          rotate_left
          · intro W hW; go_simp; with_reducible rfl
          try simp only [Act.put, List.setIfInBounds_toArray, List.set_cons_zero, List.set_cons_succ]
          refine wpAnyH_take (i := 8) (oi := ⟨some 111, _, _, _, _, _⟩) (v := ?_) rfl (by kernel_rfl) (by kernel_rfl) (by kernel_rfl) (fun _ _ _ h => h) (Or.inl ⟨by rfl, ?_⟩) hS ?_
          rotate_left
          · intro W hW; go_simp; with_reducible rfl
          try simp only [Act.put, List.setIfInBounds_toArray, List.set_cons_zero, List.set_cons_succ]
          refine wpAnyH_done (by kernel_rfl) ?_ _
          have HB9 := Lib.hid (HBj.out.trans (Below.mono hS HBj.out.size))
          clear hS u0 u1 s1 s2
          go_wp2_with fail
          exact ⟨⟨kk + 1, by simp, hkl, HB9⟩, by simp [intOf]; omega⟩
    · obtain rfl : kk = 4 := by omega
      have hd4 : decide (((4 : Nat) : Int) < 4) = false := by decide
      have hd5 : decide ((4 : Int) < 4) = false := by decide
      have HKr := Lib.hid (HK5.out.below HB.out)
      have u0 := HKr.out.v0
      have u1 := HKr.out.v1
      have HPL := Lib.hid (show SanV (t.pass (p : Int) (-1)) ∧ (t.pass (p : Int) (-1)).L.length ≤ 1000 from ⟨(HTS.out.1.pass (p : Int) (par := -1) (by omega)).1, Nat.le_trans (pass_len t _ _) HTS.out.2.1⟩)
      have HCU := Lib.hid (changed_any A8 B8 4 a8 m8 b8 (t.pass (p : Int) (-1)) (p : Int) wr (HT5.out.below HB.out) HPL.out.1 HPL.out.2)
      go_wp2_with fail
      refine HCU.out.mono ?_
      rintro e w7 ⟨CU, qn, qc, us, rfl, hpu, hou, hb7⟩
      obtain rfl : qn = 0 := by
        have h1 := own_len rim_ok hou
        have h2 := hpu.l
        rw [pass_gone HTS.out.1 (x := (p : Int)) (par := -1) (by omega) (by omega)] at h2
        rw [← h1, h2]; rfl
      have HB7 := Lib.hid (HB.out.trans (hb7.mono HB.out.size))
      have HVE := Lib.hid (HV5.out.trans (HB7.out.mono HV5.out.size))
      clear hpu hou hb7 HCU u0 u1 HKr
      have u0 := (HK5.out.below HB7.out).v0
      have u1 := (HK5.out.below HB7.out).v1
      have t0 := (HZ5.out.below HB7.out).t0
      have t1 := (HZ5.out.below HB7.out).t1
      obtain ⟨hm8, hcm⟩ := HM8.out
      have hws : IntKind.i64.wrap ((m1 : Int) - (cn : Int)) = (m8 : Int) := by rw [IntKind.wrap_i64]; omega
      clear hm8
      go_wp2_with fail
      go_ret
      exact ⟨rfl, HVE.out⟩
end Go.Proofs.Ytmhnjmfcenbogaa
