/-
  VersionUndo: what is undone never was.
-/
import Derived.Test.YtmhnjmfcenbogaaGo
namespace Go.Proofs.Ytmhnjmfcenbogaa
set_option maxRecDepth 100000
set_option linter.unusedVariables false
set_option linter.unusedSimpArgs false
open Go.RowKit Go.Shelf

set_option maxHeartbeats 8000000 in
theorem undo_walk (a : Option Addr) (len cap : Nat) (qa : Nat → Ac) (u v : Int) (z : UInt8) (w : World) (hacts : Acts w a len qa) :
    Calls Try.prog 4 #[.slice a len cap, .int .i64 u, .int .i64 v, byV z] w fun e w' => e = .returned (.bool true) ∧ Below w.heap.size w w' := by
  have HACT := Lib.hid hacts
  clear hacts
  go_enter Try.func4, Try.ntmps4
  go_wp2_with fail
  refine (awake_any _).mono ?_
  rintro e w0 ⟨rfl, hv0⟩
  have HV0 := Lib.hid hv0
  have HAC0 := Lib.hid (show Acts w0 a len qa from by
    rcases HACT.out with h | ⟨b, o, e, hb, hc⟩
    · exact .inl h
    · exact .inr ⟨b, o, e, Nat.lt_of_lt_of_le hb hv0.size, fun i hi => by
        obtain ⟨h1, h2, h3, h4⟩ := hc i hi
        exact ⟨(hv0.cell (p := ⟨b, o + i * 4, none⟩) hb).trans h1, (hv0.cell (p := ⟨b, o + i * 4 + 1, none⟩) hb).trans h2, (hv0.cell (p := ⟨b, o + i * 4 + 2, none⟩) hb).trans h3, (hv0.cell (p := ⟨b, o + i * 4 + 3, none⟩) hb).trans h4⟩⟩)
  clear hv0 HACT
  rcases Nat.lt_or_ge 100 len with hbig | hsm
  · have d1 : decide ((len : Int) > 100) = true := decide_eq_true (by omega)
    have d2 : decide ((100 : Int) < (len : Int)) = true := decide_eq_true (by omega)
    have d3 : decide (100 < len) = true := decide_eq_true hbig
    go_wp2_with fail
    go_ret
    exact ⟨rfl, HV0.out⟩
  have d1 : decide ((len : Int) > 100) = false := decide_eq_false (by omega)
  have d2 : decide ((100 : Int) < (len : Int)) = false := decide_eq_false (by omega)
  have d3 : decide (100 < len) = false := decide_eq_false (by omega)
  have HGR := Lib.hid (grown_any write_any pass_any free_any a len cap qa (by omega) w0 HAC0.out)
  go_wp2_with fail
  refine HGR.out.mono ?_
  rintro e w1 ⟨A, n, k, c, T, A1, n1, a1, B1, m1, b1, t, rfl, hgf, hx, ht, haw, hnk, hv1⟩
  have HGF := Lib.hid hgf
  have HX := Lib.hid hx
  have HT := Lib.hid ht
  have HNK := Lib.hid hnk
  have HV1 := Lib.hid (HV0.out.trans (hv1.mono HV0.out.size))
  clear hgf hx ht haw hnk hv1 HGR HAC0 HV0 d1 d2 d3
  go_upto_region 5 with fail
  obtain ⟨gx, hgx⟩ : ∃ q, q = w1.heap.size := ⟨_, rfl⟩
  obtain ⟨gt, hgt⟩ : ∃ q, q = w1.heap.size + 1 := ⟨_, rfl⟩
  obtain ⟨w2, hw2⟩ : ∃ q, q = (w1.alloc (.cells (txC2 A n k c) 26)).alloc (.cells (vtC A1 n1 a1 B1 m1 b1) 30) := ⟨_, rfl⟩
  have hb2 : Below w1.heap.size w1 w2 := by rw [hw2]; exact below_two (below_new _ _) (below_new _ _)
  have HZ := Lib.hid (show Gz w2 gx gt A n k c T A1 n1 a1 B1 m1 b1 t from ⟨HX.out.below hb2, HT.out.below hb2, by rw [hw2, hgx]; exact (Bk.new _ _ _).al _, by
    have h := Bk.new (w1.alloc (.cells (txC2 A n k c) 26)) (vtC A1 n1 a1 B1 m1 b1) 30
    rw [size_al] at h
    rw [hw2, hgt]; exact h⟩)
  have HV2 := Lib.hid (HV1.out.trans (hb2.mono HV1.out.size))
  rw [← hgt, ← hgx, ← hw2]
  clear hgx hgt hw2 hb2 HX HT HV1
  have x0 := HZ.out.x0
  have x1 := HZ.out.x1
  have hn64 : n ≤ 64 := HGF.out.n64
  rcases Nat.eq_zero_or_pos n with hn0 | hpos
  · subst hn0
    go_wp2_with fail
    go_ret
    exact ⟨rfl, HV2.out⟩
  have hq1 : ((n : Int) == 0) = false := by simp; omega
  have hq2 : ¬ (n : Int) = 0 := by omega
  have hq3 : ¬ n = 0 := by omega
  obtain ⟨ux, p, hux, hpn, hmod, hmod2⟩ := pick_of u n hpos
  have hwp : IntKind.i64.wrap (p : Int) = (p : Int) := by rw [IntKind.wrap_i64]; omega
  have hcb : 0 ≤ c ∧ c ≤ 150 := ⟨by have := HGF.out.good.c0; have := HGF.out.cl; omega, HGF.out.cj⟩
  have HBG := Lib.hid (begin_any A T n k c (p : Int) HGF.out.nl HGF.out.good HGF.out.cl (by omega) w2 HZ.out.x)
  have HPN := Lib.hid hpn
  clear hpos hpn
  go_wp2_with fail
  refine HBG.out.mono ?_
  rintro e w3 ⟨hb3, ⟨hm, A2, k2, nn, hnn, rfl, htx, hnk2⟩ | ⟨E, hE, hno, rfl⟩⟩
  rotate_left
  · have hE2 := hno.2 (by have := HGF.out.nl; have := HPN.out; omega)
    have HV3 := Lib.hid ((HV2.out.trans (hb3.mono HV2.out.size)).trans ((below_new w3 (.cells (txC2 none 0 0 0) 26)).mono (HV2.out.trans (hb3.mono HV2.out.size)).size))
    clear hb3 HBG x0 x1 hno hE
    rcases hE2 with rfl | rfl
    · go_wp2_with fail
      go_ret
      exact ⟨rfl, HV3.out⟩
    · go_wp2_with fail
      go_ret
      exact ⟨rfl, HV3.out⟩
  rw [show nn = n + 1 from by rw [hnn, HGF.out.nl], show (T.begun (p : Int)).c = c + 1 from by show T.c + 1 = _; rw [HGF.out.cl], HGF.out.nl]
  have HGD := Lib.hid (HGF.out.good.begun hm)
  have HLN := Lib.hid (show (T.begun (p : Int)).l.length = n + 1 by rw [len_begun, HGF.out.nl])
  have HLV := Lib.hid (show ((T.begun (p : Int)).tx n).s = 1 by have h := tx_begun_new (T := T) (p := (p : Int)); rw [HGF.out.nl] at h; rw [h])
  have HLP := Lib.hid (show ((T.begun (p : Int)).tx p).s = 1 by
    rw [tx_begun (by rw [HGF.out.nl]; exact HPN.out)]
    rcases hm.live with h | ⟨q, h1, _, h2⟩
    · omega
    · rw [show p = q by omega]; exact h2)
  have HN63 := Lib.hid (show n < 64 by have := hm.n; have := HGF.out.nl; omega)
  have HNK2 := Lib.hid (show n + 1 ≤ k2 by have := HGF.out.nl; omega)
  have HCC := Lib.hid (show (T.begun (p : Int)).c = c + 1 by show T.c + 1 = _; rw [HGF.out.cl])
  have HTX := Lib.hid htx
  have HV3 := Lib.hid (HV2.out.trans (hb3.mono HV2.out.size))
  have HZ3 := Lib.hid (HZ.out.below hb3)
  generalize T.begun (p : Int) = TT at *
  clear hb3 hm hnn htx hnk2 HBG x0 x1 HZ HV2
  go_upto_region 10 with fail
  obtain ⟨gy, hgy⟩ : ∃ g, g = w3.heap.size := ⟨_, rfl⟩
  obtain ⟨w4, hw4⟩ : ∃ q, q = w3.alloc (.cells (txC2 A2 (n + 1) k2 (c + 1)) 26) := ⟨_, rfl⟩
  have hb4 : Below w3.heap.size w3 w4 := by rw [hw4]; exact below_new _ _
  have HY4 := Lib.hid (show Bk w4 gy (txC2 A2 (n + 1) k2 (c + 1)) 26 by rw [hw4, hgy]; exact Bk.new _ _ _)
  have HX4 := Lib.hid (HTX.out.below hb4)
  have HZ4 := Lib.hid (HZ3.out.below hb4)
  have HV4 := Lib.hid (HV3.out.trans (hb4.mono HV3.out.size))
  rw [← hgy, ← hw4]
  clear hgy hw4 hb4 HTX HZ3 HV3
  obtain ⟨kb, hkb4, hkb⟩ := pick_block v
  have HKB := Lib.hid (show kb < 4 from hkb4)
  have y0 : w4.cell? ⟨gy, 0, none⟩ = some (.slice A2 (n + 1) k2) := HY4.out.c 0 _ rfl
  have y1 : w4.cell? ⟨gy, 1, none⟩ = some (.int .i64 (c + 1)) := HY4.out.c 1 _ rfl
  have t0 := HZ4.out.t0
  have t1 := HZ4.out.t1
  have HTB := Lib.hid (show t.B.length = 4 from HGF.out.v.b)
  obtain ⟨tu, htu⟩ : ∃ tu : Vt, tu = ⟨t.B, putV ⟨(kb : Int), (n : Int), padV [z]⟩ t.L⟩ := ⟨_, rfl⟩
  have hun := fun ws => HGF.out.v.undo (kb : Int) (by omega) (padV [z]) rfl HN63.out p HPN.out ws
  have HU1 := Lib.hid (show ∀ ws, readD tu (n :: ws) (kb : Int) = padV [z] from fun ws => by rw [htu]; exact (hun ws).1)
  have HU2 := Lib.hid (show freeV tu.L [(n : Int)] = t.L by rw [htu]; exact (hun []).2.1)
  have HU3 := Lib.hid (show ∀ ws, readD (tu.pass (n : Int) (p : Int)) (p :: ws) (kb : Int) = padV [z] by rw [htu]; exact (hun []).2.2.1)
  have HU4 := Lib.hid (show ofV (tu.pass (n : Int) (p : Int)).L (n : Int) = [] by rw [htu]; exact (hun []).2.2.2.1)
  have HU5 := Lib.hid (show SanV (tu.pass (n : Int) (p : Int)) by rw [htu]; exact (hun []).2.2.2.2)
  have HU6 := Lib.hid (show SanV tu ∧ tu.B = t.B ∧ tu.L.length ≤ 200 from ⟨by rw [htu]; exact HGF.out.v.s.put (v := ⟨(kb : Int), (n : Int), padV [z]⟩) (by rw [HTB.out]; simp only; omega) (by have := HN63.out; simp only; omega) rfl, by rw [htu], by rw [htu]; have h1 := putV_len (v := ⟨(kb : Int), (n : Int), padV [z]⟩) (L := t.L); have h2 := HGF.out.l; simp only; omega⟩)
  have HTU := Lib.hid htu
  clear hun htu
  have HA0 := Lib.hid (show askV t TT (n : Int) (kb : Int) = 0 from askV_ok (by rw [HTB.out]; omega) (by rw [HLN.out]; omega) (by rw [Int.toNat_natCast]; exact HLV.out))
  obtain ⟨w5, hw5⟩ : ∃ q, q = w4.alloc (.cells #[byV z] 5) := ⟨_, rfl⟩
  have hb5 : Below w4.heap.size w4 w5 := by rw [hw5]; exact below_new _ _
  have hd5 : DatAt w5 ⟨some ⟨w4.heap.size, 0, none⟩, 1, 1⟩ [z] := by rw [hw5]; exact DatAt.one w4 z
  have HY5 := Lib.hid (HY4.out.below hb5)
  have HX5 := Lib.hid (HX4.out.below hb5)
  have HZ5 := Lib.hid (HZ4.out.below hb5)
  have HV5 := Lib.hid (HV4.out.trans (hb5.mono HV4.out.size))
  have hwr := write_any A1 B1 n1 a1 m1 b1 t A2 (n + 1) k2 (c + 1) TT (n : Int) (kb : Int) ⟨some ⟨w4.heap.size, 0, none⟩, 1, 1⟩ [z] w5 HZ5.out.t HGF.out.v.s (by have := HGF.out.l; omega) HX5.out HGD.out HCC.out (by omega) HLN.out HNK2.out (by unfold okI; omega) (by unfold okI; omega) hd5 (by simp)
  have HWR := Lib.hid hwr
  rw [hw5] at hwr
  clear hd5 hb5 HY4 HX4 HZ4 HV4
  go_wp2_with fail
  refine hwr.mono ?_
  rw [← hw5]
  clear hwr hw5 y0 y1 t0 t1
  rintro e w6 ⟨hb6, ⟨_, A6, n6, a6, B6, m6, b6, _, rfl, ht6⟩ | ⟨hno, _⟩⟩
  rotate_left
  · exact absurd HA0.out hno
  rw [← HTU.out] at ht6
  have HT6 := Lib.hid ht6
  have HY6 := Lib.hid (HY5.out.below hb6)
  have HX6 := Lib.hid (HX5.out.below hb6)
  have HZ6 := Lib.hid (HZ5.out.below hb6)
  have HV6 := Lib.hid (HV5.out.trans (hb6.mono HV5.out.size))
  clear hb6 ht6 HWR HY5 HX5 HZ5 HV5
  go_upto_region 14 with fail
  obtain ⟨gu, hgu⟩ : ∃ g, g = w6.heap.size := ⟨_, rfl⟩
  obtain ⟨w7, hw7⟩ : ∃ q, q = w6.alloc (.cells (vtC A6 n6 a6 B6 m6 b6) 30) := ⟨_, rfl⟩
  have hb7 : Below w6.heap.size w6 w7 := by rw [hw7]; exact below_new _ _
  have HK7 := Lib.hid (show Bk w7 gu (vtC A6 n6 a6 B6 m6 b6) 30 by rw [hw7, hgu]; exact Bk.new _ _ _)
  have HT7 := Lib.hid (HT6.out.below hb7)
  have HY7 := Lib.hid (HY6.out.below hb7)
  have HX7 := Lib.hid (HX6.out.below hb7)
  have HZ7 := Lib.hid (HZ6.out.below hb7)
  have HV7 := Lib.hid (HV6.out.trans (hb7.mono HV6.out.size))
  rw [← hgu, ← hw7]
  clear hgu hw7 hb7 HT6 HY6 HX6 HZ6 HV6
  have y0 : w7.cell? ⟨gy, 0, none⟩ = some (.slice A2 (n + 1) k2) := HY7.out.c 0 _ rfl
  have y1 : w7.cell? ⟨gy, 1, none⟩ = some (.int .i64 (c + 1)) := HY7.out.c 1 _ rfl
  have u0 := HK7.out.v0
  have u1 := HK7.out.v1
  have HA1 := Lib.hid (show askV tu TT (n : Int) (kb : Int) = 0 from askV_ok (by rw [HU6.out.2.1, HTB.out]; omega) (by rw [HLN.out]; omega) (by rw [Int.toNat_natCast]; exact HLV.out))
  have HRD := Lib.hid (read_any A6 B6 n6 a6 m6 b6 tu A2 (n + 1) k2 (c + 1) TT (n : Int) (kb : Int) w7 HT7.out HU6.out.1 (by have := HU6.out.2.2; omega) HX7.out HGD.out HCC.out (by omega) HLN.out (by unfold okI; omega) (by unfold okI; omega))
  go_wp2_with fail
  refine HRD.out.mono ?_
  rintro e w8 ⟨hb8, ⟨_, YA, yc, rfl, hdy⟩ | ⟨hno, _⟩⟩
  rotate_left
  · exact absurd HA1.out hno
  rw [way_next HGD.out (by rw [HLN.out]; omega), HU1.out] at hdy
  have HDY := Lib.hid hdy
  have HK8 := Lib.hid (HK7.out.below hb8)
  have HT8 := Lib.hid (HT7.out.below hb8)
  have HY8 := Lib.hid (HY7.out.below hb8)
  have HX8 := Lib.hid (HX7.out.below hb8)
  have HZ8 := Lib.hid (HZ7.out.below hb8)
  have HV8 := Lib.hid (HV7.out.trans (hb8.mono HV7.out.size))
  clear hdy hb8 HRD u0 u1 y0 y1 HK7 HT7 HY7 HX7 HZ7 HV7
  have u0 := HK8.out.v0
  have u1 := HK8.out.v1
  obtain ⟨w9, hw9⟩ : ∃ q, q = w8.alloc (.cells #[.int .i64 (n : Int)] 3) := ⟨_, rfl⟩
  have hb9 : Below w8.heap.size w8 w9 := by rw [hw9]; exact below_new _ _
  have hid : IdAt w9 (some ⟨w8.heap.size, 0, none⟩) [n] := .inr ⟨w8.heap.size, rfl, by rw [hw9]; simp, fun j y hy => by
    cases j with
    | zero => simp at hy; subst hy; rw [hw9]; exact (cell_new w8 #[.int .i64 (n : Int)] 3 0).trans rfl
    | succ j => simp at hy⟩
  have HK9 := Lib.hid (HK8.out.below hb9)
  have HT9 := Lib.hid (HT8.out.below hb9)
  have HY9 := Lib.hid (HY8.out.below hb9)
  have HX9 := Lib.hid (HX8.out.below hb9)
  have HZ9 := Lib.hid (HZ8.out.below hb9)
  have HD9 := Lib.hid (HDY.out.below hb9)
  have HV9 := Lib.hid (HV8.out.trans (hb9.mono HV8.out.size))
  have hfr := free_any A6 B6 n6 a6 m6 b6 tu (some ⟨w8.heap.size, 0, none⟩) 1 1 [n] w9 HT9.out HU6.out.1 (by have := HU6.out.2.2; omega) hid rfl (by omega) (fun q hq => by rw [List.mem_singleton.1 hq]; omega)
  rw [hw9] at hfr
  clear hb9 hid HK8 HT8 HY8 HX8 HZ8 HV8 HDY
  go_wp2_with fail
  refine hfr.mono ?_
  rw [← hw9]
  clear hfr hw9 u0 u1
  rintro e wa ⟨hba, A7, n7, a7, B7, m7, b7, _, rfl, ht7⟩
  have ht7 : VtAt RVo wa A7 n7 a7 B7 m7 b7 ⟨tu.B, freeV tu.L [(n : Int)]⟩ := ht7
  rw [HU2.out, HU6.out.2.1] at ht7
  have HTa := Lib.hid (show VtAt RVo wa A7 n7 a7 B7 m7 b7 t from ht7)
  have HKa := Lib.hid (HK9.out.below hba)
  have HTu := Lib.hid (HT9.out.below hba)
  have HYa := Lib.hid (HY9.out.below hba)
  have HXa := Lib.hid (HX9.out.below hba)
  have HZa := Lib.hid (HZ9.out.below hba)
  have HDa := Lib.hid (HD9.out.below hba)
  have HVa := Lib.hid (HV9.out.trans (hba.mono HV9.out.size))
  clear hba ht7 HK9 HT9 HY9 HX9 HZ9 HD9 HV9
  go_upto_region 16 with fail
  obtain ⟨gv, hgv⟩ : ∃ g, g = wa.heap.size := ⟨_, rfl⟩
  obtain ⟨wb, hwb⟩ : ∃ q, q = wa.alloc (.cells (vtC A7 n7 a7 B7 m7 b7) 30) := ⟨_, rfl⟩
  have hbb : Below wa.heap.size wa wb := by rw [hwb]; exact below_new _ _
  have HKv := Lib.hid (show Bk wb gv (vtC A7 n7 a7 B7 m7 b7) 30 by rw [hwb, hgv]; exact Bk.new _ _ _)
  have HTv := Lib.hid (HTa.out.below hbb)
  have HKb := Lib.hid (HKa.out.below hbb)
  have HTb := Lib.hid (HTu.out.below hbb)
  have HYb := Lib.hid (HYa.out.below hbb)
  have HXb := Lib.hid (HXa.out.below hbb)
  have HZb := Lib.hid (HZa.out.below hbb)
  have HDb := Lib.hid (HDa.out.below hbb)
  have HVb := Lib.hid (HVa.out.trans (hbb.mono HVa.out.size))
  rw [← hgv, ← hwb]
  clear hgv hwb hbb HTa HKa HTu HYa HXa HZa HDa HVa
  have u0 := HKb.out.v0
  have u1 := HKb.out.v1
  have HPS := Lib.hid (pass_any A6 B6 n6 a6 m6 b6 tu (n : Int) (p : Int) wb HTb.out HU6.out.1 (by have := HU6.out.2.2; omega) (by unfold okI; omega) (by have := HPN.out; unfold okI; omega) (by have := HPN.out; have := HN63.out; omega))
  go_wp2_with fail
  refine HPS.out.mono ?_
  rintro e wc ⟨hbc, A8, n8, a8, B8, m8, b8, _, rfl, ht8⟩
  have HT8 := Lib.hid ht8
  have HKc := Lib.hid (HKv.out.below hbc)
  have HTc := Lib.hid (HTv.out.below hbc)
  have HYc := Lib.hid (HYb.out.below hbc)
  have HXc := Lib.hid (HXb.out.below hbc)
  have HZc := Lib.hid (HZb.out.below hbc)
  have HDc := Lib.hid (HDb.out.below hbc)
  have HVc := Lib.hid (HVb.out.trans (hbc.mono HVb.out.size))
  clear ht8 hbc HPS u0 u1 HKv HTv HKb HTb HYb HXb HZb HDb HVb
  go_upto_region 17 with fail
  obtain ⟨gw, hgw⟩ : ∃ g, g = wc.heap.size := ⟨_, rfl⟩
  obtain ⟨wd, hwd⟩ : ∃ q, q = wc.alloc (.cells (vtC A8 n8 a8 B8 m8 b8) 30) := ⟨_, rfl⟩
  have hbd : Below wc.heap.size wc wd := by rw [hwd]; exact below_new _ _
  have HKw := Lib.hid (show Bk wd gw (vtC A8 n8 a8 B8 m8 b8) 30 by rw [hwd, hgw]; exact Bk.new _ _ _)
  have HTw := Lib.hid (HT8.out.below hbd)
  have HKd := Lib.hid (HKc.out.below hbd)
  have HTd := Lib.hid (HTc.out.below hbd)
  have HYd := Lib.hid (HYc.out.below hbd)
  have HXd := Lib.hid (HXc.out.below hbd)
  have HZd := Lib.hid (HZc.out.below hbd)
  have HDd := Lib.hid (HDc.out.below hbd)
  have HVd := Lib.hid (HVc.out.trans (hbd.mono HVc.out.size))
  rw [← hgw, ← hwd]
  clear hgw hwd hbd HT8 HKc HTc HYc HXc HZc HDc HVc
  have v0 := HKw.out.v0
  have v1 := HKw.out.v1
  have y0 : wd.cell? ⟨gy, 0, none⟩ = some (.slice A2 (n + 1) k2) := HYd.out.c 0 _ rfl
  have y1 : wd.cell? ⟨gy, 1, none⟩ = some (.int .i64 (c + 1)) := HYd.out.c 1 _ rfl
  have HPL := Lib.hid (show (tu.pass (n : Int) (p : Int)).L.length ≤ 1000 from Nat.le_trans (pass_len tu _ _) (by have := HU6.out.2.2; omega))
  have HA2 := Lib.hid (show askV (tu.pass (n : Int) (p : Int)) TT (p : Int) (kb : Int) = 0 from askV_ok (by rw [(HU6.out.1.pass (n : Int) (par := (p : Int)) (by have := HPN.out; have := HN63.out; omega)).2, HU6.out.2.1, HTB.out]; have := HKB.out; omega) (by rw [HLN.out]; have := HPN.out; omega) (by rw [Int.toNat_natCast]; exact HLP.out))
  have HRD := Lib.hid (read_any A8 B8 n8 a8 m8 b8 (tu.pass (n : Int) (p : Int)) A2 (n + 1) k2 (c + 1) TT (p : Int) (kb : Int) wd HTw.out HU5.out HPL.out HXd.out HGD.out HCC.out (by omega) HLN.out (by have := HPN.out; unfold okI; omega) (by unfold okI; omega))
  go_wp2_with fail
  refine HRD.out.mono ?_
  rintro e we ⟨hbe, ⟨_, ZA, zc, rfl, hdz⟩ | ⟨hno, _⟩⟩
  rotate_left
  · exact absurd HA2.out hno
  rw [way_next HGD.out (by rw [HLN.out]; have := HPN.out; omega), HU3.out] at hdz
  obtain ⟨zz, hzz⟩ : ∃ zz, zz = padV [z] := ⟨_, rfl⟩
  rw [← hzz] at hdz
  have hdy := HDd.out.below hbe
  rw [← hzz] at hdy
  have HVe := Lib.hid (HVd.out.trans (hbe.mono HVd.out.size))
  have HKW := Lib.hid (HKw.out.below hbe)
  have HTW := Lib.hid (HTw.out.below hbe)
  have HKV := Lib.hid (HKd.out.below hbe)
  have HTV := Lib.hid (HTd.out.below hbe)
  have HZE := Lib.hid (HZd.out.below hbe)
  have s1 : ∀ V, Since we V → (convert 36 9 (.slice YA 32 yc)).run Try.prog V = .ok (.string ⟨zz.toArray⟩) V := fun V hV => (hdy.below hV).conv
  have s2 : ∀ V, Since we V → (convert 36 9 (.slice ZA 32 zc)).run Try.prog V = .ok (.string ⟨zz.toArray⟩) V := fun V hV => (hdz.below hV).conv
  have w0' : ∀ V, Since we V → V.cell? ⟨gw, 0, none⟩ = some (.slice A8 n8 a8) := fun V hV => (HKW.out.below hV).v0
  have w1' : ∀ V, Since we V → V.cell? ⟨gw, 1, none⟩ = some (.slice B8 m8 b8) := fun V hV => (HKW.out.below hV).v1
  have v0' : ∀ V, Since we V → V.cell? ⟨gv, 0, none⟩ = some (.slice A7 n7 a7) := fun V hV => (HKV.out.below hV).v0
  have v1' : ∀ V, Since we V → V.cell? ⟨gv, 1, none⟩ = some (.slice B7 m7 b7) := fun V hV => (HKV.out.below hV).v1
  have t0' : ∀ V, Since we V → V.cell? ⟨gt, 0, none⟩ = some (.slice A1 n1 a1) := fun V hV => (HZE.out.below hV).t0
  have t1' : ∀ V, Since we V → V.cell? ⟨gt, 1, none⟩ = some (.slice B1 m1 b1) := fun V hV => (HZE.out.below hV).t1
  have HEQ := Lib.hid (show n7 = n1 ∧ m7 = m1 ∧ n1 = 4 ∧ m1 ≤ 1000 from ⟨by
    have h1 := HZE.out.tn
    obtain ⟨ss, h2⟩ := HTV.out.base
    have h3 := h2.k
    omega, by have h1 := HZE.out.tm; have h2 := HTV.out.vk; omega, by have h1 := HZE.out.tn; have h2 := HTB.out; omega, by have h1 := HZE.out.tm; have h2 := HGF.out.l; omega⟩)
  clear hdy hdz hzz hbe HRD v0 v1 y0 y1 HKw HTw HKd HTd HYd HXd HZd HDd HVd
  go_upto_region 18 with fail
  refine wp_region_since (by kernel_rfl) ?_
  have hS : Since we (World.drew we) := (Below.refl _ _).drew
  refine wpAnyH_take (i := 0) (oi := ⟨some 100, _, _, _, _, _⟩) (v := ?_) rfl (by kernel_rfl) (by kernel_rfl) (by kernel_rfl) (fun _ _ _ h => h) (Or.inl ⟨by rfl, ?_⟩) hS ?_
  rotate_left
  · intro W hW; go_simp; with_reducible rfl
  try simp only [Act.put, List.setIfInBounds_toArray, List.set_cons_zero, List.set_cons_succ]
  refine wpAnyH_take (i := 1) (oi := ⟨some 101, _, _, _, _, _⟩) (v := ?_) rfl (by kernel_rfl) (by kernel_rfl) (by kernel_rfl) (fun _ _ _ h => h) (Or.inl ⟨by rfl, ?_⟩) hS ?_
  rotate_left
  · intro W hW; go_simp; with_reducible rfl
  try simp only [Act.put, List.setIfInBounds_toArray, List.set_cons_zero, List.set_cons_succ]
  refine wpAnyH_take (i := 2) (oi := ⟨some 102, _, _, _, _, _⟩) (v := ?_) rfl (by kernel_rfl) (by kernel_rfl) (by kernel_rfl) (fun _ _ _ h => h) (Or.inl ⟨by rfl, ?_⟩) hS ?_
  rotate_left
  · intro W hW; go_simp; with_reducible rfl
  try simp only [Act.put, List.setIfInBounds_toArray, List.set_cons_zero, List.set_cons_succ]
  refine wpAnyH_take (i := 3) (oi := ⟨some 103, _, _, _, _, _⟩) (v := ?_) rfl (by kernel_rfl) (by kernel_rfl) (by kernel_rfl) (fun _ _ _ h => h) (Or.inl ⟨by rfl, ?_⟩) hS ?_
  rotate_left
  · intro W hW; go_simp; with_reducible rfl
  try simp only [Act.put, List.setIfInBounds_toArray, List.set_cons_zero, List.set_cons_succ]
  refine wpAnyH_take (i := 4) (oi := ⟨some 104, _, _, _, _, _⟩) (v := ?_) rfl (by kernel_rfl) (by kernel_rfl) (by kernel_rfl) (fun _ _ _ h => h) (Or.inl ⟨by rfl, ?_⟩) hS ?_
  rotate_left
  · intro W hW; go_simp; with_reducible rfl
  try simp only [Act.put, List.setIfInBounds_toArray, List.set_cons_zero, List.set_cons_succ]
  refine wpAnyH_take (i := 5) (oi := ⟨some 105, _, _, _, _, _⟩) (v := ?_) rfl (by kernel_rfl) (by kernel_rfl) (by kernel_rfl) (fun _ _ _ h => h) (Or.inl ⟨by rfl, ?_⟩) hS ?_
  rotate_left
  · intro W hW; go_simp; with_reducible rfl
  try simp only [Act.put, List.setIfInBounds_toArray, List.set_cons_zero, List.set_cons_succ]
  refine wpAnyH_take (i := 6) (oi := ⟨some 106, _, _, _, _, _⟩) (v := ?_) rfl (by kernel_rfl) (by kernel_rfl) (by kernel_rfl) (fun _ _ _ h => h) (Or.inl ⟨by rfl, ?_⟩) hS ?_
  rotate_left
  · intro W hW; go_simp; with_reducible rfl
  try simp only [Act.put, List.setIfInBounds_toArray, List.set_cons_zero, List.set_cons_succ]
  refine wpAnyH_take (i := 7) (oi := ⟨some 107, _, _, _, _, _⟩) (v := ?_) rfl (by kernel_rfl) (by kernel_rfl) (by kernel_rfl) (fun _ _ _ h => h) (Or.inl ⟨by rfl, ?_⟩) hS ?_
  rotate_left
  · intro W hW; go_simp; with_reducible rfl
  try simp only [Act.put, List.setIfInBounds_toArray, List.set_cons_zero, List.set_cons_succ]
  refine wpAnyH_take (i := 8) (oi := ⟨some 108, _, _, _, _, _⟩) (v := ?_) rfl (by kernel_rfl) (by kernel_rfl) (by kernel_rfl) (fun _ _ _ h => h) (Or.inl ⟨by rfl, ?_⟩) hS ?_
  rotate_left
  · intro W hW; go_simp; with_reducible rfl
  try simp only [Act.put, List.setIfInBounds_toArray, List.set_cons_zero, List.set_cons_succ]
  refine wpAnyH_take (i := 9) (oi := ⟨some 109, _, _, _, _, _⟩) (v := ?_) rfl (by kernel_rfl) (by kernel_rfl) (by kernel_rfl) (fun _ _ _ h => h) (Or.inl ⟨by rfl, ?_⟩) hS ?_
  rotate_left
  · intro W hW; go_simp; with_reducible rfl
  try simp only [Act.put, List.setIfInBounds_toArray, List.set_cons_zero, List.set_cons_succ]
  refine wpAnyH_take (i := 10) (oi := ⟨some 110, _, _, _, _, _⟩) (v := ?_) rfl (by kernel_rfl) (by kernel_rfl) (by kernel_rfl) (fun _ _ _ h => h) (Or.inl ⟨by rfl, ?_⟩) hS ?_
  rotate_left
  · intro W hW; go_simp; with_reducible rfl
  try simp only [Act.put, List.setIfInBounds_toArray, List.set_cons_zero, List.set_cons_succ]
  refine wpAnyH_take (i := 11) (oi := ⟨some 111, _, _, _, _, _⟩) (v := ?_) rfl (by kernel_rfl) (by kernel_rfl) (by kernel_rfl) (fun _ _ _ h => h) (Or.inl ⟨by rfl, ?_⟩) hS ?_
  rotate_left
  · intro W hW; go_simp; with_reducible rfl
  try simp only [Act.put, List.setIfInBounds_toArray, List.set_cons_zero, List.set_cons_succ]
  refine wpAnyH_take (i := 12) (oi := ⟨some 112, _, _, _, _, _⟩) (v := ?_) rfl (by kernel_rfl) (by kernel_rfl) (by kernel_rfl) (fun _ _ _ h => h) (Or.inl ⟨by rfl, ?_⟩) hS ?_
  rotate_left
  · intro W hW; go_simp; with_reducible rfl
  try simp only [Act.put, List.setIfInBounds_toArray, List.set_cons_zero, List.set_cons_succ]
  refine wpAnyH_take (i := 13) (oi := ⟨some 113, _, _, _, _, _⟩) (v := ?_) rfl (by kernel_rfl) (by kernel_rfl) (by kernel_rfl) (fun _ _ _ h => h) (Or.inl ⟨by rfl, ?_⟩) hS ?_
  rotate_left
  · intro W hW; go_simp; with_reducible rfl
  try simp only [Act.put, List.setIfInBounds_toArray, List.set_cons_zero, List.set_cons_succ]
  refine wpAnyH_take (i := 14) (oi := ⟨some 114, _, _, _, _, _⟩) (v := ?_) rfl (by kernel_rfl) (by kernel_rfl) (by kernel_rfl) (fun _ _ _ h => h) (Or.inl ⟨by rfl, ?_⟩) hS ?_
  rotate_left
  · intro W hW; go_simp; with_reducible rfl
  try simp only [Act.put, List.setIfInBounds_toArray, List.set_cons_zero, List.set_cons_succ]
  refine wpAnyH_take (i := 15) (oi := ⟨some 115, _, _, _, _, _⟩) (v := ?_) rfl (by kernel_rfl) (by kernel_rfl) (by kernel_rfl) (fun _ _ _ h => h) (Or.inl ⟨by rfl, ?_⟩) hS ?_
  rotate_left
  · intro W hW; go_simp; with_reducible rfl
  try simp only [Act.put, List.setIfInBounds_toArray, List.set_cons_zero, List.set_cons_succ]
  refine wpAnyH_take (i := 16) (oi := ⟨some 116, _, _, _, _, _⟩) (v := ?_) rfl (by kernel_rfl) (by kernel_rfl) (by kernel_rfl) (fun _ _ _ h => h) (Or.inl ⟨by rfl, ?_⟩) hS ?_
  rotate_left
  · intro W hW; go_simp; with_reducible rfl
  try simp only [Act.put, List.setIfInBounds_toArray, List.set_cons_zero, List.set_cons_succ]
  refine wpAnyH_take (i := 17) (oi := ⟨some 117, _, _, _, _, _⟩) (v := ?_) rfl (by kernel_rfl) (by kernel_rfl) (by kernel_rfl) (fun _ _ _ h => h) (Or.inl ⟨by rfl, ?_⟩) hS ?_
  rotate_left
  · intro W hW; go_simp; with_reducible rfl
  try simp only [Act.put, List.setIfInBounds_toArray, List.set_cons_zero, List.set_cons_succ]
  refine wpAnyH_take (i := 18) (oi := ⟨some 118, _, _, _, _, _⟩) (v := ?_) rfl (by kernel_rfl) (by kernel_rfl) (by kernel_rfl) (fun _ _ _ h => h) (Or.inl ⟨by rfl, ?_⟩) hS ?_
  rotate_left
  · intro W hW; go_simp; with_reducible rfl
  try simp only [Act.put, List.setIfInBounds_toArray, List.set_cons_zero, List.set_cons_succ]
  refine wpAnyH_take (i := 19) (oi := ⟨some 119, _, _, _, _, _⟩) (v := ?_) rfl (by kernel_rfl) (by kernel_rfl) (by kernel_rfl) (fun _ _ _ h => h) (Or.inl ⟨by rfl, ?_⟩) hS ?_
  rotate_left
  · intro W hW; go_simp; with_reducible rfl
  try simp only [Act.put, List.setIfInBounds_toArray, List.set_cons_zero, List.set_cons_succ]
  refine wpAnyH_ready (rs := [20]) (by kernel_rfl) (by simp) ?_
  refine AllReadyH.cons (o := ⟨some 120, _, _, _, _, _⟩) rfl (fun Kr hKr => ?_) AllReadyH.nil
  -- operation 20: a call
  go_simp
  refine (changed_any A8 B8 n8 a8 m8 b8 (tu.pass (n : Int) (p : Int)) (n : Int) _ (HTW.out.below hS) HU5.out HPL.out).mono ?_
  rintro e V0 ⟨CA, cn, cc, is, rfl, hpi, hio, hvc⟩
  obtain rfl : cn = 0 := by have h1 := own_len rim_ok hio; have h2 := hpi.l; rw [HU4.out] at h2; rw [← h1, h2]; rfl
  clear hpi hio
  show Kr _ _
  refine hKr.out _ _ ?_ (fun _ => ?_)
  · exact since_trans hS hvc
  clear hKr Kr
  replace hS : Since we V0 := since_trans hS hvc
  try simp only [Act.put, List.setIfInBounds_toArray, List.set_cons_zero, List.set_cons_succ]
  refine wpAnyH_take (i := 21) (oi := ⟨some 121, _, _, _, _, _⟩) (v := ?_) rfl (by kernel_rfl) (by kernel_rfl) (by kernel_rfl) (fun _ _ _ h => h) (Or.inl ⟨by rfl, ?_⟩) hS ?_
  rotate_left
  · intro W hW; go_simp; with_reducible rfl
  try simp only [Act.put, List.setIfInBounds_toArray, List.set_cons_zero, List.set_cons_succ]
  refine wpAnyH_take (i := 22) (oi := ⟨some 122, _, _, _, _, _⟩) (v := ?_) rfl (by kernel_rfl) (by kernel_rfl) (by kernel_rfl) (fun _ _ _ h => h) (Or.inl ⟨by rfl, ?_⟩) hS ?_
  rotate_left
  · intro W hW; go_simp; with_reducible rfl
  try simp only [Act.put, List.setIfInBounds_toArray, List.set_cons_zero, List.set_cons_succ]
  refine wpAnyH_take (i := 23) (oi := ⟨some 123, _, _, _, _, _⟩) (v := ?_) rfl (by kernel_rfl) (by kernel_rfl) (by kernel_rfl) (fun _ _ _ h => h) (Or.inl ⟨by rfl, ?_⟩) hS ?_
  rotate_left
  · intro W hW; go_simp; with_reducible rfl
  try simp only [Act.put, List.setIfInBounds_toArray, List.set_cons_zero, List.set_cons_succ]
  refine wpAnyH_take (i := 24) (oi := ⟨some 124, _, _, _, _, _⟩) (v := ?_) rfl (by kernel_rfl) (by kernel_rfl) (by kernel_rfl) (fun _ _ _ h => h) (Or.inl ⟨by rfl, ?_⟩) hS ?_
  rotate_left
  · intro W hW; go_simp; with_reducible rfl
  try simp only [Act.put, List.setIfInBounds_toArray, List.set_cons_zero, List.set_cons_succ]
  refine wpAnyH_take (i := 25) (oi := ⟨some 125, _, _, _, _, _⟩) (v := ?_) rfl (by kernel_rfl) (by kernel_rfl) (by kernel_rfl) (fun _ _ _ h => h) (Or.inl ⟨by rfl, ?_⟩) hS ?_
  rotate_left
  · intro W hW; go_simp; with_reducible rfl
  try simp only [Act.put, List.setIfInBounds_toArray, List.set_cons_zero, List.set_cons_succ]
  refine wpAnyH_take (i := 27) (oi := ⟨some 127, _, _, _, _, _⟩) (v := ?_) rfl (by kernel_rfl) (by kernel_rfl) (by kernel_rfl) (fun _ _ _ h => h) (Or.inl ⟨by rfl, ?_⟩) hS ?_
  rotate_left
  · intro W hW; go_simp; with_reducible rfl
  try simp only [Act.put, List.setIfInBounds_toArray, List.set_cons_zero, List.set_cons_succ]
  refine wpAnyH_ready (rs := [26]) (by kernel_rfl) (by simp) ?_
  refine AllReadyH.cons (o := ⟨some 126, _, _, _, _, _⟩) rfl (fun Kr hKr => ?_) AllReadyH.nil
  -- operation 26: a call
  go_simp
  refine (theirs_any A7 B7 n7 a7 m7 b7 t (by have := HEQ.out; omega) _ (HTV.out.below hS)).mono ?_
  rintro e V1 ⟨Ba, ba, rfl, hta, hva⟩
  have HTA := Lib.hid hta
  clear hta
  show Kr _ _
  refine hKr.out _ _ ?_ (fun _ => ?_)
  · exact since_trans hS hva
  clear hKr Kr
  replace hS : Since we V1 := since_trans hS hva
  try simp only [Act.put, List.setIfInBounds_toArray, List.set_cons_zero, List.set_cons_succ]
  refine wpAnyH_ready (rs := [28]) (by kernel_rfl) (by simp) ?_
  refine AllReadyH.cons (o := ⟨some 128, _, _, _, _, _⟩) rfl (fun Kr hKr => ?_) AllReadyH.nil
  -- operation 28: a call
  go_simp
  refine (theirs_any A1 B1 n1 a1 m1 b1 t (by have := HEQ.out; omega) _ (HZE.out.below hS).t).mono ?_
  rintro e V2 ⟨Bb, bb, rfl, htb, hvb⟩
  have HTB2 := Lib.hid htb
  have HTA2 := Lib.hid (HTA.out.below hvb)
  clear htb
  show Kr _ _
  refine hKr.out _ _ ?_ (fun _ => ?_)
  · exact since_trans hS hvb
  clear hKr Kr
  replace hS : Since we V2 := since_trans hS hvb
  try simp only [Act.put, List.setIfInBounds_toArray, List.set_cons_zero, List.set_cons_succ]
  refine wpAnyH_ready (rs := [29]) (by kernel_rfl) (by simp) ?_
  refine AllReadyH.cons (o := ⟨some 129, _, _, _, _, _⟩) rfl (fun Kr hKr => ?_) AllReadyH.nil
  -- operation 29: a call
  go_simp
  have hta := HTA2.out
  obtain ⟨e7, e8, _, _⟩ := HEQ.out
  subst e7
  subst e8
  refine (same_any A7 Ba A1 Bb n7 a7 m7 ba a1 bb t (by have := HEQ.out; omega) (by have := HEQ.out; omega) _ hta HTB2.out).mono ?_
  rintro e V3 ⟨rfl, hvs⟩
  show Kr _ _
  refine hKr.out _ _ ?_ (fun _ => ?_)
  · exact since_trans hS hvs
  clear hKr Kr
  replace hS : Since we V3 := since_trans hS hvs
  try simp only [Act.put, List.setIfInBounds_toArray, List.set_cons_zero, List.set_cons_succ]
  refine wpAnyH_take (i := 30) (oi := ⟨some 130, _, _, _, _, _⟩) (v := ?_) rfl (by kernel_rfl) (by kernel_rfl) (by kernel_rfl) (fun _ _ _ h => h) (Or.inl ⟨by rfl, ?_⟩) hS ?_
  rotate_left
  · intro W hW; go_simp; with_reducible rfl
  try simp only [Act.put, List.setIfInBounds_toArray, List.set_cons_zero, List.set_cons_succ]
  refine wpAnyH_take (i := 31) (oi := ⟨some 131, _, _, _, _, _⟩) (v := ?_) rfl (by kernel_rfl) (by kernel_rfl) (by kernel_rfl) (fun _ _ _ h => h) (Or.inl ⟨by rfl, ?_⟩) hS ?_
  rotate_left
  · intro W hW; go_simp; with_reducible rfl
  try simp only [Act.put, List.setIfInBounds_toArray, List.set_cons_zero, List.set_cons_succ]
  refine wpAnyH_done (by kernel_rfl) ?_ _
  have HS9 := Lib.hid hS
  clear hS s1 s2 w0' w1' v0' v1' t0' t1'
  have HW9 := Lib.hid (HTW.out.below HS9.out)
  have HB9 := Lib.hid (HVe.out.trans (Below.mono HS9.out HVe.out.size))
  have w0' := (HKW.out.below HS9.out).v0
  have w1' := (HKW.out.below HS9.out).v1
  have HSN := Lib.hid (sane_any A8 B8 n8 a8 m8 b8 (tu.pass (n : Int) (p : Int)) _ HW9.out HU5.out HPL.out)
  go_wp2_with fail
  refine HSN.out.mono ?_
  rintro e wz ⟨rfl, hbz⟩
  have HBZ := Lib.hid (HB9.out.trans (hbz.mono HB9.out.size))
  clear hbz
  go_wp2_with fail
  go_ret
  exact ⟨rfl, HBZ.out⟩
end Go.Proofs.Ytmhnjmfcenbogaa
