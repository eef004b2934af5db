/-
  VersionOwn: what one writes it reads, and those in it; what all others read is as it was.
-/
import Derived.Test.YtmhnjmfcenbogaaGo
namespace Go.Proofs.Ytmhnjmfcenbogaa
set_option maxRecDepth 100000
set_option linter.unusedVariables false
set_option linter.unusedSimpArgs false
open Go.RowKit Go.Shelf

theorem DatAt.two (w : World) (x y : UInt8) : DatAt (w.alloc (.cells #[byV x, byV y] 5)) ⟨some ⟨w.heap.size, 0, none⟩, 2, 2⟩ [x, y] := by
  refine ⟨rfl, Nat.le_refl _, .inr (.inr ⟨_, _, rfl⟩), .inr ⟨w.heap.size, 0, rfl, by simp, fun j u hu => ?_⟩⟩
  rw [Nat.zero_add]
  refine (cell_new w #[byV x, byV y] 5 j).trans ?_
  rw [ry_cells] at hu
  rcases j with _ | _ | j
  · simpa using hu
  · simpa using hu
  · simp at hu
theorem read_ok (A B : Option Addr) (n a m b : Nat) (t : Vt) (D : Option Addr) (N d : Nat) (c : Int) (T : Tr) (x k : Int) (w : World)
    (ht : VtAt RVo w A n a B m b t) (hs : SanV t) (hl : t.L.length ≤ 1000) (hx : TxAt w D T.l) (hg : Good T) (hc : T.c = c) (hc9 : c ≤ 900) (hN : T.l.length = N) (hx2 : okI x) (hk2 : okI k) (h0 : askV t T x k = 0) :
    Calls Try.prog 11 #[vtV A n a B m b, .agg (txC2 D N d c), .int .i64 x, .int .i64 k] w fun e w' => ∃ A c, e = .returned (.tuple #[.slice A 32 c, .int .i64 0]) ∧ DatAt w' ⟨A, 32, c⟩ (readD t (T.way x) k) ∧ Below w.heap.size w w' := by
  refine (read_any A B n a m b t D N d c T x k w ht hs hl hx hg hc hc9 hN hx2 hk2).mono ?_
  rintro e w' ⟨hb, ⟨_, A, c, he, hd⟩ | ⟨hno, _⟩⟩
  · exact ⟨A, c, he, hd, hb⟩
  · exact absurd h0 hno
theorem next_block (kb : Nat) (h : kb < 4) : ∃ kc : Nat, kc < 4 ∧ kc ≠ kb ∧ bits .and .i64 ((kb : Int) + 1) 3 = (kc : Int) := by
  refine ⟨(kb + 1) % 4, Nat.mod_lt _ (by omega), by omega, ?_⟩
  rw [and_mask _ 3 2 (by decide) (by omega)]
  omega
theorem str_ne {a b : List UInt8} (h : a ≠ b) : (⟨a.toArray⟩ : ByteArray) ≠ ⟨b.toArray⟩ := by
  intro e
  injection e with e
  have h2 := congrArg Array.toList e
  exact h (by simpa using h2)

set_option maxHeartbeats 8000000 in
theorem own_walk (a : Option Addr) (len cap : Nat) (qa : Nat → Ac) (u v : Int) (z : UInt8) (w : World) (hacts : Acts w a len qa) :
    Calls Try.prog 3 #[.slice a len cap, .int .i64 u, .int .i64 v, byV z] w fun e w' => e = .returned (.bool true) ∧ Below w.heap.size w w' := by
  have HACT := Lib.hid hacts
  clear hacts
  go_enter Try.func3, Try.ntmps3
  go_wp2_with fail
  refine (awake_any _).mono ?_
  rintro e w0 ⟨rfl, hv0⟩
  have HV0 := Lib.hid hv0
  have HAC0 := Lib.hid (show Acts w0 a len qa from by
    rcases HACT.out with h | ⟨b, o, e, hb, hc⟩
    · exact .inl h
    · exact .inr ⟨b, o, e, Nat.lt_of_lt_of_le hb hv0.size, fun i hi => by
        obtain ⟨h1, h2, h3, h4⟩ := hc i hi
        exact ⟨(hv0.cell (p := ⟨b, o + i * 4, none⟩) hb).trans h1, (hv0.cell (p := ⟨b, o + i * 4 + 1, none⟩) hb).trans h2, (hv0.cell (p := ⟨b, o + i * 4 + 2, none⟩) hb).trans h3, (hv0.cell (p := ⟨b, o + i * 4 + 3, none⟩) hb).trans h4⟩⟩)
  clear hv0 HACT
  rcases Nat.lt_or_ge 100 len with hbig | hsm
  · have d1 : decide ((len : Int) > 100) = true := decide_eq_true (by omega)
    have d2 : decide ((100 : Int) < (len : Int)) = true := decide_eq_true (by omega)
    have d3 : decide (100 < len) = true := decide_eq_true hbig
    go_wp2_with fail
    go_ret
    exact ⟨rfl, HV0.out⟩
  have d1 : decide ((len : Int) > 100) = false := decide_eq_false (by omega)
  have d2 : decide ((100 : Int) < (len : Int)) = false := decide_eq_false (by omega)
  have d3 : decide (100 < len) = false := decide_eq_false (by omega)
  have HGR := Lib.hid (grown_any write_any pass_any free_any a len cap qa (by omega) w0 HAC0.out)
  go_wp2_with fail
  refine HGR.out.mono ?_
  rintro e w1 ⟨A, n, k, c, T, A1, n1, a1, B1, m1, b1, t, rfl, hgf, hx, ht, haw, hnk, hv1⟩
  have HGF := Lib.hid hgf
  have HX := Lib.hid hx
  have HT := Lib.hid ht
  have HNK := Lib.hid hnk
  have HV1 := Lib.hid (HV0.out.trans (hv1.mono HV0.out.size))
  clear hgf hx ht haw hnk hv1 HGR HAC0 HV0 d1 d2 d3
  go_upto_region 5 with fail
  obtain ⟨gx, hgx⟩ : ∃ q, q = w1.heap.size := ⟨_, rfl⟩
  obtain ⟨gt, hgt⟩ : ∃ q, q = w1.heap.size + 1 := ⟨_, rfl⟩
  obtain ⟨w2, hw2⟩ : ∃ q, q = (w1.alloc (.cells (txC2 A n k c) 26)).alloc (.cells (vtC A1 n1 a1 B1 m1 b1) 30) := ⟨_, rfl⟩
  have hb2 : Below w1.heap.size w1 w2 := by rw [hw2]; exact below_two (below_new _ _) (below_new _ _)
  have HZ := Lib.hid (show Gz w2 gx gt A n k c T A1 n1 a1 B1 m1 b1 t from ⟨HX.out.below hb2, HT.out.below hb2, by rw [hw2, hgx]; exact (Bk.new _ _ _).al _, by
    have h := Bk.new (w1.alloc (.cells (txC2 A n k c) 26)) (vtC A1 n1 a1 B1 m1 b1) 30
    rw [size_al] at h
    rw [hw2, hgt]; exact h⟩)
  have HV2 := Lib.hid (HV1.out.trans (hb2.mono HV1.out.size))
  rw [← hgt, ← hgx, ← hw2]
  clear hgx hgt hw2 hb2 HX HT HV1
  have x0 := HZ.out.x0
  have x1 := HZ.out.x1
  have hn64 : n ≤ 64 := HGF.out.n64
  rcases Nat.eq_zero_or_pos n with hn0 | hpos
  · subst hn0
    go_wp2_with fail
    go_ret
    exact ⟨rfl, HV2.out⟩
  have hq1 : ((n : Int) == 0) = false := by simp; omega
  have hq2 : ¬ (n : Int) = 0 := by omega
  have hq3 : ¬ n = 0 := by omega
  obtain ⟨ux, p, hux, hpn, hmod, hmod2⟩ := pick_of u n hpos
  have hwp : IntKind.i64.wrap (p : Int) = (p : Int) := by rw [IntKind.wrap_i64]; omega
  obtain ⟨kb, hkb4, hkb⟩ := pick_block v
  have hcb : 0 ≤ c ∧ c ≤ 150 := ⟨by have := HGF.out.good.c0; have := HGF.out.cl; omega, HGF.out.cj⟩
  have HTS := Lib.hid (show SanV t ∧ t.L.length ≤ 150 ∧ t.B.length = 4 from ⟨HGF.out.v.s, HGF.out.l, HGF.out.v.b⟩)
  have t0 := HZ.out.t0
  have t1 := HZ.out.t1
  obtain ⟨w5, hw5⟩ : ∃ q, q = w2.alloc (.cells #[byV z, byV 1] 5) := ⟨_, rfl⟩
  have hb5 : Below w2.heap.size w2 w5 := by rw [hw5]; exact below_new _ _
  have hd5 : DatAt w5 ⟨some ⟨w2.heap.size, 0, none⟩, 2, 2⟩ [z, 1] := by rw [hw5]; exact DatAt.two w2 z 1
  have HZ5 := Lib.hid (HZ.out.below hb5)
  have HV5 := Lib.hid (HV2.out.trans (hb5.mono HV2.out.size))
  have hwr := write_any A1 B1 n1 a1 m1 b1 t A n k c T (p : Int) (kb : Int) ⟨some ⟨w2.heap.size, 0, none⟩, 2, 2⟩ [z, 1] w5 HZ5.out.t HTS.out.1 (by have := HTS.out.2.1; omega) HZ5.out.x HGF.out.good HGF.out.cl (by omega) HGF.out.nl HNK.out (by unfold okI; omega) (by unfold okI; omega) hd5 (by simp)
  rw [hw5] at hwr
  have HIN := Lib.hid (show ¬ ((kb : Int) < 0 ∨ (t.B.length : Int) ≤ (kb : Int) ∨ (p : Int) < 0 ∨ (T.l.length : Int) ≤ (p : Int)) by have h1 := HTS.out.2.2; have h2 := HGF.out.nl; omega)
  have HTG := Lib.hid (show ∀ V, Below w5.heap.size w5 V → ∀ i, i < n → ∃ b, A = some ⟨b, 0, none⟩ ∧ V.cell? ⟨b, i * 4 + 1, none⟩ = some (.int .i64 (T.tx i).s) from fun V hV i hi => by
    obtain ⟨b, e, hb, _, h2⟩ := tx_get HZ5.out.x (by rw [HGF.out.nl]; exact hi)
    exact ⟨b, e, (hV.cell (p := ⟨b, i * 4 + 1, none⟩) hb).trans h2⟩)
  have HPN := Lib.hid hpn
  have hpi : (p : Int) < (n : Int) := by omega
  clear hpos hd5 hb5 HZ HV2
  by_cases hlv : (T.tx p).s = 1
  rotate_left
  · -- one that is not Live
    have HA7 := Lib.hid (askV_state (t := t) (T := T) HIN.out (by rw [Int.toNat_natCast]; exact hlv))
    go_wp2_with fail
    refine hwr.mono ?_
    rw [← hw5]
    clear hwr hw5 x0 x1 t0 t1
    rintro e w6 ⟨hb6, ⟨h0, _⟩ | ⟨_, rfl⟩⟩
    · exact absurd (HA7.out.symm.trans h0) (by decide)
    rw [HA7.out]
    have HV6 := Lib.hid ((HV5.out.trans (hb6.mono HV5.out.size)).trans ((below_new w6 (.cells (vtC none 0 0 none 0 0) 30)).mono (HV5.out.trans (hb6.mono HV5.out.size)).size))
    have hb7 := below_two hb6 (below_new w6 (.cells (vtC none 0 0 none 0 0) 30))
    obtain ⟨bD, hD, cs⟩ := HTG.out _ hb7 p HPN.out
    subst hD
    have x0 := (HZ5.out.below hb7).x0
    have f1 : ((T.tx p).s != 1) = true := by simpa using hlv
    have f2 : ((T.tx p).s == 1) = false := by simpa using hlv
    generalize (T.tx p).s = ps at *
    clear hb6 hb7 hlv
    go_wp2_with fail
    go_ret
    exact ⟨rfl, HV6.out⟩
  have HA0 := Lib.hid (show askV t T (p : Int) (kb : Int) = 0 from askV_ok (by have h1 := HIN.out; omega) (by have h1 := HIN.out; omega) (by rw [Int.toNat_natCast]; exact hlv))
  obtain ⟨tu, htu⟩ : ∃ tu : Vt, tu = ⟨t.B, putV ⟨(kb : Int), (p : Int), padV [z, 1]⟩ t.L⟩ := ⟨_, rfl⟩
  have HTU := Lib.hid htu
  have HU0 := Lib.hid (show SanV tu ∧ tu.L.length ≤ 1000 ∧ tu.B = t.B from ⟨by rw [htu]; exact HTS.out.1.put (v := ⟨(kb : Int), (p : Int), padV [z, 1]⟩) (by have h1 := HTS.out.2.2; simp only; omega) (by simp only; omega) rfl, by rw [htu]; have h1 := putV_len (v := ⟨(kb : Int), (p : Int), padV [z, 1]⟩) (L := t.L); have h2 := HTS.out.2.1; simp only; omega, by rw [htu]⟩)
  have HU1 := Lib.hid (show ∀ ws, readD tu (p :: ws) (kb : Int) = padV [z, 1] from fun ws => by rw [htu]; exact own_self (v := ⟨(kb : Int), (p : Int), padV [z, 1]⟩) HTS.out.1 rfl)
  have HU2 := Lib.hid (show ∀ ws : List Nat, (∀ q ∈ ws, q ≠ p) → readD tu ws (kb : Int) = readD t ws (kb : Int) from fun ws h => by rw [htu]; exact own_off (v := ⟨(kb : Int), (p : Int), padV [z, 1]⟩) HTS.out.1 (fun q hq e => h q hq (by simp only at e; omega)))
  have HU3 := Lib.hid (show ∀ ws : List Nat, readD tu ws (kb : Int) = readD t ws (kb : Int) ∨ readD tu ws (kb : Int) = padV [z, 1] from fun ws => by rw [htu]; exact own_in (v := ⟨(kb : Int), (p : Int), padV [z, 1]⟩) HTS.out.1 ws)
  have HU4 := Lib.hid (show ∀ (ws : List Nat) (kc : Int), kc ≠ (kb : Int) → readD tu ws kc = readD t ws kc from fun ws kc h => by rw [htu]; exact own_else (v := ⟨(kb : Int), (p : Int), padV [z, 1]⟩) HTS.out.1 ws h)
  go_wp2_with fail
  refine hwr.mono ?_
  rw [← hw5]
  clear hwr hw5 x0 x1 t0 t1
  rintro e w6 ⟨hb6, ⟨_, A6, n6, a6, B6, m6, b6, _, rfl, ht6⟩ | ⟨hno, _⟩⟩
  rotate_left
  · exact absurd HA0.out hno
  rw [← htu] at ht6
  have HT6 := Lib.hid ht6
  have HZ6 := Lib.hid (HZ5.out.below hb6)
  have HTG6 := Lib.hid (show ∀ V, Below w6.heap.size w6 V → ∀ i, i < n → ∃ b, A = some ⟨b, 0, none⟩ ∧ V.cell? ⟨b, i * 4 + 1, none⟩ = some (.int .i64 (T.tx i).s) from fun V hV => HTG.out V (below_two hb6 hV))
  have HV6 := Lib.hid (HV5.out.trans (hb6.mono HV5.out.size))
  clear hb6 ht6 htu HZ5 HV5 HTG
  go_upto_region 10 with fail
  obtain ⟨gu, hgu⟩ : ∃ g, g = w6.heap.size := ⟨_, rfl⟩
  obtain ⟨w7, hw7⟩ : ∃ q, q = w6.alloc (.cells (vtC A6 n6 a6 B6 m6 b6) 30) := ⟨_, rfl⟩
  have hb7 : Below w6.heap.size w6 w7 := by rw [hw7]; exact below_new _ _
  have HK7 := Lib.hid (show Bk w7 gu (vtC A6 n6 a6 B6 m6 b6) 30 by rw [hw7, hgu]; exact Bk.new _ _ _)
  have HT7 := Lib.hid (HT6.out.below hb7)
  have HZ7 := Lib.hid (HZ6.out.below hb7)
  have HTG7 := Lib.hid (show ∀ V, Below w7.heap.size w7 V → ∀ i, i < n → ∃ b, A = some ⟨b, 0, none⟩ ∧ V.cell? ⟨b, i * 4 + 1, none⟩ = some (.int .i64 (T.tx i).s) from fun V hV => HTG6.out V (below_two hb7 hV))
  have HV7 := Lib.hid (HV6.out.trans (hb7.mono HV6.out.size))
  rw [← hgu, ← hw7]
  clear hgu hw7 hb7 HT6 HZ6 HTG6 HV6
  obtain ⟨bD, hD, cs⟩ := HTG7.out w7 (Below.refl _ _) p HPN.out
  subst hD
  rw [hlv] at cs
  have x0 := HZ7.out.x0
  obtain ⟨kc, hkc4, hkcn, hkc⟩ := next_block kb hkb4
  have hwk : IntKind.i64.wrap ((kb : Int) + 1) = (kb : Int) + 1 := by rw [IntKind.wrap_i64]; omega
  have hn150 : n ≤ 64 := hn64
  go_wp2_with fail
  clear cs x0
  go_loopw [16] (fun iv wr => ∃ j : Nat, iv = .int .i64 (j : Int) ∧ j ≤ n ∧ Hid (Below w7.heap.size w7 wr)) (fun iv _ => n - (intOf iv).toNat)
  case atStart => exact ⟨0, rfl, Nat.zero_le _, Lib.hid (Below.refl _ _)⟩
  case round =>
    obtain ⟨j, rfl, hj, HB⟩ := hrel
    have HZr := Lib.hid (HZ7.out.below HB.out)
    have x0 := HZr.out.x0
    have x1 := HZr.out.x1
    have t0 := HZr.out.t0
    have t1 := HZr.out.t1
    rcases Nat.lt_or_ge j n with hlt | hge
    · obtain ⟨_, e9, cs⟩ := HTG7.out wr HB.out j hlt
      injection e9 with e9
      injection e9 with e9 _
      subst e9
      have hd4 : decide ((j : Int) < (n : Int)) = true := decide_eq_true (by omega)
      have hd5 : decide (j < n) = true := decide_eq_true hlt
      have hi1 : (j : Int) < (n : Int) := by omega
      have HJ1 := Lib.hid (show j + 1 ≤ n from hlt)
      by_cases hs : (T.tx j).s = 1
      rotate_left
      · have f1 : ((T.tx j).s != 1) = true := by simpa using hs
        have f2 : ((T.tx j).s == 1) = false := by simpa using hs
        generalize (T.tx j).s = ps at *
        clear hs
        go_wp2_with fail
        exact ⟨⟨j + 1, by simp, HJ1.out, HB⟩, by have := HJ1.out; simp [intOf]; omega⟩
      rw [hs] at cs
      have HAB := Lib.hid (show askV t T (j : Int) (kb : Int) = 0 ∧ askV tu T (j : Int) (kb : Int) = 0 ∧ askV t T (j : Int) (kc : Int) = 0 ∧ askV tu T (j : Int) (kc : Int) = 0 from
        ⟨askV_ok (by rw [HTS.out.2.2]; omega) (by rw [HGF.out.nl]; omega) (by rw [Int.toNat_natCast]; exact hs), askV_ok (by rw [HU0.out.2.2, HTS.out.2.2]; omega) (by rw [HGF.out.nl]; omega) (by rw [Int.toNat_natCast]; exact hs), askV_ok (by rw [HTS.out.2.2]; omega) (by rw [HGF.out.nl]; omega) (by rw [Int.toNat_natCast]; exact hs), askV_ok (by rw [HU0.out.2.2, HTS.out.2.2]; omega) (by rw [HGF.out.nl]; omega) (by rw [Int.toNat_natCast]; exact hs)⟩)
      have HR1 := Lib.hid (read_ok A1 B1 n1 a1 m1 b1 t (some ⟨bD, 0, none⟩) n k c T (j : Int) (kb : Int) wr HZr.out.t HTS.out.1 (by have := HTS.out.2.1; omega) HZr.out.x HGF.out.good HGF.out.cl (by omega) HGF.out.nl (by unfold okI; omega) (by unfold okI; omega) HAB.out.1)
      go_wp2_with fail
      refine HR1.out.mono ?_
      rintro e wa ⟨WA, wc1, rfl, hdw, hba⟩
      have HDW := Lib.hid hdw
      have HBa := Lib.hid (HB.out.trans (hba.mono HB.out.size))
      have HZa := Lib.hid (HZ7.out.below HBa.out)
      clear hdw hba HR1 HZr x0 x1 t0 t1 cs hs
      have x0 := HZa.out.x0
      have x1 := HZa.out.x1
      have u0 := (HK7.out.below HBa.out).v0
      have u1 := (HK7.out.below HBa.out).v1
      have HR2 := Lib.hid (read_ok A6 B6 n6 a6 m6 b6 tu (some ⟨bD, 0, none⟩) n k c T (j : Int) (kb : Int) wa (HT7.out.below HBa.out) HU0.out.1 HU0.out.2.1 HZa.out.x HGF.out.good HGF.out.cl (by omega) HGF.out.nl (by unfold okI; omega) (by unfold okI; omega) HAB.out.2.1)
      go_wp2_with fail
      refine HR2.out.mono ?_
      rintro e wb ⟨IA, ic, rfl, hdi, hbb⟩
      have HBb := Lib.hid (HBa.out.trans (hbb.mono HBa.out.size))
      have HDW2 := Lib.hid (HDW.out.below hbb)
      have HDI := Lib.hid hdi
      clear hdi hbb HR2 HZa HDW x0 x1 u0 u1
      -- the two tests: behind them nothing is returned
      have HWN := Lib.hid (fun V (hV : Below w7.heap.size w7 V) => within_any (some ⟨bD, 0, none⟩) T n k c (j : Int) (p : Int) HGF.out.nl HGF.out.good V (HZ7.out.below hV).x)
      obtain ⟨sb, hsb⟩ : ∃ sb, T.stands (j : Int) (p : Int) = sb := ⟨_, rfl⟩
      rw [hsb] at HWN
      have HSB := Lib.hid hsb
      obtain ⟨di, hdi⟩ : ∃ d, readD tu (T.way (j : Int)) (kb : Int) = d := ⟨_, rfl⟩
      obtain ⟨dw, hdw⟩ : ∃ d, readD t (T.way (j : Int)) (kb : Int) = d := ⟨_, rfl⟩
      rw [hdi] at HDI
      rw [hdw] at HDW2
      have HEI := Lib.hid hdi
      have HEW := Lib.hid hdw
      clear hsb hdi hdw
      have hways : (j = p ∧ di = padV [z, 1] ∧ sb = true) ∨ (j ≠ p ∧ sb = false ∧ di = dw) ∨ (j ≠ p ∧ sb = true ∧ di = dw) ∨ (j ≠ p ∧ sb = true ∧ di ≠ dw ∧ di = padV [z, 1]) := by
        have hway := way_next HGF.out.good (i := j) (by rw [HGF.out.nl]; have := HJ1.out; omega)
        by_cases hjp : j = p
        · refine .inl ⟨hjp, ?_, ?_⟩
          · rw [← HEI.out, hway, hjp]; exact HU1.out _
          · rw [← HSB.out]; unfold Tr.stands; rw [hway, List.any_cons, hjp]; simp
        · cases hb : sb with
          | false =>
            refine .inr (.inl ⟨hjp, rfl, ?_⟩)
            rw [← HEI.out, ← HEW.out]
            refine HU2.out _ (fun q hq e => ?_)
            have h1 := HSB.out
            rw [hb] at h1
            unfold Tr.stands at h1
            rw [List.any_eq_false] at h1
            have h2 := h1 q hq
            simp at h2
            omega
          | true =>
            by_cases hd : di = dw
            · exact .inr (.inr (.inl ⟨hjp, rfl, hd⟩))
            · refine .inr (.inr (.inr ⟨hjp, rfl, hd, ?_⟩))
              rcases HU3.out (T.way (j : Int)) with h | h
              · exact absurd (by rw [← HEI.out, ← HEW.out]; exact h) hd
              · rw [← HEI.out]; exact h
      rcases hways with ⟨hjp, hdi, hsb⟩ | ⟨hjp, hsb, hdd⟩ | ⟨hjp, hsb, hdd⟩ | ⟨hjp, hsb, hdd, hdi⟩
      · have f1 : ((j : Int) == (p : Int)) = true := by simp; omega
        have f2 : ((j : Int) != (p : Int)) = false := by simp; omega
        have f3 : decide (j = p) = true := decide_eq_true hjp
        have HJP := Lib.hid hjp
        clear hjp
        subst hsb
        rw [hdi] at HDI
        obtain ⟨bi, oi, hIA, hbi, hc0⟩ := dat_first (show DatAt wb ⟨IA, 32, ic⟩ (z :: (1 :: List.replicate 30 0)) from HDI.out)
        obtain ⟨bi', oi', hIA', _, hc1⟩ := (show DatAt wb ⟨IA, 32, ic⟩ (z :: (1 :: List.replicate 30 0)) from HDI.out).get (i := 1) (x := 1) rfl
        subst hIA
        injection hIA' with hIA'
        injection hIA' with h1 h2
        subst h1; subst h2
        replace hc1 : wb.cell? ⟨bi, oi + 1, none⟩ = some (.int .u8 1) := hc1
        have HZb := HZ7.out.below HBb.out
        have x0 := HZb.x0
        have x1 := HZb.x1
        have HWW := Lib.hid (HWN.out wb HBb.out)
        clear HZb hbi hdi
        go_wp2_with fail
        refine HWW.out.mono ?_
        rintro e wq ⟨rfl, hbq⟩
        have HBq := Lib.hid (HBb.out.trans (hbq.mono HBb.out.size))
        clear hbq HWW hc0 hc1 x0 x1
        go_upto_region 26 with fail
        have HZq := Lib.hid (HZ7.out.below HBq.out)
        have x0 := HZq.out.x0
        have x1 := HZq.out.x1
        have t0 := HZq.out.t0
        have t1 := HZq.out.t1
        have HR3 := Lib.hid (read_ok A1 B1 n1 a1 m1 b1 t (some ⟨bD, 0, none⟩) n k c T (j : Int) (kc : Int) wq HZq.out.t HTS.out.1 (by have := HTS.out.2.1; omega) HZq.out.x HGF.out.good HGF.out.cl (by omega) HGF.out.nl (by unfold okI; omega) (by unfold okI; omega) HAB.out.2.2.1)
        go_wp2_with fail
        refine HR3.out.mono ?_
        rintro e wr3 ⟨OA, oc, rfl, hdo, hbo⟩
        have HDO := Lib.hid hdo
        have HBo := Lib.hid (HBq.out.trans (hbo.mono HBq.out.size))
        have HZo := Lib.hid (HZ7.out.below HBo.out)
        clear hdo hbo HR3 HZq x0 x1 t0 t1
        have x0 := HZo.out.x0
        have x1 := HZo.out.x1
        have u0 := (HK7.out.below HBo.out).v0
        have u1 := (HK7.out.below HBo.out).v1
        have HR4 := Lib.hid (read_ok A6 B6 n6 a6 m6 b6 tu (some ⟨bD, 0, none⟩) n k c T (j : Int) (kc : Int) wr3 (HT7.out.below HBo.out) HU0.out.1 HU0.out.2.1 HZo.out.x HGF.out.good HGF.out.cl (by omega) HGF.out.nl (by unfold okI; omega) (by unfold okI; omega) HAB.out.2.2.2)
        go_wp2_with fail
        refine HR4.out.mono ?_
        rintro e wr4 ⟨SA, sc, rfl, hds, hbs⟩
        rw [HU4.out _ (kc : Int) (by omega)] at hds
        have s1 := hds.conv
        have s2 := (HDO.out.below hbs).conv
        have HBs := Lib.hid (HBo.out.trans (hbs.mono HBo.out.size))
        clear hds hbs HR4 HZo HDO x0 x1 u0 u1
        generalize readD t (T.way (j : Int)) (kc : Int) = dd at *
        go_wp2_with fail
        exact ⟨⟨j + 1, by simp, HJ1.out, HBs⟩, by have := HJ1.out; simp [intOf]; omega⟩
      · have f1 : ((j : Int) == (p : Int)) = false := by simp; omega
        have f2 : ((j : Int) != (p : Int)) = true := by simp; omega
        have f3 : decide (j = p) = false := decide_eq_false hjp
        subst hsb
        rw [hdd] at HDI
        have HZb := HZ7.out.below HBb.out
        have x0 := HZb.x0
        have x1 := HZb.x1
        have HWW := Lib.hid (HWN.out wb HBb.out)
        clear HZb
        go_wp2_with fail
        refine HWW.out.mono ?_
        rintro e wc ⟨rfl, hbc⟩
        have HBc := Lib.hid (HBb.out.trans (hbc.mono HBb.out.size))
        have s1 := (HDI.out.below hbc).conv
        have s2 := (HDW2.out.below hbc).conv
        have HZc := HZ7.out.below HBc.out
        clear hbc HWW x0 x1
        have x0 := HZc.x0
        have x1 := HZc.x1
        have HWW := Lib.hid (HWN.out wc HBc.out)
        clear HZc
        go_wp2_with fail
        refine HWW.out.mono ?_
        rintro e wq ⟨rfl, hbq⟩
        have HBq := Lib.hid (HBc.out.trans (hbq.mono HBc.out.size))
        clear hbq HWW s1 s2 x0 x1
        go_upto_region 26 with fail
        have HZq := Lib.hid (HZ7.out.below HBq.out)
        have x0 := HZq.out.x0
        have x1 := HZq.out.x1
        have t0 := HZq.out.t0
        have t1 := HZq.out.t1
        have HR3 := Lib.hid (read_ok A1 B1 n1 a1 m1 b1 t (some ⟨bD, 0, none⟩) n k c T (j : Int) (kc : Int) wq HZq.out.t HTS.out.1 (by have := HTS.out.2.1; omega) HZq.out.x HGF.out.good HGF.out.cl (by omega) HGF.out.nl (by unfold okI; omega) (by unfold okI; omega) HAB.out.2.2.1)
        go_wp2_with fail
        refine HR3.out.mono ?_
        rintro e wr3 ⟨OA, oc, rfl, hdo, hbo⟩
        have HDO := Lib.hid hdo
        have HBo := Lib.hid (HBq.out.trans (hbo.mono HBq.out.size))
        have HZo := Lib.hid (HZ7.out.below HBo.out)
        clear hdo hbo HR3 HZq x0 x1 t0 t1
        have x0 := HZo.out.x0
        have x1 := HZo.out.x1
        have u0 := (HK7.out.below HBo.out).v0
        have u1 := (HK7.out.below HBo.out).v1
        have HR4 := Lib.hid (read_ok A6 B6 n6 a6 m6 b6 tu (some ⟨bD, 0, none⟩) n k c T (j : Int) (kc : Int) wr3 (HT7.out.below HBo.out) HU0.out.1 HU0.out.2.1 HZo.out.x HGF.out.good HGF.out.cl (by omega) HGF.out.nl (by unfold okI; omega) (by unfold okI; omega) HAB.out.2.2.2)
        go_wp2_with fail
        refine HR4.out.mono ?_
        rintro e wr4 ⟨SA, sc, rfl, hds, hbs⟩
        rw [HU4.out _ (kc : Int) (by omega)] at hds
        have s1 := hds.conv
        have s2 := (HDO.out.below hbs).conv
        have HBs := Lib.hid (HBo.out.trans (hbs.mono HBo.out.size))
        clear hds hbs HR4 HZo HDO x0 x1 u0 u1
        generalize readD t (T.way (j : Int)) (kc : Int) = dd at *
        go_wp2_with fail
        exact ⟨⟨j + 1, by simp, HJ1.out, HBs⟩, by have := HJ1.out; simp [intOf]; omega⟩
      · have f1 : ((j : Int) == (p : Int)) = false := by simp; omega
        have f2 : ((j : Int) != (p : Int)) = true := by simp; omega
        have f3 : decide (j = p) = false := decide_eq_false hjp
        subst hsb
        rw [hdd] at HDI
        have HZb := HZ7.out.below HBb.out
        have x0 := HZb.x0
        have x1 := HZb.x1
        have HWW := Lib.hid (HWN.out wb HBb.out)
        clear HZb
        go_wp2_with fail
        refine HWW.out.mono ?_
        rintro e wc ⟨rfl, hbc⟩
        have HBc := Lib.hid (HBb.out.trans (hbc.mono HBb.out.size))
        have HDI2 := Lib.hid (HDI.out.below hbc)
        have HDW3 := Lib.hid (HDW2.out.below hbc)
        have HZc := HZ7.out.below HBc.out
        clear hbc HWW x0 x1
        have x0 := HZc.x0
        have x1 := HZc.x1
        have HWW := Lib.hid (HWN.out wc HBc.out)
        clear HZc
        go_wp2_with fail
        refine HWW.out.mono ?_
        rintro e wq ⟨rfl, hbq⟩
        have HBq := Lib.hid (HBc.out.trans (hbq.mono HBc.out.size))
        have s1 := (HDI2.out.below hbq).conv
        have s2 := (HDW3.out.below hbq).conv
        clear hbq HWW x0 x1
        go_upto_region 26 with fail
        clear s1 s2
        have HZq := Lib.hid (HZ7.out.below HBq.out)
        have x0 := HZq.out.x0
        have x1 := HZq.out.x1
        have t0 := HZq.out.t0
        have t1 := HZq.out.t1
        have HR3 := Lib.hid (read_ok A1 B1 n1 a1 m1 b1 t (some ⟨bD, 0, none⟩) n k c T (j : Int) (kc : Int) wq HZq.out.t HTS.out.1 (by have := HTS.out.2.1; omega) HZq.out.x HGF.out.good HGF.out.cl (by omega) HGF.out.nl (by unfold okI; omega) (by unfold okI; omega) HAB.out.2.2.1)
        go_wp2_with fail
        refine HR3.out.mono ?_
        rintro e wr3 ⟨OA, oc, rfl, hdo, hbo⟩
        have HDO := Lib.hid hdo
        have HBo := Lib.hid (HBq.out.trans (hbo.mono HBq.out.size))
        have HZo := Lib.hid (HZ7.out.below HBo.out)
        clear hdo hbo HR3 HZq x0 x1 t0 t1
        have x0 := HZo.out.x0
        have x1 := HZo.out.x1
        have u0 := (HK7.out.below HBo.out).v0
        have u1 := (HK7.out.below HBo.out).v1
        have HR4 := Lib.hid (read_ok A6 B6 n6 a6 m6 b6 tu (some ⟨bD, 0, none⟩) n k c T (j : Int) (kc : Int) wr3 (HT7.out.below HBo.out) HU0.out.1 HU0.out.2.1 HZo.out.x HGF.out.good HGF.out.cl (by omega) HGF.out.nl (by unfold okI; omega) (by unfold okI; omega) HAB.out.2.2.2)
        go_wp2_with fail
        refine HR4.out.mono ?_
        rintro e wr4 ⟨SA, sc, rfl, hds, hbs⟩
        rw [HU4.out _ (kc : Int) (by omega)] at hds
        have s1 := hds.conv
        have s2 := (HDO.out.below hbs).conv
        have HBs := Lib.hid (HBo.out.trans (hbs.mono HBo.out.size))
        clear hds hbs HR4 HZo HDO x0 x1 u0 u1
        generalize readD t (T.way (j : Int)) (kc : Int) = dd at *
        go_wp2_with fail
        exact ⟨⟨j + 1, by simp, HJ1.out, HBs⟩, by have := HJ1.out; simp [intOf]; omega⟩
      · have f1 : ((j : Int) == (p : Int)) = false := by simp; omega
        have f2 : ((j : Int) != (p : Int)) = true := by simp; omega
        have f3 : decide (j = p) = false := decide_eq_false hjp
        subst hsb
        have HZb := HZ7.out.below HBb.out
        have x0 := HZb.x0
        have x1 := HZb.x1
        have HWW := Lib.hid (HWN.out wb HBb.out)
        clear HZb
        go_wp2_with fail
        refine HWW.out.mono ?_
        rintro e wc ⟨rfl, hbc⟩
        have HBc := Lib.hid (HBb.out.trans (hbc.mono HBb.out.size))
        have HDI2 := Lib.hid (HDI.out.below hbc)
        have HDW3 := Lib.hid (HDW2.out.below hbc)
        have HZc := HZ7.out.below HBc.out
        clear hbc HWW x0 x1
        have x0 := HZc.x0
        have x1 := HZc.x1
        have HWW := Lib.hid (HWN.out wc HBc.out)
        clear HZc
        go_wp2_with fail
        refine HWW.out.mono ?_
        rintro e wq ⟨rfl, hbq⟩
        have HBq := Lib.hid (HBc.out.trans (hbq.mono HBc.out.size))
        have hdq := HDI2.out.below hbq
        have s1 := hdq.conv
        have s2 := (HDW3.out.below hbq).conv
        rw [hdi] at hdq
        obtain ⟨bi, oi, hIA, hbi, hc0⟩ := dat_first (show DatAt wq ⟨IA, 32, ic⟩ (z :: (1 :: List.replicate 30 0)) from hdq)
        obtain ⟨bi', oi', hIA', _, hc1⟩ := (show DatAt wq ⟨IA, 32, ic⟩ (z :: (1 :: List.replicate 30 0)) from hdq).get (i := 1) (x := 1) rfl
        subst hIA
        injection hIA' with hIA'
        injection hIA' with h1 h2
        subst h1; subst h2
        replace hc1 : wq.cell? ⟨bi, oi + 1, none⟩ = some (.int .u8 1) := hc1
        have g1 : (di == dw) = false := beq_eq_false_iff_ne.2 hdd
        have g2 : (di != dw) = true := bne_iff_ne.2 hdd
        have g3 : decide (di = dw) = false := decide_eq_false hdd
        clear hbq HWW x0 x1 hdq hbi hdi hdd
        go_upto_region 26 with fail
        clear s1 s2 hc0 hc1 g1 g2 g3
        have HZq := Lib.hid (HZ7.out.below HBq.out)
        have x0 := HZq.out.x0
        have x1 := HZq.out.x1
        have t0 := HZq.out.t0
        have t1 := HZq.out.t1
        have HR3 := Lib.hid (read_ok A1 B1 n1 a1 m1 b1 t (some ⟨bD, 0, none⟩) n k c T (j : Int) (kc : Int) wq HZq.out.t HTS.out.1 (by have := HTS.out.2.1; omega) HZq.out.x HGF.out.good HGF.out.cl (by omega) HGF.out.nl (by unfold okI; omega) (by unfold okI; omega) HAB.out.2.2.1)
        go_wp2_with fail
        refine HR3.out.mono ?_
        rintro e wr3 ⟨OA, oc, rfl, hdo, hbo⟩
        have HDO := Lib.hid hdo
        have HBo := Lib.hid (HBq.out.trans (hbo.mono HBq.out.size))
        have HZo := Lib.hid (HZ7.out.below HBo.out)
        clear hdo hbo HR3 HZq x0 x1 t0 t1
        have x0 := HZo.out.x0
        have x1 := HZo.out.x1
        have u0 := (HK7.out.below HBo.out).v0
        have u1 := (HK7.out.below HBo.out).v1
        have HR4 := Lib.hid (read_ok A6 B6 n6 a6 m6 b6 tu (some ⟨bD, 0, none⟩) n k c T (j : Int) (kc : Int) wr3 (HT7.out.below HBo.out) HU0.out.1 HU0.out.2.1 HZo.out.x HGF.out.good HGF.out.cl (by omega) HGF.out.nl (by unfold okI; omega) (by unfold okI; omega) HAB.out.2.2.2)
        go_wp2_with fail
        refine HR4.out.mono ?_
        rintro e wr4 ⟨SA, sc, rfl, hds, hbs⟩
        rw [HU4.out _ (kc : Int) (by omega)] at hds
        have s1 := hds.conv
        have s2 := (HDO.out.below hbs).conv
        have HBs := Lib.hid (HBo.out.trans (hbs.mono HBo.out.size))
        clear hds hbs HR4 HZo HDO x0 x1 u0 u1
        generalize readD t (T.way (j : Int)) (kc : Int) = dd at *
        go_wp2_with fail
        exact ⟨⟨j + 1, by simp, HJ1.out, HBs⟩, by have := HJ1.out; simp [intOf]; omega⟩
    · obtain rfl : j = n := by omega
      have hd4 : decide ((j : Int) < (j : Int)) = false := decide_eq_false (by omega)
      have hd5 : decide (j < j) = false := decide_eq_false (by omega)
      have HSN := Lib.hid (sane_any A6 B6 n6 a6 m6 b6 tu wr (HT7.out.below HB.out) HU0.out.1 HU0.out.2.1)
      have u0 := (HK7.out.below HB.out).v0
      have u1 := (HK7.out.below HB.out).v1
      go_wp2_with fail
      refine HSN.out.mono ?_
      rintro e wz ⟨rfl, hbz⟩
      have HBZ := Lib.hid (HV7.out.trans ((HB.out.trans (hbz.mono HB.out.size)).mono HV7.out.size))
      clear hbz
      go_wp2_with fail
      go_ret
      exact ⟨rfl, HBZ.out⟩
end Go.Proofs.Ytmhnjmfcenbogaa
