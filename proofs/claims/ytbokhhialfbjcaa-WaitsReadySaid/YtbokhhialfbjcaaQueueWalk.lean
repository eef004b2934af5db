/-
  WaitsQueue, walked.
-/
import Derived.Test.YtbokhhialfbjcaaAw11
namespace Go.Proofs.Ytbokhhialfbjcaa
set_option maxRecDepth 100000
set_option linter.unusedVariables false
set_option linter.unusedSimpArgs false
open Go.RowKit Go.Shelf Go.Sort

theorem sq_snoc {Q : List Wn} {y : Wn} (h : SQ Q) (hy : MayW y) (ha : addE Q y = 0) : SQ (Q ++ [y]) := by
  unfold addE at ha
  by_cases h1 : hasL Q (y.x : Int) = true
  · rw [if_pos h1] at ha; cases ha
  · rw [if_neg h1] at ha
    by_cases h2 : 64 ≤ Q.length
    · rw [if_pos h2] at ha; cases ha
    · refine ⟨by rw [List.length_append]; simp; omega, fun w hw => ?_, List.pairwise_append.2 ⟨h.one, List.pairwise_singleton _ _, fun a ha b hb => ?_⟩⟩
      · rcases List.mem_append.1 hw with hw | hw
        · exact h.may w hw
        · have : w = y := by simpa using hw
          rw [this]; exact hy
      · have hb : b = y := by simpa using hb
        subst hb
        intro e
        refine h1 ?_
        unfold hasL
        rw [List.any_eq_true]
        exact ⟨a, ha, by simp [e]⟩
theorem sq_filter {Q : List Wn} (h : SQ Q) (P : Wn → Bool) : SQ (Q.filter P) :=
  ⟨Nat.le_trans (List.length_filter_le _ _) h.n, fun w hw => h.may w (List.mem_filter.1 hw).1, h.one.sublist List.filter_sublist⟩
theorem sq_drop {Q : List Wn} (h : SQ Q) (l : List Nat) : SQ (dropL Q l) := sq_filter h _
theorem add_new {Q : List Wn} {y : Wn} (h : ∀ w ∈ Q, w.x ≠ y.x) (hn : Q.length < 64) : addE Q y = 0 := by
  unfold addE
  rw [if_neg, if_neg (by omega)]
  intro e
  unfold hasL at e
  rw [List.any_eq_true] at e
  obtain ⟨a, ha, e⟩ := e
  have := h a ha
  simp at e
  omega
theorem qu_new {j : Nat} : ∀ w ∈ quQ j, w.x ≠ j + 2 := by
  intro w hw
  unfold quQ at hw
  rcases List.mem_cons.1 hw with h | h
  · subst h
    show 1 ≠ j + 2
    omega
  · obtain ⟨i, hi, rfl⟩ := List.mem_map.1 h
    have := List.mem_range.1 hi
    show i + 2 ≠ j + 2
    omega
theorem ask_qu {T : Tr} {k : Nat} (h : Tops T k) (hk : 3 ≤ k) : askE T [] 0 5 1 = 0 := by
  unfold askE
  rw [if_pos (by rw [h.n]; omega), if_pos (show (T.tx (Int.toNat 0)).s = 1 from (h.each 0 (by omega)).2), if_pos (show agL T 0 5 1 [] = [] from rfl)]

set_option maxHeartbeats 4000000 in
theorem queue_walk (n : Int) (w : World) : Calls Try.prog 5 #[.int .i64 n] w fun e w' => e = .returned (.bool true) ∧ Below w.heap.size w w' := by
  obtain ⟨x, hx, hlow⟩ := low n 7 3 (by decide) (by omega)
  have hx8 : x < 8 := hx
  obtain ⟨k, hk⟩ : ∃ k, k = 3 + x := ⟨_, rfl⟩
  have hkc : (3 : Int) + (x : Int) = (k : Int) := by omega
  have hkw : IntKind.i64.wrap (k : Int) = (k : Int) := by rw [IntKind.wrap_i64]; omega
  have hk3 : 3 ≤ k := by omega
  have hk10 : k ≤ 10 := by omega
  clear hk hx hx8
  go_enter Try.func5, Try.ntmps5
  go_wp2_with fail
  refine (awake_any w).mono ?_
  rintro e w1 ⟨rfl, hb1⟩
  have HB1 := Lib.hid hb1
  clear hb1
  obtain ⟨g, hg⟩ : ∃ g, g = w1.heap.size := ⟨_, rfl⟩
  go_wp2_with (first | (refine wpList_store_tree rfl (.tmp 5) (.tmp 23) rfl rfl rfl (TB.new w1 none 0 0 0) ?_; intro w2 hu hg2; have HU2 := Lib.hid hu; have HG2 := Lib.hid hg2; clear hu hg2) | fail)
  rw [← hg]
  rw [← hg] at HU2 HG2
  have t2 : Below w1.heap.size w1 w2 := (below_new w1 _).grown HG2.out (by simp) (fun k e => by injection e with e; omega)
  have HT2 := Lib.hid (show Tp w2 g none 0 0 0 ⟨[], 0⟩ from ⟨HU2.out, .inl ⟨rfl, rfl⟩, rfl, rfl⟩)
  have HB2 := Lib.hid (HB1.out.trans (t2.mono HB1.out.size))
  have HGW := Lib.hid (show w.heap.size ≤ g by rw [hg]; exact HB1.out.size)
  clear t2 hg HG2 HB1 HU2 hlow hkc hkw
  go_loopw [6] (fun iv wr => ∃ (i : Nat) (T : Tr) (A : Option Addr) (kk : Nat), iv = .int .i64 (i : Int) ∧ i ≤ k ∧ Hid (Tops T i) ∧ Hid (Tp wr g A i kk (i : Int) T) ∧ Hid (Below w.heap.size w wr)) (fun iv _ => k - (intOf iv).toNat)
  case atStart => exact ⟨0, ⟨[], 0⟩, none, 0, rfl, Nat.zero_le _, tops_nil, HT2.out, HB2.out⟩
  case round =>
    obtain ⟨i, T, A, kk, rfl, hi, HTO, HT, HB⟩ := hrel
    clear HT2 HB2 w2
    obtain ⟨wo, rfl⟩ : ∃ wo, wo = wr := ⟨_, rfl⟩
    have c0 := HT.out.t.c0
    have c1 := HT.out.t.c1
    rcases Nat.lt_or_ge i k with hlt | hge
    · go_wp2_with fail
      refine (top_any A T i kk wo HTO.out (by omega) HT.out.x).mono ?_
      rintro e w2 ⟨A2, k2, rfl, hx2, hb2⟩
      have HX2 := Lib.hid hx2
      have HU2 := Lib.hid ((HT.out.t.below hb2).below (below_new w2 (.cells #[.slice none 0 0, .int .i64 0] 30)))
      have HB2 := Lib.hid (HB.out.trans (hb2.mono HB.out.size))
      have HGS := Lib.hid (HT.out.t.below hb2).lt
      clear hx2 hb2 c0 c1
      go_wp2_with (first
        | (refine wpList_store_tree rfl (.tmp 7) (.tmp 32) rfl rfl rfl (TB.new w2 none 0 0 0) ?_; intro w3 hu3 hg3; have k0 := hu3.c0; have k1 := hu3.c1; have HG3 := Lib.hid hg3; have HUG := Lib.hid (HU2.out.far hg3 (fun e => by injection e with e; have := HGS.out; omega)); clear hu3 hg3)
        | (refine wpList_store_tree rfl (.tmp 5) (.tmp 37) rfl rfl rfl HUG.out ?_; intro w4 hu4 hg4; have HU4 := Lib.hid hu4; have HG4 := Lib.hid hg4; clear hu4 hg4)
        | fail)
      have t3 : Below w2.heap.size w2 w3 := (below_new w2 _).grown HG3.out (by simp) (fun k e => by injection e with e; omega)
      have HTO2 := Lib.hid (HTO.out.begun (by omega))
      go_roundw
      case rel =>
        refine ⟨i + 1, T.begun (-1), A2, k2, by simp, by omega, HTO2.out, ?_, (HB2.out.trans (t3.mono HB2.out.size)).grown HG4.out (Nat.le_trans HB2.out.size t3.size) (fun k e => by injection e with e; have := HGW.out; omega)⟩
        have e : ((i + 1 : Nat) : Int) = (i : Int) + 1 := by omega
        show Tp _ _ _ _ _ ((i + 1 : Nat) : Int) _
        rw [e]
        exact ⟨HU4.out, (HX2.out.below t3).box HUG.out HG4.out, HTO2.out.n, by rw [HTO2.out.c, e]⟩
      case measure => simp [intOf]; omega
    · obtain rfl : i = k := by omega
      have HASK := Lib.hid (askt_any none [] 0 0 A T i kk (i : Int) 0 5 1 wo rfl (Nat.le_refl _) (.inl rfl) lg_nil HTO.out.n HTO.out.good (by decide) (.inl rfl) (ask_qu HTO.out hk3) 1 rfl (.inl rfl) HT.out.x)
      go_wp2_with fail
      refine HASK.out.mono ?_
      rintro e w5 ⟨B5, m5, rfl, hk5, hs5, hl5, hb5⟩
      have HK5 := Lib.hid hk5
      have HS5 := Lib.hid hs5
      have HL5 := Lib.hid (show LkAt w5 B5 quL from hl5)
      have HT5 := Lib.hid (HT.out.below hb5)
      have HB5 := Lib.hid (HB.out.trans (hb5.mono HB.out.size))
      clear hk5 hs5 hl5 hb5 c0 c1 HASK
      obtain ⟨h, hh⟩ : ∃ h, h = w5.heap.size := ⟨_, rfl⟩
      go_upto_region 12 with (first | (refine wpList_store_table rfl (.tmp 10) (.tmp 42) rfl rfl rfl (KB.new w5 none 0 0) ?_; intro w6 hu hg2; have HU6 := Lib.hid hu; have HG6 := Lib.hid hg2; clear hu hg2) | fail)
      rw [← hh]
      rw [← hh] at HU6 HG6
      have t6 : Below w5.heap.size w5 w6 := (below_new w5 _).grown HG6.out (by simp) (fun k e => by injection e with e; omega)
      have HL6 := Lib.hid (show Lp w6 h B5 1 m5 quL from ⟨HU6.out, HL5.out.below t6, rfl, HK5.out, HS5.out⟩)
      have HT6 := Lib.hid (HT5.out.below t6)
      have HB6 := Lib.hid (HB5.out.trans (t6.mono HB5.out.size))
      have HGH := Lib.hid (show g < h by rw [hh]; exact HT5.out.t.lt)
      clear t6 hh HG6 HL5 HK5 HS5 HB5 HU6 HT5
      go_wp2_with fail
      refine (addq_any none [] 0 0 w6 rfl (Nat.le_refl _) (.inl rfl) sqp0 ⟨1, 5, 2⟩ ⟨by decide, by decide, .inr rfl⟩ rfl (.inl rfl)).mono ?_
      rintro e w9 ⟨C9, n9, rfl, hk9, hs9, hl9, hb9⟩
      have HK9 := Lib.hid hk9
      have HS9 := Lib.hid hs9
      have HQ9 := Lib.hid (show RW.At w9 C9 (quQ 0) from hl9)
      have HT9 := Lib.hid (HT6.out.below hb9)
      have HL9 := Lib.hid (HL6.out.below hb9)
      have HB9 := Lib.hid (HB6.out.trans (hb9.mono HB6.out.size))
      clear hk9 hs9 hl9 hb9 HB6 HT6 HL6
      obtain ⟨q, hq⟩ : ∃ q, q = w9.heap.size := ⟨_, rfl⟩
      go_wp2_with (first | (refine wpList_store_queue rfl (.tmp 12) (.tmp 48) rfl rfl rfl (Bk.new w9 #[.slice none 0 0] _) ?_; intro w10 hu hg2; have HU10 := Lib.hid hu; have HG10 := Lib.hid hg2; clear hu hg2) | fail)
      rw [← hq]
      rw [← hq] at HU10 HG10
      have t10 : Below w9.heap.size w9 w10 := (below_new w9 _).grown HG10.out (by simp) (fun k e => by injection e with e; omega)
      have HQ10 := Lib.hid (show Qp w10 q C9 1 n9 (quQ 0) from ⟨HU10.out, HQ9.out.below t10, rfl, HK9.out, HS9.out⟩)
      have HT10 := Lib.hid (HT9.out.below t10)
      have HL10 := Lib.hid (HL9.out.below t10)
      have HB10 := Lib.hid (HB9.out.trans (t10.mono HB9.out.size))
      have HHQ := Lib.hid (show h < q by rw [hq]; exact HL9.out.t.lt)
      clear t10 hq HG10 HQ9 HK9 HS9 HB9 HU10 HT9 HL9
      go_loopw [14] (fun iv wr => ∃ (z j : Nat) (C : Option Addr) (nn : Nat), iv = .int .i64 (z : Int) ∧ z = j + 2 ∧ z ≤ i ∧ Hid (SQ (quQ j)) ∧ Hid (Qp wr q C (j + 1) nn (quQ j)) ∧ Hid (Tp wr g A i kk (i : Int) T) ∧ Hid (Lp wr h B5 1 m5 quL) ∧ Hid (Below w.heap.size w wr)) (fun iv _ => i - (intOf iv).toNat)
      case atStart => exact ⟨2, 0, C9, n9, rfl, rfl, by omega, sq_snoc sqp0 (y := ⟨1, 5, 2⟩) ⟨by decide, by decide, .inr rfl⟩ rfl, HQ10.out, HT10.out, HL10.out, HB10.out⟩
      case round =>
        obtain ⟨z, j, C, nn, rfl, hzj, hz, HSQ, HQ, HT, HL, HB⟩ := hrel
        clear HQ10 HT10 HL10 HB10 w10
        obtain ⟨wo, rfl⟩ : ∃ wo, wo = wr := ⟨_, rfl⟩
        have HZ := Lib.hid hzj
        have c3 := HQ.out.t.c 0 _ rfl
        rcases Nat.lt_or_ge z i with hlt | hge
        · have hj64 : j + 1 < 64 := by omega
          have HMAY := Lib.hid (show MayW ⟨z, 5, 1⟩ from ⟨by show z < 64; omega, ⟨by show (0 : Int) ≤ 5; omega, by show (5 : Int) < 256; omega⟩, .inl rfl⟩)
          have HADD := Lib.hid (show addE (quQ j) ⟨z, 5, 1⟩ = 0 from add_new (fun u hu => by rw [HZ.out]; exact qu_new u hu) (by rw [quQ_len]; exact hj64))
          have HSN := Lib.hid (sq_snoc HSQ.out HMAY.out HADD.out)
          have HADQ := Lib.hid (addq_any C (quQ j) (j + 1) nn wo HQ.out.hn HQ.out.hk HQ.out.s HSQ.out ⟨z, 5, 1⟩ HMAY.out HADD.out HQ.out.x)
          have HE := Lib.hid (show quQ (j + 1) = quQ j ++ [⟨z, 5, 1⟩] by rw [quQ_succ, HZ.out])
          clear hzj
          go_wp2_with fail
          refine HADQ.out.mono ?_
          rintro e w2 ⟨C2, n2, rfl, hk2, hs2, hx2, hb2⟩
          have HK2 := Lib.hid hk2
          have HS2 := Lib.hid hs2
          have HX2 := Lib.hid hx2
          have HU2 := Lib.hid ((HQ.out.t.below hb2).below (below_new w2 (.cells #[.slice none 0 0] 35)))
          have HT2 := Lib.hid (HT.out.below hb2)
          have HL2 := Lib.hid (HL.out.below hb2)
          have HB2 := Lib.hid (HB.out.trans (hb2.mono HB.out.size))
          have HGS := Lib.hid (HQ.out.t.below hb2).lt
          clear hk2 hs2 hx2 hb2 c3
          go_wp2_with (first
            | (refine wpList_store_queue rfl (.tmp 15) (.tmp 60) rfl rfl rfl (Bk.new w2 #[.slice none 0 0] _) ?_; intro w3 hu3 hg3; have k0 := hu3.c 0 _ rfl; have HG3 := Lib.hid hg3; have HUG := Lib.hid (HU2.out.far hg3 (fun e => by injection e with e; have := HGS.out; omega)); clear hu3 hg3)
            | (refine wpList_store_queue rfl (.tmp 12) (.tmp 64) rfl rfl rfl HUG.out ?_; intro w4 hu4 hg4; have HU4 := Lib.hid hu4; have HG4 := Lib.hid hg4; clear hu4 hg4)
            | fail)
          have t3 : Below w2.heap.size w2 w3 := (below_new w2 _).grown HG3.out (by simp) (fun k e => by injection e with e; omega)
          go_roundw
          case rel =>
            refine ⟨z + 1, j + 1, C2, n2, by simp, by have := HZ.out; omega, by omega, ?_, ?_, (HT2.out.below t3).farQ HUG.out HG4.out (by have := HGH.out; have := HHQ.out; omega), (HL2.out.below t3).farQ HUG.out HG4.out (by have := HHQ.out; omega), (HB2.out.trans (t3.mono HB2.out.size)).grown HG4.out (Nat.le_trans HB2.out.size t3.size) (fun k e => by injection e with e; have := HGW.out; have := HGH.out; have := HHQ.out; omega)⟩
            · show SQ (quQ (j + 1))
              rw [HE.out]; exact HSN.out
            · show Qp _ _ _ _ _ (quQ (j + 1))
              rw [HE.out]
              exact ⟨HU4.out, RW_store (HX2.out.below t3) HUG.out rfl (by simp) HG4.out, by rw [List.length_append, quQ_len]; rfl, HK2.out, HS2.out⟩
          case measure => simp [intOf]; omega
        · obtain rfl : z = i := by omega
          have hzm : (z : Int) - 2 = (j : Int) := by omega
          have hjw : IntKind.i64.wrap (j : Int) = (j : Int) := by rw [IntKind.wrap_i64]; omega
          have HJZ := Lib.hid (show j + 2 ≤ z by omega)
          clear hzj
          obtain ⟨wz, hwz⟩ : ∃ wz, wz = wo.alloc (.cells #[.int .i64 1] 3) := ⟨_, rfl⟩
          have bz : Below wo.heap.size wo wz := by rw [hwz]; exact below_new _ _
          have hid : IdAt wz (some ⟨wo.heap.size, 0, none⟩) [1] := by
            refine .inr ⟨wo.heap.size, rfl, by rw [hwz]; simp, fun y x hx => ?_⟩
            cases y with
            | zero =>
              have : x = 1 := by simpa using hx.symm
              subst this
              rw [hwz, cell_new]; rfl
            | succ y => simp at hx
          have HSD := Lib.hid (sq_drop HSQ.out [1])
          have HDR := Lib.hid (drop_any C (quQ j) (j + 1) nn HQ.out.hn HQ.out.s HSQ.out (some ⟨wo.heap.size, 0, none⟩) [1] 1 1 rfl (by decide) (by simp) wz (HQ.out.x.below bz) hid)
          have HQZ := Lib.hid (HQ.out.below bz)
          have HTZ := Lib.hid (HT.out.below bz)
          have HLZ := Lib.hid (HL.out.below bz)
          have HBZ := Lib.hid (HB.out.trans (bz.mono HB.out.size))
          clear bz hid
          go_wp2_with fail
          rw [← hwz]
          clear hwz
          refine HDR.out.mono ?_
          rintro e w2 ⟨D2, n2, k2, rfl, ho2, hb2⟩
          obtain ⟨D3, k3, e3, hk2, hat2, hsp2⟩ := Rk.Own.form rw_ok ho2
          injection e3 with e3 e4 e5
          subst e3; subst e5
          have HD2 := Lib.hid (show (dropL (quQ j) [1]).length = n2 from e4.symm)
          rw [← e4] at hk2
          have HK2 := Lib.hid hk2
          have HS2 := Lib.hid (show Sp D2 from hsp2.imp id (fun ⟨g, e, _⟩ => ⟨g, 0, e⟩))
          have HX2 := Lib.hid hat2
          have HQ2 := Lib.hid (HQZ.out.below hb2)
          have HT2 := Lib.hid (HTZ.out.below hb2)
          have HL2 := Lib.hid (HLZ.out.below hb2)
          have HB2 := Lib.hid (HBZ.out.trans (hb2.mono HBZ.out.size))
          clear ho2 hk2 hat2 hsp2 hb2 e4 c3 HQ HT HL HB
          obtain ⟨d, hd⟩ : ∃ d, d = w2.heap.size := ⟨_, rfl⟩
          go_upto_region 21 with (first | (refine wpList_store_queue rfl (.tmp 17) (.tmp 67) rfl rfl rfl (Bk.new w2 #[.slice none 0 0] _) ?_; intro w3 hu hg2; have HU3 := Lib.hid hu; have HG3 := Lib.hid hg2; clear hu hg2) | fail)
          rw [← hd]
          rw [← hd] at HU3 HG3
          have t3 : Below w2.heap.size w2 w3 := (below_new w2 _).grown HG3.out (by simp) (fun k e => by injection e with e; omega)
          have HQ3 := Lib.hid (HQ2.out.below t3)
          have HT3 := Lib.hid (HT2.out.below t3)
          have HL3 := Lib.hid (HL2.out.below t3)
          have HB3 := Lib.hid (HB2.out.trans (t3.mono HB2.out.size))
          have HR3 := Lib.hid (show Qp w3 d D2 n2 k2 (dropL (quQ j) [1]) from ⟨HU3.out, HX2.out.below t3, HD2.out, HK2.out, HS2.out⟩)
          clear t3 hd HQ2 HT2 HL2 HB2 HX2 HK2 HS2 HU3 HG3
          have c0 := HT3.out.t.c0
          have c1 := HT3.out.t.c1
          have c2 := HL3.out.t.c0
          have c4 := HR3.out.t.c 0 _ rfl
          have HRD := Lib.hid (ready_any D2 (dropL (quQ j) [1]) n2 k2 B5 quL 1 m5 A T z kk (z : Int) HSD.out HR3.out.hn lg_quL rfl HL3.out.hk HTO.out.good HTO.out.n w3 HR3.out.x HL3.out.x HT3.out.x)
          rw [ready_readers] at HRD
          go_wp2_with fail
          refine HRD.out.mono ?_
          rintro e w4 ⟨v4, rfl, ho4, hb4⟩
          obtain ⟨E4, f4, rfl, _, _, _⟩ := Rk.Own.form rw_ok ho4
          have hlen : (dropL (quQ j) [1]).length = j := by rw [drop_queue]; simp
          rw [hlen]
          have HQ4 := Lib.hid (HQ3.out.below hb4)
          have HT4 := Lib.hid (HT3.out.below hb4)
          have HL4 := Lib.hid (HL3.out.below hb4)
          have HB4 := Lib.hid (HB3.out.trans (hb4.mono HB3.out.size))
          clear ho4 hb4 hlen c0 c1 c2 c4 HQ3 HT3 HL3 HB3 HR3 HRD
          have c0 := HT4.out.t.c0
          have c1 := HT4.out.t.c1
          have c2 := HL4.out.t.c0
          have c3 := HQ4.out.t.c 0 _ rfl
          have HRQ := Lib.hid (ready_any C (quQ j) (j + 1) nn B5 quL 1 m5 A T z kk (z : Int) HSQ.out HQ4.out.hn lg_quL rfl HL4.out.hk HTO.out.good HTO.out.n w4 HQ4.out.x HL4.out.x HT4.out.x)
          rw [ready_queue HTO.out hk3 HJZ.out] at HRQ
          go_wp2_with fail
          refine HRQ.out.mono ?_
          rintro e w5 ⟨v5, rfl, ho5, hb5⟩
          obtain ⟨E5, f5, rfl, _, _, _⟩ := Rk.Own.form rw_ok ho5
          have HQ5 := Lib.hid (HQ4.out.below hb5)
          have HT5 := Lib.hid (HT4.out.below hb5)
          have HL5 := Lib.hid (HL4.out.below hb5)
          have HB5 := Lib.hid (HB4.out.trans (hb5.mono HB4.out.size))
          clear ho5 hb5 c0 c1 c2 c3 HQ4 HT4 HL4 HB4 HRQ
          have c0 := HT5.out.t.c0
          have c1 := HT5.out.t.c1
          have c2 := HL5.out.t.c0
          have c3 := HQ5.out.t.c 0 _ rfl
          have HSK := Lib.hid (stuck_any C (quQ j) (j + 1) nn B5 quL 1 m5 A T z kk (z : Int) HSQ.out HQ5.out.hn lg_quL rfl HL5.out.hk HTO.out.good HTO.out.n w5 HQ5.out.x HL5.out.x HT5.out.x)
          rw [stuck_queue HTO.out hk3 HJZ.out] at HSK
          go_wp2_with fail
          refine HSK.out.mono ?_
          rintro e w6 ⟨E6, f6, rfl, _, _, _, hb6⟩
          have HB6 := Lib.hid (HB5.out.trans (hb6.mono HB5.out.size))
          clear hb6 c0 c1 c2 c3
          go_wp2_with fail
          go_ret
          exact ⟨rfl, HB6.out⟩
end Go.Proofs.Ytbokhhialfbjcaa
