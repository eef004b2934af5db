/-
  Transactions and their locks, grown by things that are done.
-/
import Derived.Test.YtohnfjneghbceaaState
namespace Go.Proofs.Ytohnfjneghbceaa
set_option maxRecDepth 100000
set_option linter.unusedVariables false
set_option linter.unusedSimpArgs false
open Go.RowKit Go.Shelf

set_option maxHeartbeats 8000000 in
theorem grown_any (a : Option Addr) (len cap : Nat) (F G P R : Nat → Int) (hlen : len ≤ 150) (w : World) (hacts : Acts w a len F G P R) :
    Calls Try.prog 26 #[.slice a len cap] w fun e w' => ∃ A k n c T B m kb L, e = .returned (.tuple #[.agg #[.slice A n k, .int .i64 c], .agg #[.slice B m kb]]) ∧ T.l.length = n ∧ T.c = c ∧ c ≤ 150 ∧ Apt T L ∧ TxAt w' A T.l ∧ L.length = m ∧ m ≤ kb ∧ Sp B ∧ LkAt w' B L ∧ Below w.heap.size w w' := by
  obtain ⟨wa, hwa⟩ : ∃ wa, wa = w.alloc (.cells #[.slice none 0 0, .int .i64 0] 26) := ⟨_, rfl⟩
  obtain ⟨wb, hwb⟩ : ∃ wb, wb = wa.alloc (.cells #[.slice none 0 0] 49) := ⟨_, rfl⟩
  obtain ⟨wc, hwc⟩ : ∃ wc, wc = wb.alloc (.cells #[.slice none 0 0, .int .i64 0] 26) := ⟨_, rfl⟩
  obtain ⟨w1, hw1⟩ : ∃ w1, w1 = wc.alloc (.cells #[.slice none 0 0] 49) := ⟨_, rfl⟩
  have sa : wa.heap.size = w.heap.size + 1 := by rw [hwa]; simp
  have sb : wb.heap.size = w.heap.size + 1 + 1 := by rw [hwb, World.size_alloc, sa]
  have sc : wc.heap.size = w.heap.size + 1 + 1 + 1 := by rw [hwc, World.size_alloc, sb]
  have b1 : Below w.heap.size w w1 := by rw [hw1, hwc, hwb, hwa]; exact below_two (below_two (below_two (below_new _ _) (below_new _ _)) (below_new _ _)) (below_new _ _)
  have r0 : TB w1 w.heap.size none 0 0 0 := by rw [hw1, hwc, hwb, hwa]; exact (((TB.new w none 0 0 0).below (below_new _ _)).below (below_new _ _)).below (below_new _ _)
  have r1 : KB w1 (w.heap.size + 1) none 0 0 := by
    have h := KB.new wa none 0 0
    rw [sa] at h
    rw [hw1, hwc, hwb]; exact (h.below (below_new _ _)).below (below_new _ _)
  have t1 : TB w1 (w.heap.size + 1 + 1) none 0 0 0 := by
    have h := TB.new wb none 0 0 0
    rw [sb] at h
    rw [hw1, hwc]; exact h.below (below_new _ _)
  have k1 : KB w1 (w.heap.size + 1 + 1 + 1) none 0 0 := by
    have h := KB.new wc none 0 0
    rw [sc] at h
    rw [hw1]; exact h
  obtain ⟨g2, hg2⟩ : ∃ g2, g2 = w.heap.size + 1 + 1 := ⟨_, rfl⟩
  obtain ⟨g3, hg3⟩ : ∃ g3, g3 = w.heap.size + 1 + 1 + 1 := ⟨_, rfl⟩
  rw [← hg2] at t1
  rw [← hg3] at k1
  have HB1 := Lib.hid b1
  have HR0 := Lib.hid r0
  have HR1 := Lib.hid r1
  have HTP := Lib.hid (show Tp w1 g2 none 0 0 0 ⟨[], 0⟩ from ⟨t1, .inl ⟨rfl, rfl⟩, rfl, rfl⟩)
  have HLP := Lib.hid (show Lp w1 g3 none 0 0 [] from ⟨k1, .inl rfl, rfl, Nat.le_refl _, .inl rfl⟩)
  have HACT := Lib.hid hacts
  have HG2 := Lib.hid hg2
  have HG3 := Lib.hid hg3
  clear b1 r0 r1 t1 k1 hacts
  go_enter Try.func26, Try.ntmps26
  go_upto_region 3 with fail
  rw [← hwa, ← hwb, ← hwc, ← hw1]
  rw [← hg3, ← hg2]
  clear hw1 hwc hwb hwa sa sb sc wa wb wc hg2 hg3
  go_wp2_with fail
  go_loopw [6] (fun iv wr => ∃ (j : Nat) (T : Tr) (L : List Lk) (A : Option Addr) (k n : Nat) (c : Int) (B : Option Addr) (m kb : Nat), iv = .int .i64 (j : Int) ∧ j ≤ len ∧ n ≤ 64 ∧ (0 ≤ c ∧ c ≤ j) ∧ Hid (Apt T L) ∧ Hid (Tp wr g2 A n k c T) ∧ Hid (Lp wr g3 B m kb L) ∧ Hid (TB wr w.heap.size none 0 0 0) ∧ Hid (KB wr (w.heap.size + 1) none 0 0) ∧ Hid (Below w.heap.size w wr)) (fun iv _ => len - (intOf iv).toNat)
  case atStart => exact ⟨0, ⟨[], 0⟩, [], none, 0, 0, 0, none, 0, 0, rfl, Nat.zero_le _, by omega, ⟨Int.le_refl _, Int.le_refl _⟩, apt_nil, HTP.out, HLP.out, HR0.out, HR1.out, HB1.out⟩
  case round =>
    obtain ⟨j, T, L, A, k, n, c, B, m, kb, rfl, hj, hn, hcb, HAP, HT, HL, H0, H1, HB⟩ := hrel
    clear HTP HLP HR0 HR1 HB1
    have c0 := HT.out.t.c0
    rcases Nat.lt_or_ge j len with hlt | hge
    · obtain ⟨ab, ao, hae, hab, hcell⟩ : ∃ b o, a = some ⟨b, o, none⟩ ∧ b < w.heap.size ∧ ∀ i, i < len → w.cell? ⟨b, o + i * 4, none⟩ = some (.int .i64 (F i)) ∧ w.cell? ⟨b, o + i * 4 + 1, none⟩ = some (.int .i64 (G i)) ∧ w.cell? ⟨b, o + i * 4 + 2, none⟩ = some (.int .i64 (P i)) ∧ w.cell? ⟨b, o + i * 4 + 3, none⟩ = some (.int .i64 (R i)) := by
        rcases HACT.out with h | h
        · omega
        · exact h
      subst hae
      obtain ⟨f0, f1, f2, f3⟩ := hcell j hlt
      have a0 := (HB.out.cell (p := ⟨ab, ao + j * 4, none⟩) hab).trans f0
      have a1 := (HB.out.cell (p := ⟨ab, ao + j * 4 + 1, none⟩) hab).trans f1
      have a2 := (HB.out.cell (p := ⟨ab, ao + j * 4 + 2, none⟩) hab).trans f2
      have a3 := (HB.out.cell (p := ⟨ab, ao + j * 4 + 3, none⟩) hab).trans f3
      obtain ⟨q, hq⟩ : ∃ q, q = F j := ⟨_, rfl⟩
      obtain ⟨u, hu⟩ : ∃ u, u = G j := ⟨_, rfl⟩
      obtain ⟨v, hv⟩ : ∃ v, v = P j := ⟨_, rfl⟩
      obtain ⟨r, hr⟩ : ∃ r, r = R j := ⟨_, rfl⟩
      rw [← hq] at a0
      rw [← hu] at a1
      rw [← hv] at a2
      rw [← hr] at a3
      clear f0 f1 f2 f3 hcell hq hu hv hr hab
      obtain ⟨wz, hwz⟩ : ∃ wz, wz = wr := ⟨_, rfl⟩
      subst hwz
      go_upto_if 31 with fail
      go_cut [8] from 21 to 126 (fun iv wc => ∃ z : Int, iv = .int .i64 z ∧ (-1 ≤ z ∧ z < n) ∧ wc = wz)
      case first =>
        have hnc : n = 0 ∨ 0 < n := by omega
        rcases hnc with rfl | hpos
        · go_wp2_with fail
          go_meet
          case rel => exact ⟨-1, rfl, by omega, rfl⟩
        · obtain ⟨x, hx, hlow⟩ := low u 65535 16 (by decide) (by omega)
          have hx2 : x < 65536 := hx
          obtain ⟨y, hy⟩ : ∃ y : Nat, y = x % (n + 1) := ⟨_, rfl⟩
          have hyn : y < n + 1 := by rw [hy]; exact Nat.mod_lt _ (by omega)
          have hmod : (x : Int) % ((n : Int) + 1) = (y : Int) := by rw [hy]; simp
          have hmod2 : Int.tmod (x : Int) ((n : Int) + 1) = (y : Int) := by rw [Int.tmod_eq_emod_of_nonneg (by omega)]; exact hmod
          have hw1 : IntKind.i64.wrap ((n : Int) + 1) = (n : Int) + 1 := by simp [IntKind.wrap, IntKind.bits, IntKind.signed]; omega
          have hw2 : IntKind.i64.wrap ((y : Int) - 1) = (y : Int) - 1 := by simp [IntKind.wrap, IntKind.bits, IntKind.signed]; omega
          have hw3 : IntKind.i64.wrap (y : Int) = (y : Int) := by simp [IntKind.wrap, IntKind.bits, IntKind.signed]; omega
          have hnz : ((n : Int) + 1 == 0) = false := by simp; omega
          have hnz2 : ¬ (n : Int) + 1 = 0 := by omega
          have hposi : (0 : Int) < (n : Int) := by omega
          clear hx hy hx2
          go_wp2_with fail
          go_meet
          case rel => exact ⟨(y : Int) - 1, rfl, by omega, rfl⟩
      case rest =>
        obtain ⟨z, rfl, hz, hw⟩ := hcut
        replace hw := hw.symm
        subst hw
        have HGA := Lib.hid HAP.out.good
        have c0 := HT.out.t.c0
        have c1 := HT.out.t.c1
        have HZ := Lib.hid hz
        by_cases q0 : q = 0
        · have q0b : (q == 0) = true := by simpa using q0
          clear q0
          go_wp2_with fail
          refine (begin_any A T n k c z HT.out.hn HGA.out HT.out.hc (by omega) wz HT.out.x).mono ?_
          rintro e w2 ⟨hb2, ⟨hm, A2, k2, nn, hnn, rfl, htx⟩ | ⟨E, hE, _, rfl⟩⟩
          · have HX2 := Lib.hid htx
            have HT2 := Lib.hid (HT.out.below hb2)
            have HL2 := Lib.hid (HL.out.below hb2)
            have H02 := Lib.hid (H0.out.below hb2)
            have H12 := Lib.hid (H1.out.below hb2)
            have HB2 := Lib.hid (HB.out.trans (hb2.mono HB.out.size))
            have m0 := (hb2.cell (block_lt_of_cell a0)).trans a0
            have m1 := (hb2.cell (block_lt_of_cell a1)).trans a1
            clear c0 c1 a0 a1 a2 a3
            have HAP2 := Lib.hid (HAP.out.begun hm)
            obtain ⟨c2, hc2⟩ : ∃ c2, c2 = (T.begun z).c := ⟨_, rfl⟩
            obtain ⟨n2, hn2⟩ : ∃ n2, n2 = (T.begun z).l.length := ⟨_, rfl⟩
            have HCC := Lib.hid (show c2 = c + 1 by rw [hc2, ← HT.out.hc]; rfl)
            rw [show nn = n2 from by rw [hnn, hn2, len_begun]]
            rw [← hc2]
            have HC2 := Lib.hid hc2
            have HN2 := Lib.hid hn2
            clear hb2 htx hc2 hn2
            go_wp2_with (first | (refine wpList_store_tree rfl (.tmp 9) (.tmp 77) rfl rfl rfl (TB.new w2 none 0 0 0) ?_; intro w5 hb5 hg5; have k0 := hb5.c0; have k1 := hb5.c1; have HU5 := Lib.hid hb5; have HG5 := Lib.hid hg5; have hu5 := ((HT2.out.t.below (below_new w2 (.cells #[.slice none 0 0, .int .i64 0] 26))).far hg5 (fun e => by injection e with e; have := HT2.out.t.lt; omega)); have HUX := Lib.hid hu5; have j0 := hu5.c0; have j1 := hu5.c1; have hk5 := ((HL2.out.t.below (below_new w2 (.cells #[.slice none 0 0, .int .i64 0] 26))).far hg5 (fun e => by injection e with e; have := HL2.out.t.lt; omega)); have HKX := Lib.hid hk5; have j2 := hk5.c0; clear hb5 hg5 hu5 hk5) | (refine wpList_store_tree rfl (.tmp 4) (.tmp 82) rfl rfl rfl HUX.out ?_; intro w6 hb6 hg6; have HU6 := Lib.hid hb6; have HG6 := Lib.hid hg6; clear hb6 hg6) | fail)
            have t5 : Below w2.heap.size w2 w5 := (below_new w2 _).grown HG5.out (by simp) (fun k e => by injection e with e; omega)
            have HT6 := Lib.hid (show Tp w6 g2 A2 n2 k2 c2 (T.begun z) from ⟨HU6.out, (HX2.out.below t5).box HUX.out HG6.out, HN2.out.symm, HC2.out.symm⟩)
            have HL6 := Lib.hid ((HL2.out.below t5).farT HUX.out HG6.out (by have h1 := HG2.out; have h2 := HG3.out; omega))
            have H06 := Lib.hid ((H02.out.below t5).far HG6.out (fun e => by injection e with e; have h1 := HG2.out; omega))
            have H16 := Lib.hid ((H12.out.below t5).far HG6.out (fun e => by injection e with e; have h1 := HG2.out; omega))
            have HB6 := Lib.hid ((HB2.out.trans (t5.mono HB2.out.size)).grown HG6.out (Nat.le_trans HB2.out.size t5.size) (fun k e => by injection e with e; have h1 := HG2.out; omega))
            clear t5
            go_roundw
            case rel => exact ⟨j + 1, T.begun z, L, A2, k2, n2, c2, B, m, kb, by simp, by omega, by rw [HN2.out]; exact HAP2.out.good.n, ⟨by have := HCC.out; omega, by have := HCC.out; omega⟩, HAP2.out, HT6.out, HL6.out, H06.out, H16.out, HB6.out⟩
            case measure => simp [intOf]; omega
          · have HT2 := Lib.hid (HT.out.below hb2)
            have HL2 := Lib.hid (HL.out.below hb2)
            have H02 := Lib.hid (H0.out.below hb2)
            have H12 := Lib.hid (H1.out.below hb2)
            have HB2 := Lib.hid (HB.out.trans (hb2.mono HB.out.size))
            have m0 := (hb2.cell (block_lt_of_cell a0)).trans a0
            have m1 := (hb2.cell (block_lt_of_cell a1)).trans a1
            clear c0 c1 a0 a1 a2 a3
            have hEb : (E == 0) = false := by simpa using hE
            clear hb2 hE
            go_wp2_with (first | (refine wpList_store_tree rfl (.tmp 9) (.tmp 77) rfl rfl rfl (TB.new w2 none 0 0 0) ?_; intro w5 hb5 hg5; have k0 := hb5.c0; have k1 := hb5.c1; have HU5 := Lib.hid hb5; have HG5 := Lib.hid hg5; have hu5 := ((HT2.out.t.below (below_new w2 (.cells #[.slice none 0 0, .int .i64 0] 26))).far hg5 (fun e => by injection e with e; have := HT2.out.t.lt; omega)); have HUX := Lib.hid hu5; have j0 := hu5.c0; have j1 := hu5.c1; have hk5 := ((HL2.out.t.below (below_new w2 (.cells #[.slice none 0 0, .int .i64 0] 26))).far hg5 (fun e => by injection e with e; have := HL2.out.t.lt; omega)); have HKX := Lib.hid hk5; have j2 := hk5.c0; clear hb5 hg5 hu5 hk5) | fail)
            have t5 : Below w2.heap.size w2 w5 := (below_new w2 _).grown HG5.out (by simp) (fun k e => by injection e with e; omega)
            have HT5 := Lib.hid (HT2.out.below t5)
            have HL5 := Lib.hid (HL2.out.below t5)
            have H05 := Lib.hid (H02.out.below t5)
            have H15 := Lib.hid (H12.out.below t5)
            have HB5 := Lib.hid (HB2.out.trans (t5.mono HB2.out.size))
            clear t5
            go_roundw
            case rel => exact ⟨j + 1, T, L, A, k, n, c, B, m, kb, by simp, by omega, by omega, ⟨by omega, by omega⟩, HAP.out, HT5.out, HL5.out, H05.out, H15.out, HB5.out⟩
            case measure => simp [intOf]; omega
        by_cases q1 : q = 1
        · have q0b : (q == 0) = false := by simpa using q0
          have q1b : (q == 1) = true := by simpa using q1
          clear q0 q1
          go_wp2_with fail
          refine (begin_any A T n k c z HT.out.hn HGA.out HT.out.hc (by omega) wz HT.out.x).mono ?_
          rintro e w2 ⟨hb2, ⟨hm, A2, k2, nn, hnn, rfl, htx⟩ | ⟨E, hE, _, rfl⟩⟩
          · have HX2 := Lib.hid htx
            have HT2 := Lib.hid (HT.out.below hb2)
            have HL2 := Lib.hid (HL.out.below hb2)
            have H02 := Lib.hid (H0.out.below hb2)
            have H12 := Lib.hid (H1.out.below hb2)
            have HB2 := Lib.hid (HB.out.trans (hb2.mono HB.out.size))
            have m0 := (hb2.cell (block_lt_of_cell a0)).trans a0
            have m1 := (hb2.cell (block_lt_of_cell a1)).trans a1
            clear c0 c1 a0 a1 a2 a3
            have HAP2 := Lib.hid (HAP.out.begun hm)
            obtain ⟨c2, hc2⟩ : ∃ c2, c2 = (T.begun z).c := ⟨_, rfl⟩
            obtain ⟨n2, hn2⟩ : ∃ n2, n2 = (T.begun z).l.length := ⟨_, rfl⟩
            have HCC := Lib.hid (show c2 = c + 1 by rw [hc2, ← HT.out.hc]; rfl)
            rw [show nn = n2 from by rw [hnn, hn2, len_begun]]
            rw [← hc2]
            have HC2 := Lib.hid hc2
            have HN2 := Lib.hid hn2
            clear hb2 htx hc2 hn2
            go_wp2_with (first | (refine wpList_store_tree rfl (.tmp 9) (.tmp 77) rfl rfl rfl (TB.new w2 none 0 0 0) ?_; intro w5 hb5 hg5; have k0 := hb5.c0; have k1 := hb5.c1; have HU5 := Lib.hid hb5; have HG5 := Lib.hid hg5; have hu5 := ((HT2.out.t.below (below_new w2 (.cells #[.slice none 0 0, .int .i64 0] 26))).far hg5 (fun e => by injection e with e; have := HT2.out.t.lt; omega)); have HUX := Lib.hid hu5; have j0 := hu5.c0; have j1 := hu5.c1; have hk5 := ((HL2.out.t.below (below_new w2 (.cells #[.slice none 0 0, .int .i64 0] 26))).far hg5 (fun e => by injection e with e; have := HL2.out.t.lt; omega)); have HKX := Lib.hid hk5; have j2 := hk5.c0; clear hb5 hg5 hu5 hk5) | (refine wpList_store_tree rfl (.tmp 4) (.tmp 82) rfl rfl rfl HUX.out ?_; intro w6 hb6 hg6; have HU6 := Lib.hid hb6; have HG6 := Lib.hid hg6; clear hb6 hg6) | fail)
            have t5 : Below w2.heap.size w2 w5 := (below_new w2 _).grown HG5.out (by simp) (fun k e => by injection e with e; omega)
            have HT6 := Lib.hid (show Tp w6 g2 A2 n2 k2 c2 (T.begun z) from ⟨HU6.out, (HX2.out.below t5).box HUX.out HG6.out, HN2.out.symm, HC2.out.symm⟩)
            have HL6 := Lib.hid ((HL2.out.below t5).farT HUX.out HG6.out (by have h1 := HG2.out; have h2 := HG3.out; omega))
            have H06 := Lib.hid ((H02.out.below t5).far HG6.out (fun e => by injection e with e; have h1 := HG2.out; omega))
            have H16 := Lib.hid ((H12.out.below t5).far HG6.out (fun e => by injection e with e; have h1 := HG2.out; omega))
            have HB6 := Lib.hid ((HB2.out.trans (t5.mono HB2.out.size)).grown HG6.out (Nat.le_trans HB2.out.size t5.size) (fun k e => by injection e with e; have h1 := HG2.out; omega))
            clear t5
            go_roundw
            case rel => exact ⟨j + 1, T.begun z, L, A2, k2, n2, c2, B, m, kb, by simp, by omega, by rw [HN2.out]; exact HAP2.out.good.n, ⟨by have := HCC.out; omega, by have := HCC.out; omega⟩, HAP2.out, HT6.out, HL6.out, H06.out, H16.out, HB6.out⟩
            case measure => simp [intOf]; omega
          · have HT2 := Lib.hid (HT.out.below hb2)
            have HL2 := Lib.hid (HL.out.below hb2)
            have H02 := Lib.hid (H0.out.below hb2)
            have H12 := Lib.hid (H1.out.below hb2)
            have HB2 := Lib.hid (HB.out.trans (hb2.mono HB.out.size))
            have m0 := (hb2.cell (block_lt_of_cell a0)).trans a0
            have m1 := (hb2.cell (block_lt_of_cell a1)).trans a1
            clear c0 c1 a0 a1 a2 a3
            have hEb : (E == 0) = false := by simpa using hE
            clear hb2 hE
            go_wp2_with (first | (refine wpList_store_tree rfl (.tmp 9) (.tmp 77) rfl rfl rfl (TB.new w2 none 0 0 0) ?_; intro w5 hb5 hg5; have k0 := hb5.c0; have k1 := hb5.c1; have HU5 := Lib.hid hb5; have HG5 := Lib.hid hg5; have hu5 := ((HT2.out.t.below (below_new w2 (.cells #[.slice none 0 0, .int .i64 0] 26))).far hg5 (fun e => by injection e with e; have := HT2.out.t.lt; omega)); have HUX := Lib.hid hu5; have j0 := hu5.c0; have j1 := hu5.c1; have hk5 := ((HL2.out.t.below (below_new w2 (.cells #[.slice none 0 0, .int .i64 0] 26))).far hg5 (fun e => by injection e with e; have := HL2.out.t.lt; omega)); have HKX := Lib.hid hk5; have j2 := hk5.c0; clear hb5 hg5 hu5 hk5) | fail)
            have t5 : Below w2.heap.size w2 w5 := (below_new w2 _).grown HG5.out (by simp) (fun k e => by injection e with e; omega)
            have HT5 := Lib.hid (HT2.out.below t5)
            have HL5 := Lib.hid (HL2.out.below t5)
            have H05 := Lib.hid (H02.out.below t5)
            have H15 := Lib.hid (H12.out.below t5)
            have HB5 := Lib.hid (HB2.out.trans (t5.mono HB2.out.size))
            clear t5
            go_roundw
            case rel => exact ⟨j + 1, T, L, A, k, n, c, B, m, kb, by simp, by omega, by omega, ⟨by omega, by omega⟩, HAP.out, HT5.out, HL5.out, H05.out, H15.out, HB5.out⟩
            case measure => simp [intOf]; omega
        by_cases q2 : q = 2
        · have q0b : (q == 0) = false := by simpa using q0
          have q1b : (q == 1) = false := by simpa using q1
          have q2b : (q == 2) = true := by simpa using q2
          clear q0 q1 q2
          go_wp2_with fail
          refine (commit_any A T n k c z HT.out.hn HGA.out HT.out.hc (by omega) wz HT.out.x).mono ?_
          rintro e w2 ⟨hb2, ⟨i, hzi, hm, A2, k2, nn, hnn, rfl, htx⟩ | ⟨E, hE, hno, rfl⟩⟩
          · subst hzi
            have HX2 := Lib.hid htx
            have HT2 := Lib.hid (HT.out.below hb2)
            have HL2 := Lib.hid (HL.out.below hb2)
            have H02 := Lib.hid (H0.out.below hb2)
            have H12 := Lib.hid (H1.out.below hb2)
            have HB2 := Lib.hid (HB.out.trans (hb2.mono HB.out.size))
            have m0 := (hb2.cell (block_lt_of_cell a0)).trans a0
            have m1 := (hb2.cell (block_lt_of_cell a1)).trans a1
            clear c0 c1 a0 a1 a2 a3
            have HAP2 := Lib.hid (HAP.out.done hm)
            obtain ⟨p, hp⟩ : ∃ p, (T.tx i).p = p := ⟨_, rfl⟩
            rw [hp] at HAP2
            have hin : i < n := by rw [← HT.out.hn]; exact hm.lt
            have HI63 := Lib.hid (show i ≤ 63 by omega)
            have HP63 := Lib.hid (show p ≤ 63 by have := HGA.out.par i hm.lt; omega)
            have HP := Lib.hid hp
            have HIN := Lib.hid hin
            obtain ⟨c2, hc2⟩ : ∃ c2, c2 = (T.done i).c := ⟨_, rfl⟩
            have HCC := Lib.hid (show c2 = c + 1 by rw [hc2, ← HT.out.hc]; rfl)
            rw [hnn, show T.l.length = n from HT.out.hn]
            rw [← hc2]
            have HC2 := Lib.hid hc2
            have HN2 := Lib.hid (show (T.done i).l.length = n by rw [← HT.out.hn]; exact len_turned)
            clear hb2 htx hc2 hnn hm hp
            go_upto_region 22 with (first | (refine wpList_store_tree rfl (.tmp 12) (.tmp 89) rfl rfl rfl (TB.new w2 none 0 0 0) ?_; intro w5 hb5 hg5; have k0 := hb5.c0; have k1 := hb5.c1; have HU5 := Lib.hid hb5; have HG5 := Lib.hid hg5; have hu5 := ((HT2.out.t.below (below_new w2 (.cells #[.slice none 0 0, .int .i64 0] 26))).far hg5 (fun e => by injection e with e; have := HT2.out.t.lt; omega)); have HUX := Lib.hid hu5; have j0 := hu5.c0; have j1 := hu5.c1; have hk5 := ((HL2.out.t.below (below_new w2 (.cells #[.slice none 0 0, .int .i64 0] 26))).far hg5 (fun e => by injection e with e; have := HL2.out.t.lt; omega)); have HKX := Lib.hid hk5; have j2 := hk5.c0; clear hb5 hg5 hu5 hk5) | fail)
            have t5 : Below w2.heap.size w2 w5 := (below_new w2 _).grown HG5.out (by simp) (fun k e => by injection e with e; omega)
            have HL5 := Lib.hid (HL2.out.below t5)
            have HT5 := Lib.hid (HT2.out.below t5)
            have HB5 := Lib.hid (HB2.out.trans (t5.mono HB2.out.size))
            have H05 := Lib.hid (H02.out.below t5)
            have H15 := Lib.hid (H12.out.below t5)
            have HX5 := Lib.hid (HX2.out.below t5)
            obtain ⟨bp, hAe, hbp, pc, _, _, _⟩ := HT5.out.x.get (i := i) (by rw [HT.out.hn]; exact hin)
            subst hAe
            rw [HP.out] at pc
            have hb3 : bp ≠ g3 := fun e => by
              subst e
              have hr : w5.heap[bp]? = _ := HL5.out.t
              rw [cell_of_row _ _ _ _ _ _ hr] at pc
              rcases Nat.eq_zero_or_pos i with h0 | h0
              · subst h0
                rw [Nat.zero_mul] at pc
                injection pc with pc
                cases pc
              · rw [Array.getElem?_eq_none (by simp; omega)] at pc
                cases pc
            have hg23 : g2 ≠ g3 := by have h1 := HG2.out; have h2 := HG3.out; omega
            have e0 : ∀ V, Turn (fun q => q = g3) w5 V → V.cell? ⟨bp, i * 4, none⟩ = some (.int .i64 p) := fun V hV => hV.cell pc hb3
            have e1 : ∀ V, Turn (fun q => q = g3) w5 V → V.cell? ⟨g2, 0, none⟩ = some (.slice (some ⟨bp, 0, none⟩) n k) := fun V hV => hV.cell HT5.out.t.c0 hg23
            have e2 : (World.drew w5).cell? ⟨g3, 0, none⟩ = some (.slice B m kb) := HL5.out.t.c0
            clear pc hb3 j0 j1 j2 t5
            refine wp_region_turn (X := (fun q => q = g3)) (by kernel_rfl) ?_
            have hS : Turn (fun q => q = g3) w5 (World.drew w5) := (Turn.refl _ _).drew
            refine wpAnyH_take (i := 1) (oi := ⟨some 103, _, _, _, _, _⟩) (v := ?_) rfl (by kernel_rfl) (by kernel_rfl) (by kernel_rfl) (fun _ _ _ h => h) (Or.inl ⟨by rfl, ?_⟩) hS ?_
            rotate_left
            · intro W hW; go_simp; with_reducible rfl
            try simp only [Act.put, List.setIfInBounds_toArray, List.set_cons_zero, List.set_cons_succ]
            refine wpAnyH_take (i := 2) (oi := ⟨some 104, _, _, _, _, _⟩) (v := ?_) rfl (by kernel_rfl) (by kernel_rfl) (by kernel_rfl) (fun _ _ _ h => h) (Or.inl ⟨by rfl, ?_⟩) hS ?_
            rotate_left
            · intro W hW; go_simp; with_reducible rfl
            try simp only [Act.put, List.setIfInBounds_toArray, List.set_cons_zero, List.set_cons_succ]
            refine wpAnyH_take (i := 3) (oi := ⟨some 105, _, _, _, _, _⟩) (v := ?_) rfl (by kernel_rfl) (by kernel_rfl) (by kernel_rfl) (fun _ _ _ h => h) (Or.inl ⟨by rfl, ?_⟩) hS ?_
            rotate_left
            · intro W hW; go_simp; with_reducible rfl
            try simp only [Act.put, List.setIfInBounds_toArray, List.set_cons_zero, List.set_cons_succ]
            refine wpAnyH_take (i := 4) (oi := ⟨some 106, _, _, _, _, _⟩) (v := ?_) rfl (by kernel_rfl) (by kernel_rfl) (by kernel_rfl) (fun _ _ _ h => h) (Or.inl ⟨by rfl, ?_⟩) hS ?_
            rotate_left
            · intro W hW; go_simp; with_reducible rfl
            try simp only [Act.put, List.setIfInBounds_toArray, List.set_cons_zero, List.set_cons_succ]
            refine wpAnyH_take (i := 5) (oi := ⟨some 107, _, _, _, _, _⟩) (v := ?_) rfl (by kernel_rfl) (by kernel_rfl) (by kernel_rfl) (fun _ _ _ h => h) (Or.inl ⟨by rfl, ?_⟩) hS ?_
            rotate_left
            · intro W hW; go_simp; with_reducible rfl
            try simp only [Act.put, List.setIfInBounds_toArray, List.set_cons_zero, List.set_cons_succ]
            refine wpAnyH_take (i := 6) (oi := ⟨some 108, _, _, _, _, _⟩) (v := ?_) rfl (by kernel_rfl) (by kernel_rfl) (by kernel_rfl) (fun _ _ _ h => h) (Or.inl ⟨by rfl, ?_⟩) hS ?_
            rotate_left
            · intro W hW; go_simp; with_reducible rfl
            try simp only [Act.put, List.setIfInBounds_toArray, List.set_cons_zero, List.set_cons_succ]
            refine wpAnyH_take (i := 7) (oi := ⟨some 109, _, _, _, _, _⟩) (v := ?_) rfl (by kernel_rfl) (by kernel_rfl) (by kernel_rfl) (fun _ _ _ h => h) (Or.inl ⟨by rfl, ?_⟩) hS ?_
            rotate_left
            · intro W hW; go_simp; with_reducible rfl
            try simp only [Act.put, List.setIfInBounds_toArray, List.set_cons_zero, List.set_cons_succ]
            refine wpAnyH_ready (rs := [0]) (by kernel_rfl) (by simp) ?_
            refine AllReadyH.cons (o := ⟨some 102, _, _, _, _, _⟩) rfl (fun Kr hKr => ?_) AllReadyH.nil
            -- operation 0: a step
            go_simp
            show Kr _ _
            refine hKr.out _ _ ?_ (fun _ => ?_)
            · exact hS
            clear hKr Kr
            try simp only [Act.put, List.setIfInBounds_toArray, List.set_cons_zero, List.set_cons_succ]
            refine wpAnyH_ready (rs := [8]) (by kernel_rfl) (by simp) ?_
            refine AllReadyH.cons (o := ⟨some 110, _, _, _, _, _⟩) rfl (fun Kr hKr => ?_) AllReadyH.nil
            -- operation 8: a call
            go_simp
            refine (pass_any B L m kb HL5.out.hn HL5.out.s HAP.out.tab i p HI63.out HP63.out _ (HL5.out.x.below ((Below.refl _ _).drew))).mono ?_
            rintro e w6 ⟨B6, m6, kb6, rfl, ho6, hb6⟩
            show Kr _ _
            refine hKr.out _ _ ?_ (fun _ => ?_)
            · exact hS.trans (Turn.ofBelow hb6)
            clear hKr Kr
            replace hS : Turn (fun q => q = g3) w5 w6 := hS.trans (Turn.ofBelow hb6)
            try simp only [Act.put, List.setIfInBounds_toArray, List.set_cons_zero, List.set_cons_succ]
            refine wpAnyH_ready (rs := [9]) (by kernel_rfl) (by simp) ?_
            refine AllReadyH.cons (o := ⟨none, _, _, _, _, _⟩) rfl (fun Kr hKr => ?_) AllReadyH.nil
            -- operation 9: a step
            refine wp_store_table (.tmp 5) (.tmp 110) rfl rfl rfl (show KB w6 g3 B m kb from (HL5.out.t.below ((Below.refl _ _).drew)).below hb6) ?_
            intro w7 hk7 hg7
            show Kr _ _
            refine hKr.out _ _ ?_ (fun _ => ?_)
            · exact hS.grown hg7 (fun q e => by injection e with e; exact .inl e.symm)
            clear hKr Kr
            replace hS : Turn (fun q => q = g3) w5 w7 := hS.grown hg7 (fun q e => by injection e with e; exact .inl e.symm)
            try simp only [Act.put, List.setIfInBounds_toArray, List.set_cons_zero, List.set_cons_succ]
            refine wpAnyH_done (by kernel_rfl) ?_ _
            have HL7 := Lib.hid (show Lp w7 g3 B6 m6 kb6 (passL L (i : Int) p) from ⟨hk7, ho6.parts.2.2.2.boxK (show KB w6 g3 B m kb from (HL5.out.t.below ((Below.refl _ _).drew)).below hb6) hg7, ho6.parts.1, ho6.parts.2.1, ho6.parts.2.2.1⟩)
            have hb56 : Below w5.heap.size w5 w6 := ((Below.refl _ _).drew).trans hb6
            have hKB6 : KB w6 g3 B m kb := HL5.out.t.below hb56
            have HU7 := Lib.hid (show TB w7 w2.heap.size A2 n k2 c2 from (HU5.out.below hb56).far hg7 (fun e => by injection e with e; have h1 := HL2.out.t.lt; omega))
            have HX7 := Lib.hid ((HX5.out.below hb56).boxK hKB6 hg7)
            have HT7 := Lib.hid ((HT5.out.below hb56).farK hKB6 hg7 hg23)
            have H07 := Lib.hid ((H05.out.below hb56).far hg7 (fun e => by injection e with e; have h1 := HG3.out; omega))
            have H17 := Lib.hid ((H15.out.below hb56).far hg7 (fun e => by injection e with e; have h1 := HG3.out; omega))
            have HB7 := Lib.hid ((HB5.out.trans (hb56.mono HB5.out.size)).grown hg7 (Nat.le_trans HB5.out.size hb56.size) (fun q e => by injection e with e; have h1 := HG3.out; omega))
            clear hS hk7 hg7 ho6 hb6 hb56 hKB6 e0 e1 e2
            have k0 := HU7.out.c0
            have k1 := HU7.out.c1
            go_wp2_with (first | (refine wpList_store_tree rfl (.tmp 4) (.tmp 111) rfl rfl rfl HT7.out.t ?_; intro w8 hb8 hg8; have HU8 := Lib.hid hb8; have HG8 := Lib.hid hg8; clear hb8 hg8) | fail)
            have HT8 := Lib.hid (show Tp w8 g2 A2 n k2 c2 (T.done i) from ⟨HU8.out, HX7.out.box HT7.out.t HG8.out, HN2.out, HC2.out.symm⟩)
            have HL8 := Lib.hid (HL7.out.farT HT7.out.t HG8.out (fun e => hg23 e.symm))
            have H08 := Lib.hid (H07.out.far HG8.out (fun e => by injection e with e; have h1 := HG2.out; omega))
            have H18 := Lib.hid (H17.out.far HG8.out (fun e => by injection e with e; have h1 := HG2.out; omega))
            have HB8 := Lib.hid (HB7.out.grown HG8.out HB7.out.size (fun q e => by injection e with e; have h1 := HG2.out; omega))
            go_roundw
            case rel => exact ⟨j + 1, T.done i, passL L (i : Int) p, A2, k2, n, c2, B6, m6, kb6, by simp, by omega, by omega, ⟨by have := HCC.out; omega, by have := HCC.out; omega⟩, HAP2.out, HT8.out, HL8.out, H08.out, H18.out, HB8.out⟩
            case measure => simp [intOf]; omega
          · have HT2 := Lib.hid (HT.out.below hb2)
            have HL2 := Lib.hid (HL.out.below hb2)
            have H02 := Lib.hid (H0.out.below hb2)
            have H12 := Lib.hid (H1.out.below hb2)
            have HB2 := Lib.hid (HB.out.trans (hb2.mono HB.out.size))
            have m0 := (hb2.cell (block_lt_of_cell a0)).trans a0
            have m1 := (hb2.cell (block_lt_of_cell a1)).trans a1
            clear c0 c1 a0 a1 a2 a3
            have hEb : (E == 0) = false := by simpa using hE
            clear hb2 hE hno
            go_wp2_with (first | (refine wpList_store_tree rfl (.tmp 12) (.tmp 89) rfl rfl rfl (TB.new w2 none 0 0 0) ?_; intro w5 hb5 hg5; have k0 := hb5.c0; have k1 := hb5.c1; have HU5 := Lib.hid hb5; have HG5 := Lib.hid hg5; have hu5 := ((HT2.out.t.below (below_new w2 (.cells #[.slice none 0 0, .int .i64 0] 26))).far hg5 (fun e => by injection e with e; have := HT2.out.t.lt; omega)); have HUX := Lib.hid hu5; have j0 := hu5.c0; have j1 := hu5.c1; have hk5 := ((HL2.out.t.below (below_new w2 (.cells #[.slice none 0 0, .int .i64 0] 26))).far hg5 (fun e => by injection e with e; have := HL2.out.t.lt; omega)); have HKX := Lib.hid hk5; have j2 := hk5.c0; clear hb5 hg5 hu5 hk5) | fail)
            have t5 : Below w2.heap.size w2 w5 := (below_new w2 _).grown HG5.out (by simp) (fun k e => by injection e with e; omega)
            have HT5 := Lib.hid (HT2.out.below t5)
            have HL5 := Lib.hid (HL2.out.below t5)
            have H05 := Lib.hid (H02.out.below t5)
            have H15 := Lib.hid (H12.out.below t5)
            have HB5 := Lib.hid (HB2.out.trans (t5.mono HB2.out.size))
            clear t5
            go_roundw
            case rel => exact ⟨j + 1, T, L, A, k, n, c, B, m, kb, by simp, by omega, by omega, ⟨by omega, by omega⟩, HAP.out, HT5.out, HL5.out, H05.out, H15.out, HB5.out⟩
            case measure => simp [intOf]; omega
        by_cases q3 : q = 3
        · have q0b : (q == 0) = false := by simpa using q0
          have q1b : (q == 1) = false := by simpa using q1
          have q2b : (q == 2) = false := by simpa using q2
          have q3b : (q == 3) = true := by simpa using q3
          clear q0 q1 q2 q3
          go_wp2_with fail
          refine (abort_any A T n k c z HT.out.hn HGA.out HT.out.hc (by omega) wz HT.out.x).mono ?_
          rintro e w2 ⟨hb2, ⟨i, hzi, hil, his, A2, k2, nn, Bi, kbi, mi, hnn, hmi, rfl, htx, hid2⟩ | ⟨E, hE, hno, rfl⟩⟩
          · subst hzi
            have HX2 := Lib.hid htx
            have HI2 := Lib.hid hid2
            have HT2 := Lib.hid (HT.out.below hb2)
            have HL2 := Lib.hid (HL.out.below hb2)
            have H02 := Lib.hid (H0.out.below hb2)
            have H12 := Lib.hid (H1.out.below hb2)
            have HB2 := Lib.hid (HB.out.trans (hb2.mono HB.out.size))
            have m0 := (hb2.cell (block_lt_of_cell a0)).trans a0
            have m1 := (hb2.cell (block_lt_of_cell a1)).trans a1
            clear c0 c1 a0 a1 a2 a3
            have HAP2 := Lib.hid (HAP.out.undone (id := i))
            rw [HT.out.hn] at HAP2
            obtain ⟨c2, hc2⟩ : ∃ c2, c2 = (T.undone i).c := ⟨_, rfl⟩
            have HCC := Lib.hid (show c2 = c + 1 by rw [hc2, ← HT.out.hc]; rfl)
            obtain ⟨ids, hids⟩ : ∃ ids, ids = T.gone i n := ⟨_, rfl⟩
            rw [HT.out.hn, ← hids] at HI2
            rw [HT.out.hn, ← hids] at hmi
            rw [← hids] at HAP2
            have HIM := Lib.hid (show ∀ y ∈ ids, y ≤ 63 from fun y hy => by
              rw [hids] at hy
              unfold Tr.gone at hy
              have := (kin_mem (List.mem_filter.1 hy).1).1
              omega)
            have HIL := Lib.hid (show ids.length ≤ 64 by rw [hids]; have := gone_len T i n; omega)
            rw [hnn, show T.l.length = n from HT.out.hn]
            rw [← hc2]
            have HC2 := Lib.hid hc2
            have HN2 := Lib.hid (show (T.undone i).l.length = n by rw [← HT.out.hn]; exact len_turned)
            have HMI := Lib.hid hmi
            clear hb2 htx hid2 hc2 hnn hil his hids hmi
            go_upto_region 28 with (first | (refine wpList_store_tree rfl (.tmp 14) (.tmp 118) rfl rfl rfl (TB.new w2 none 0 0 0) ?_; intro w5 hb5 hg5; have k0 := hb5.c0; have k1 := hb5.c1; have HU5 := Lib.hid hb5; have HG5 := Lib.hid hg5; have hu5 := ((HT2.out.t.below (below_new w2 (.cells #[.slice none 0 0, .int .i64 0] 26))).far hg5 (fun e => by injection e with e; have := HT2.out.t.lt; omega)); have HUX := Lib.hid hu5; have j0 := hu5.c0; have j1 := hu5.c1; have hk5 := ((HL2.out.t.below (below_new w2 (.cells #[.slice none 0 0, .int .i64 0] 26))).far hg5 (fun e => by injection e with e; have := HL2.out.t.lt; omega)); have HKX := Lib.hid hk5; have j2 := hk5.c0; clear hb5 hg5 hu5 hk5) | (refine wpList_store_tree rfl (.tmp 4) (.tmp 123) rfl rfl rfl HUX.out ?_; intro w6 hb6 hg6; have HU6 := Lib.hid hb6; have HG6 := Lib.hid hg6; clear hb6 hg6) | fail)
            have t5 : Below w2.heap.size w2 w5 := (below_new w2 _).grown HG5.out (by simp) (fun k e => by injection e with e; omega)
            have hg23 : g3 ≠ g2 := by have h1 := HG2.out; have h2 := HG3.out; omega
            have HT6 := Lib.hid (show Tp w6 g2 A2 n k2 c2 (T.undone i) from ⟨HU6.out, (HX2.out.below t5).box HUX.out HG6.out, HN2.out, HC2.out.symm⟩)
            have HL6 := Lib.hid ((HL2.out.below t5).farT HUX.out HG6.out hg23)
            have H06 := Lib.hid ((H02.out.below t5).far HG6.out (fun e => by injection e with e; have h1 := HG2.out; omega))
            have H16 := Lib.hid ((H12.out.below t5).far HG6.out (fun e => by injection e with e; have h1 := HG2.out; omega))
            have HB6 := Lib.hid ((HB2.out.trans (t5.mono HB2.out.size)).grown HG6.out (Nat.le_trans HB2.out.size t5.size) (fun k e => by injection e with e; have h1 := HG2.out; omega))
            have HI6 := Lib.hid ((HI2.out.below t5).box HUX.out HG6.out)
            have HFR := Lib.hid (free_any B L m kb HL6.out.hn HL6.out.s HAP.out.tab Bi ids mi kbi HMI.out.symm (by have h1 := HMI.out; have h2 := HIL.out; omega) HIM.out w6 HL6.out.x HI6.out)
            have f0 := HL6.out.t.c0
            clear t5 j0 j1 j2 k0 k1
            go_wp2_with (first | (go_at_call 31; refine HFR.out.mono ?_; rintro e w7 ⟨B7, m7, kb7, rfl, ho7, hb7⟩; have HO7 := Lib.hid ho7; have HB7 := Lib.hid hb7; have HL7 := Lib.hid (HL6.out.below hb7); clear ho7 hb7) | (refine wpList_store_table rfl (.tmp 5) (.tmp 126) rfl rfl rfl HL7.out.t ?_; intro w8 hk8 hg8; have HK8 := Lib.hid hk8; have HG8 := Lib.hid hg8; clear hk8 hg8) | fail)
            have HL8 := Lib.hid (show Lp w8 g3 B7 m7 kb7 (freeL L (inL ids)) from ⟨HK8.out, HO7.out.parts.2.2.2.boxK HL7.out.t HG8.out, HO7.out.parts.1, HO7.out.parts.2.1, HO7.out.parts.2.2.1⟩)
            have HT8 := Lib.hid ((HT6.out.below HB7.out).farK HL7.out.t HG8.out (fun e => hg23 e.symm))
            have H08 := Lib.hid ((H06.out.below HB7.out).far HG8.out (fun e => by injection e with e; have h1 := HG3.out; omega))
            have H18 := Lib.hid ((H16.out.below HB7.out).far HG8.out (fun e => by injection e with e; have h1 := HG3.out; omega))
            have HB8 := Lib.hid ((HB6.out.trans (HB7.out.mono HB6.out.size)).grown HG8.out (Nat.le_trans HB6.out.size HB7.out.size) (fun q e => by injection e with e; have h1 := HG3.out; omega))
            go_roundw
            case rel => exact ⟨j + 1, T.undone i, freeL L (inL ids), A2, k2, n, c2, B7, m7, kb7, by simp, by omega, by omega, ⟨by have := HCC.out; omega, by have := HCC.out; omega⟩, HAP2.out, HT8.out, HL8.out, H08.out, H18.out, HB8.out⟩
            case measure => simp [intOf]; omega
          · have HT2 := Lib.hid (HT.out.below hb2)
            have HL2 := Lib.hid (HL.out.below hb2)
            have H02 := Lib.hid (H0.out.below hb2)
            have H12 := Lib.hid (H1.out.below hb2)
            have HB2 := Lib.hid (HB.out.trans (hb2.mono HB.out.size))
            have m0 := (hb2.cell (block_lt_of_cell a0)).trans a0
            have m1 := (hb2.cell (block_lt_of_cell a1)).trans a1
            clear c0 c1 a0 a1 a2 a3
            have hEb : (E == 0) = false := by simpa using hE
            clear hb2 hE hno
            go_wp2_with (first | (refine wpList_store_tree rfl (.tmp 14) (.tmp 118) rfl rfl rfl (TB.new w2 none 0 0 0) ?_; intro w5 hb5 hg5; have k0 := hb5.c0; have k1 := hb5.c1; have HU5 := Lib.hid hb5; have HG5 := Lib.hid hg5; have hu5 := ((HT2.out.t.below (below_new w2 (.cells #[.slice none 0 0, .int .i64 0] 26))).far hg5 (fun e => by injection e with e; have := HT2.out.t.lt; omega)); have HUX := Lib.hid hu5; have j0 := hu5.c0; have j1 := hu5.c1; have hk5 := ((HL2.out.t.below (below_new w2 (.cells #[.slice none 0 0, .int .i64 0] 26))).far hg5 (fun e => by injection e with e; have := HL2.out.t.lt; omega)); have HKX := Lib.hid hk5; have j2 := hk5.c0; clear hb5 hg5 hu5 hk5) | fail)
            have t5 : Below w2.heap.size w2 w5 := (below_new w2 _).grown HG5.out (by simp) (fun k e => by injection e with e; omega)
            have HT5 := Lib.hid (HT2.out.below t5)
            have HL5 := Lib.hid (HL2.out.below t5)
            have H05 := Lib.hid (H02.out.below t5)
            have H15 := Lib.hid (H12.out.below t5)
            have HB5 := Lib.hid (HB2.out.trans (t5.mono HB2.out.size))
            clear t5
            go_roundw
            case rel => exact ⟨j + 1, T, L, A, k, n, c, B, m, kb, by simp, by omega, by omega, ⟨by omega, by omega⟩, HAP.out, HT5.out, HL5.out, H05.out, H15.out, HB5.out⟩
            case measure => simp [intOf]; omega
        have q0b : (q == 0) = false := by simpa using q0
        have q1b : (q == 1) = false := by simpa using q1
        have q2b : (q == 2) = false := by simpa using q2
        have q3b : (q == 3) = false := by simpa using q3
        clear q0 q1 q2 q3
        obtain ⟨b, hb, hlow7⟩ := low v 7 3 (by decide) (by omega)
        obtain ⟨y, hy, hlow1⟩ := low r 1 1 (by decide) (by omega)
        obtain ⟨md, hmd⟩ : ∃ md : Int, 1 + (y : Int) = md := ⟨_, rfl⟩
        have HMD := Lib.hid (show md = 1 ∨ md = 2 by have : y < 2 := hy; omega)
        have hmw : IntKind.i64.wrap md = md := by rw [IntKind.wrap_i64]; have := HMD.out; omega
        have HBB := Lib.hid (show 0 ≤ (b : Int) ∧ (b : Int) ≤ 255 by have : b < 8 := hb; omega)
        obtain ⟨E, hE⟩ : ∃ E, E = askE T L z b md := ⟨_, rfl⟩
        obtain ⟨L2, hL2⟩ : ∃ L2, L2 = askL T L z b md := ⟨_, rfl⟩
        have HAK : Hid (∀ V, Since wz V → Calls Try.prog 32 #[.agg #[.slice B m kb], .agg #[.slice A n k, .int .i64 c], .int .i64 z, .int .i64 (b : Int), .int .i64 md] V fun e w' => ∃ A' n' k', e = .returned (.tuple #[.agg #[.slice A' n' k'], .int .i64 E]) ∧ OwnLk w' V.heap.size (.slice A' n' k') L2 ∧ Below V.heap.size V w') := fun V hV => by
          rw [hE, hL2]
          exact ask_any B L m kb HL.out.hn HL.out.hk HL.out.s HAP.out.tab A T n k c HT.out.hn HGA.out z b md HBB.out HMD.out V (HL.out.x.below hV) (HT.out.x.below hV)
        have HAP2 := Lib.hid (show E = 0 → Apt T L2 from fun h => by
          rw [hL2]
          unfold askL
          rw [if_pos (by rw [← hE]; exact h)]
          exact HAP.out.ask HBB.out HMD.out (by rw [← hE]; exact h))
        clear hb hy hE hL2 c0 c1
        have s0 : ∀ V, Since wz V → V.cell? ⟨g2, 0, none⟩ = some (.slice A n k) := fun V hV => (HT.out.t.below hV).c0
        have s1 : ∀ V, Since wz V → V.cell? ⟨g2, 1, none⟩ = some (.int .i64 c) := fun V hV => (HT.out.t.below hV).c1
        have s2 : ∀ V, Since wz V → V.cell? ⟨g3, 0, none⟩ = some (.slice B m kb) := fun V hV => (HL.out.t.below hV).c0
        have s3 : ∀ V, Since wz V → V.cell? ⟨ab, ao + j * 4 + 2, none⟩ = some (.int .i64 v) := fun V hV => (hV.cell (block_lt_of_cell a2)).trans a2
        have s4 : ∀ V, Since wz V → V.cell? ⟨ab, ao + j * 4 + 3, none⟩ = some (.int .i64 r) := fun V hV => (hV.cell (block_lt_of_cell a3)).trans a3
        clear a1 a2 a3
        go_upto_region 11 with fail
        go_cut [17, 18] from 21 to 126 (fun pv ev wc => ∃ (B6 : Option Addr) (m6 kb6 h : Nat), pv = .pointer (some ⟨h, 0, none⟩) ∧ ev = .int .i64 E ∧ Hid (KB wc h B6 m6 kb6) ∧ Hid (LkAt wc B6 L2) ∧ Hid (L2.length = m6 ∧ m6 ≤ kb6 ∧ Sp B6) ∧ Hid (Since wz wc))
        case first =>
          refine wp_region_since (by kernel_rfl) ?_
          have hS : Since wz (World.drew wz) := (Below.refl _ _).drew
          refine wpAnyH_take (i := 0) (oi := ⟨some 48, _, _, _, _, _⟩) (v := ?_) rfl (by kernel_rfl) (by kernel_rfl) (by kernel_rfl) (fun _ _ _ h => h) (Or.inl ⟨by rfl, ?_⟩) hS ?_
          rotate_left
          · intro W hW; go_simp; with_reducible rfl
          try simp only [Act.put, List.setIfInBounds_toArray, List.set_cons_zero, List.set_cons_succ]
          refine wpAnyH_take (i := 1) (oi := ⟨some 49, _, _, _, _, _⟩) (v := ?_) rfl (by kernel_rfl) (by kernel_rfl) (by kernel_rfl) (fun _ _ _ h => h) (Or.inl ⟨by rfl, ?_⟩) hS ?_
          rotate_left
          · intro W hW; go_simp; with_reducible rfl
          try simp only [Act.put, List.setIfInBounds_toArray, List.set_cons_zero, List.set_cons_succ]
          refine wpAnyH_take (i := 2) (oi := ⟨some 50, _, _, _, _, _⟩) (v := ?_) rfl (by kernel_rfl) (by kernel_rfl) (by kernel_rfl) (fun _ _ _ h => h) (Or.inl ⟨by rfl, ?_⟩) hS ?_
          rotate_left
          · intro W hW; go_simp; with_reducible rfl
          try simp only [Act.put, List.setIfInBounds_toArray, List.set_cons_zero, List.set_cons_succ]
          refine wpAnyH_take (i := 3) (oi := ⟨some 51, _, _, _, _, _⟩) (v := ?_) rfl (by kernel_rfl) (by kernel_rfl) (by kernel_rfl) (fun _ _ _ h => h) (Or.inl ⟨by rfl, ?_⟩) hS ?_
          rotate_left
          · intro W hW; go_simp; with_reducible rfl
          try simp only [Act.put, List.setIfInBounds_toArray, List.set_cons_zero, List.set_cons_succ]
          refine wpAnyH_take (i := 4) (oi := ⟨some 52, _, _, _, _, _⟩) (v := ?_) rfl (by kernel_rfl) (by kernel_rfl) (by kernel_rfl) (fun _ _ _ h => h) (Or.inl ⟨by rfl, ?_⟩) hS ?_
          rotate_left
          · intro W hW; go_simp; with_reducible rfl
          try simp only [Act.put, List.setIfInBounds_toArray, List.set_cons_zero, List.set_cons_succ]
          refine wpAnyH_take (i := 5) (oi := ⟨some 53, _, _, _, _, _⟩) (v := ?_) rfl (by kernel_rfl) (by kernel_rfl) (by kernel_rfl) (fun _ _ _ h => h) (Or.inl ⟨by rfl, ?_⟩) hS ?_
          rotate_left
          · intro W hW; go_simp; with_reducible rfl
          try simp only [Act.put, List.setIfInBounds_toArray, List.set_cons_zero, List.set_cons_succ]
          refine wpAnyH_take (i := 6) (oi := ⟨some 54, _, _, _, _, _⟩) (v := ?_) rfl (by kernel_rfl) (by kernel_rfl) (by kernel_rfl) (fun _ _ _ h => h) (Or.inl ⟨by rfl, ?_⟩) hS ?_
          rotate_left
          · intro W hW; go_simp; with_reducible rfl
          try simp only [Act.put, List.setIfInBounds_toArray, List.set_cons_zero, List.set_cons_succ]
          refine wpAnyH_take (i := 7) (oi := ⟨some 55, _, _, _, _, _⟩) (v := ?_) rfl (by kernel_rfl) (by kernel_rfl) (by kernel_rfl) (fun _ _ _ h => h) (Or.inl ⟨by rfl, ?_⟩) hS ?_
          rotate_left
          · intro W hW; go_simp; with_reducible rfl
          try simp only [Act.put, List.setIfInBounds_toArray, List.set_cons_zero, List.set_cons_succ]
          refine wpAnyH_take (i := 8) (oi := ⟨some 56, _, _, _, _, _⟩) (v := ?_) rfl (by kernel_rfl) (by kernel_rfl) (by kernel_rfl) (fun _ _ _ h => h) (Or.inl ⟨by rfl, ?_⟩) hS ?_
          rotate_left
          · intro W hW; go_simp; with_reducible rfl
          try simp only [Act.put, List.setIfInBounds_toArray, List.set_cons_zero, List.set_cons_succ]
          refine wpAnyH_take (i := 9) (oi := ⟨some 57, _, _, _, _, _⟩) (v := ?_) rfl (by kernel_rfl) (by kernel_rfl) (by kernel_rfl) (fun _ _ _ h => h) (Or.inl ⟨by rfl, ?_⟩) hS ?_
          rotate_left
          · intro W hW; go_simp; with_reducible rfl
          try simp only [Act.put, List.setIfInBounds_toArray, List.set_cons_zero, List.set_cons_succ]
          refine wpAnyH_take (i := 10) (oi := ⟨some 58, _, _, _, _, _⟩) (v := ?_) rfl (by kernel_rfl) (by kernel_rfl) (by kernel_rfl) (fun _ _ _ h => h) (Or.inl ⟨by rfl, ?_⟩) hS ?_
          rotate_left
          · intro W hW; go_simp; with_reducible rfl
          try simp only [Act.put, List.setIfInBounds_toArray, List.set_cons_zero, List.set_cons_succ]
          refine wpAnyH_take (i := 11) (oi := ⟨some 59, _, _, _, _, _⟩) (v := ?_) rfl (by kernel_rfl) (by kernel_rfl) (by kernel_rfl) (fun _ _ _ h => h) (Or.inl ⟨by rfl, ?_⟩) hS ?_
          rotate_left
          · intro W hW; go_simp; with_reducible rfl
          try simp only [Act.put, List.setIfInBounds_toArray, List.set_cons_zero, List.set_cons_succ]
          refine wpAnyH_take (i := 12) (oi := ⟨some 60, _, _, _, _, _⟩) (v := ?_) rfl (by kernel_rfl) (by kernel_rfl) (by kernel_rfl) (fun _ _ _ h => h) (Or.inl ⟨by rfl, ?_⟩) hS ?_
          rotate_left
          · intro W hW; go_simp; with_reducible rfl
          try simp only [Act.put, List.setIfInBounds_toArray, List.set_cons_zero, List.set_cons_succ]
          refine wpAnyH_take (i := 13) (oi := ⟨some 61, _, _, _, _, _⟩) (v := ?_) rfl (by kernel_rfl) (by kernel_rfl) (by kernel_rfl) (fun _ _ _ h => h) (Or.inl ⟨by rfl, ?_⟩) hS ?_
          rotate_left
          · intro W hW; go_simp; with_reducible rfl
          try simp only [Act.put, List.setIfInBounds_toArray, List.set_cons_zero, List.set_cons_succ]
          refine wpAnyH_take (i := 14) (oi := ⟨some 62, _, _, _, _, _⟩) (v := ?_) rfl (by kernel_rfl) (by kernel_rfl) (by kernel_rfl) (fun _ _ _ h => h) (Or.inl ⟨by rfl, ?_⟩) hS ?_
          rotate_left
          · intro W hW; go_simp; with_reducible rfl
          try simp only [Act.put, List.setIfInBounds_toArray, List.set_cons_zero, List.set_cons_succ]
          refine wpAnyH_take (i := 15) (oi := ⟨some 63, _, _, _, _, _⟩) (v := ?_) rfl (by kernel_rfl) (by kernel_rfl) (by kernel_rfl) (fun _ _ _ h => h) (Or.inl ⟨by rfl, ?_⟩) hS ?_
          rotate_left
          · intro W hW; go_simp; with_reducible rfl
          try simp only [Act.put, List.setIfInBounds_toArray, List.set_cons_zero, List.set_cons_succ]
          refine wpAnyH_ready (rs := [16, 20]) (by kernel_rfl) (by simp) ?_
          refine AllReadyH.cons (o := ⟨some 64, _, _, _, _, _⟩) rfl (fun Kr hKr => ?_) (AllReadyH.cons (o := ⟨some 17, _, _, _, _, _⟩) rfl (fun Kr hKr => ?_) AllReadyH.nil)
          · skip
            -- operation 16: a call
            go_simp
            refine (HAK.out _ hS).mono ?_
            rintro e w6 ⟨B6, m6, kb6, rfl, ho6, hb6⟩
            show Kr _ _
            refine hKr.out _ _ ?_ (fun _ => ?_)
            · exact since_trans hS hb6
            clear hKr Kr
            replace hS : Since wz w6 := since_trans hS hb6
            try simp only [Act.put, List.setIfInBounds_toArray, List.set_cons_zero, List.set_cons_succ]
            refine wpAnyH_take (i := 17) (oi := ⟨some 47, _, _, _, _, _⟩) (v := ?_) rfl (by kernel_rfl) (by kernel_rfl) (by kernel_rfl) (fun _ _ _ h => h) (Or.inl ⟨by rfl, ?_⟩) hS ?_
            rotate_left
            · intro W hW; go_simp; with_reducible rfl
            try simp only [Act.put, List.setIfInBounds_toArray, List.set_cons_zero, List.set_cons_succ]
            refine wpAnyH_take (i := 18) (oi := ⟨some 65, _, _, _, _, _⟩) (v := ?_) rfl (by kernel_rfl) (by kernel_rfl) (by kernel_rfl) (fun _ _ _ h => h) (Or.inl ⟨by rfl, ?_⟩) hS ?_
            rotate_left
            · intro W hW; go_simp; with_reducible rfl
            try simp only [Act.put, List.setIfInBounds_toArray, List.set_cons_zero, List.set_cons_succ]
            refine wpAnyH_take (i := 19) (oi := ⟨some 66, _, _, _, _, _⟩) (v := ?_) rfl (by kernel_rfl) (by kernel_rfl) (by kernel_rfl) (fun _ _ _ h => h) (Or.inl ⟨by rfl, ?_⟩) hS ?_
            rotate_left
            · intro W hW; go_simp; with_reducible rfl
            try simp only [Act.put, List.setIfInBounds_toArray, List.set_cons_zero, List.set_cons_succ]
            refine wpAnyH_ready (rs := [20]) (by kernel_rfl) (by simp) ?_
            refine AllReadyH.cons (o := ⟨some 17, _, _, _, _, _⟩) rfl (fun Kr hKr => ?_) AllReadyH.nil
            -- operation 20: a step
            refine wp_alloc_table rfl ?_
            intro w20 g20 hg20 hk20 hb20
            have hG20 : wz.heap.size ≤ g20 := Nat.le_trans (Below.size hS) hg20
            show Kr _ _
            refine hKr.out _ _ ?_ (fun _ => ?_)
            · exact since_trans hS hb20
            clear hKr Kr
            replace hS : Since wz w20 := since_trans hS hb20
            try simp only [Act.put, List.setIfInBounds_toArray, List.set_cons_zero, List.set_cons_succ]
            refine wpAnyH_ready (rs := [21]) (by kernel_rfl) (by simp) ?_
            refine AllReadyH.cons (o := ⟨none, _, _, _, _, _⟩) rfl (fun Kr hKr => ?_) AllReadyH.nil
            -- operation 21: a step
            refine wp_store_table (.tmp 17) (.tmp 65) rfl rfl rfl (by first | exact hk20 | exact KB.below hk20 hb6) ?_
            intro w7 hk7 hg7
            show Kr _ _
            refine hKr.out _ _ ?_ (fun _ => ?_)
            · exact Below.grown hS hg7 hS.size (fun q e => by injection e with e; omega)
            clear hKr Kr
            replace hS : Since wz w7 := Below.grown hS hg7 hS.size (fun q e => by injection e with e; omega)
            try simp only [Act.put, List.setIfInBounds_toArray, List.set_cons_zero, List.set_cons_succ]
            refine wpAnyH_take (i := 22) (oi := ⟨some 18, _, _, _, _, _⟩) (v := ?_) rfl (by kernel_rfl) (by kernel_rfl) (by kernel_rfl) (fun _ _ _ h => h) (Or.inl ⟨by rfl, ?_⟩) hS ?_
            rotate_left
            · intro W hW; go_simp; with_reducible rfl
            try simp only [Act.put, List.setIfInBounds_toArray, List.set_cons_zero, List.set_cons_succ]
            refine wpAnyH_done (by kernel_rfl) ?_ _
            have hx7 : LkAt w7 B6 L2 := by first | exact (ho6.parts.2.2.2.below hb20).boxK hk20 hg7 | exact ho6.parts.2.2.2.boxK (KB.below hk20 hb6) hg7
            go_wp2_with fail
            go_meet
            case rel => exact ⟨B6, m6, kb6, g20, rfl, rfl, hk7, hx7, ⟨ho6.parts.1, ho6.parts.2.1, ho6.parts.2.2.1⟩, hS⟩
          · skip
            -- operation 20: a step
            refine wp_alloc_table rfl ?_
            intro w20 g20 hg20 hk20 hb20
            have hG20 : wz.heap.size ≤ g20 := Nat.le_trans (Below.size hS) hg20
            show Kr _ _
            refine hKr.out _ _ ?_ (fun _ => ?_)
            · exact since_trans hS hb20
            clear hKr Kr
            replace hS : Since wz w20 := since_trans hS hb20
            try simp only [Act.put, List.setIfInBounds_toArray, List.set_cons_zero, List.set_cons_succ]
            refine wpAnyH_ready (rs := [16]) (by kernel_rfl) (by simp) ?_
            refine AllReadyH.cons (o := ⟨some 64, _, _, _, _, _⟩) rfl (fun Kr hKr => ?_) AllReadyH.nil
            -- operation 16: a call
            go_simp
            refine (HAK.out _ hS).mono ?_
            rintro e w6 ⟨B6, m6, kb6, rfl, ho6, hb6⟩
            show Kr _ _
            refine hKr.out _ _ ?_ (fun _ => ?_)
            · exact since_trans hS hb6
            clear hKr Kr
            replace hS : Since wz w6 := since_trans hS hb6
            try simp only [Act.put, List.setIfInBounds_toArray, List.set_cons_zero, List.set_cons_succ]
            refine wpAnyH_take (i := 17) (oi := ⟨some 47, _, _, _, _, _⟩) (v := ?_) rfl (by kernel_rfl) (by kernel_rfl) (by kernel_rfl) (fun _ _ _ h => h) (Or.inl ⟨by rfl, ?_⟩) hS ?_
            rotate_left
            · intro W hW; go_simp; with_reducible rfl
            try simp only [Act.put, List.setIfInBounds_toArray, List.set_cons_zero, List.set_cons_succ]
            refine wpAnyH_take (i := 18) (oi := ⟨some 65, _, _, _, _, _⟩) (v := ?_) rfl (by kernel_rfl) (by kernel_rfl) (by kernel_rfl) (fun _ _ _ h => h) (Or.inl ⟨by rfl, ?_⟩) hS ?_
            rotate_left
            · intro W hW; go_simp; with_reducible rfl
            try simp only [Act.put, List.setIfInBounds_toArray, List.set_cons_zero, List.set_cons_succ]
            refine wpAnyH_take (i := 19) (oi := ⟨some 66, _, _, _, _, _⟩) (v := ?_) rfl (by kernel_rfl) (by kernel_rfl) (by kernel_rfl) (fun _ _ _ h => h) (Or.inl ⟨by rfl, ?_⟩) hS ?_
            rotate_left
            · intro W hW; go_simp; with_reducible rfl
            try simp only [Act.put, List.setIfInBounds_toArray, List.set_cons_zero, List.set_cons_succ]
            refine wpAnyH_ready (rs := [21]) (by kernel_rfl) (by simp) ?_
            refine AllReadyH.cons (o := ⟨none, _, _, _, _, _⟩) rfl (fun Kr hKr => ?_) AllReadyH.nil
            -- operation 21: a step
            refine wp_store_table (.tmp 17) (.tmp 65) rfl rfl rfl (by first | exact hk20 | exact KB.below hk20 hb6) ?_
            intro w7 hk7 hg7
            show Kr _ _
            refine hKr.out _ _ ?_ (fun _ => ?_)
            · exact Below.grown hS hg7 hS.size (fun q e => by injection e with e; omega)
            clear hKr Kr
            replace hS : Since wz w7 := Below.grown hS hg7 hS.size (fun q e => by injection e with e; omega)
            try simp only [Act.put, List.setIfInBounds_toArray, List.set_cons_zero, List.set_cons_succ]
            refine wpAnyH_take (i := 22) (oi := ⟨some 18, _, _, _, _, _⟩) (v := ?_) rfl (by kernel_rfl) (by kernel_rfl) (by kernel_rfl) (fun _ _ _ h => h) (Or.inl ⟨by rfl, ?_⟩) hS ?_
            rotate_left
            · intro W hW; go_simp; with_reducible rfl
            try simp only [Act.put, List.setIfInBounds_toArray, List.set_cons_zero, List.set_cons_succ]
            refine wpAnyH_done (by kernel_rfl) ?_ _
            have hx7 : LkAt w7 B6 L2 := by first | exact (ho6.parts.2.2.2.below hb20).boxK hk20 hg7 | exact ho6.parts.2.2.2.boxK (KB.below hk20 hb6) hg7
            go_wp2_with fail
            go_meet
            case rel => exact ⟨B6, m6, kb6, g20, rfl, rfl, hk7, hx7, ⟨ho6.parts.1, ho6.parts.2.1, ho6.parts.2.2.1⟩, hS⟩
        obtain ⟨B6, m6, kb6, h7, rfl, rfl, HK7, HX7, HPT, HS⟩ := hcut
        obtain ⟨w7, hw7⟩ : ∃ w7, w7 = wc := ⟨_, rfl⟩
        subst hw7
        have HL7 := Lib.hid (HL.out.below HS.out)
        have HT7 := Lib.hid (HT.out.below HS.out)
        have H07 := Lib.hid (H0.out.below HS.out)
        have H17 := Lib.hid (H1.out.below HS.out)
        have HB7 := Lib.hid (HB.out.trans (Below.mono HS.out HB.out.size))
        have k0 := HK7.out.c0
        clear s0 s1 s2 s3 s4 hlow7 hlow1 hmd hmw
        by_cases e0 : E = 0
        · have eb : (E == 0) = true := by simpa using e0
          have HAP3 := Lib.hid (HAP2.out e0)
          clear e0
          go_wp2_with (first | (refine wpList_store_table rfl (.tmp 5) (.tmp 69) rfl rfl rfl HL7.out.t ?_; intro w8 hk8 hg8; have HK8 := Lib.hid hk8; have HG8 := Lib.hid hg8; clear hk8 hg8) | fail)
          have HL8 := Lib.hid (show Lp w8 g3 B6 m6 kb6 L2 from ⟨HK8.out, HX7.out.boxK HL7.out.t HG8.out, HPT.out.1, HPT.out.2.1, HPT.out.2.2⟩)
          have HT8 := Lib.hid (HT7.out.farK HL7.out.t HG8.out (by have h1 := HG2.out; have h2 := HG3.out; omega))
          have H08 := Lib.hid (H07.out.far HG8.out (fun e => by injection e with e; have h1 := HG3.out; omega))
          have H18 := Lib.hid (H17.out.far HG8.out (fun e => by injection e with e; have h1 := HG3.out; omega))
          have HB8 := Lib.hid (HB7.out.grown HG8.out HB7.out.size (fun q e => by injection e with e; have h1 := HG3.out; omega))
          go_roundw
          case rel => exact ⟨j + 1, T, L2, A, k, n, c, B6, m6, kb6, by simp, by omega, by omega, ⟨by omega, by omega⟩, HAP3.out, HT8.out, HL8.out, H08.out, H18.out, HB8.out⟩
          case measure => simp [intOf]; omega
        · have eb : (E == 0) = false := by simpa using e0
          clear e0
          go_wp2
          go_roundw
          case rel => exact ⟨j + 1, T, L, A, k, n, c, B, m, kb, by simp, by omega, by omega, ⟨by omega, by omega⟩, HAP.out, HT7.out, HL7.out, H07.out, H17.out, HB7.out⟩
          case measure => simp [intOf]; omega
    · obtain rfl : j = len := by omega
      have HOX := Lib.hid (show ∀ b o, A = some ⟨b, o, none⟩ → T.l = [] ∨ ¬ (b = w.heap.size ∨ b = w.heap.size + 1) from fun b o e => by
        rcases HT.out.x.off H0.out.c0 b o e with h | h
        · exact .inl h
        · rcases HT.out.x.off H1.out.c0 b o e with h' | h'
          · exact .inl h'
          · exact .inr (fun hh => by rcases hh with hh | hh; exact h hh; exact h' hh))
      have HOL := Lib.hid (show ∀ b o, B = some ⟨b, o, none⟩ → L = [] ∨ ¬ (b = w.heap.size ∨ b = w.heap.size + 1) from fun b o e => by
        rcases HL.out.x.off H0.out.c0 H0.out.nocells b o e with h | h
        · exact .inl h
        · rcases HL.out.x.off H1.out.c0 H1.out.nocells b o e with h' | h'
          · exact .inl h'
          · exact .inr (fun hh => by rcases hh with hh | hh; exact h hh; exact h' hh))
      have g20 : ¬ (g2 = w.heap.size ∨ g2 = w.heap.size + 1) := by have := HG2.out; omega
      have g30 : ¬ (g3 = w.heap.size ∨ g3 = w.heap.size + 1) := by have := HG3.out; omega
      have e0 : ∀ V, Turn (fun q => q = w.heap.size ∨ q = w.heap.size + 1) wr V → V.cell? ⟨g2, 0, none⟩ = some (.slice A n k) := fun V hV => hV.cell HT.out.t.c0 g20
      have e1 : ∀ V, Turn (fun q => q = w.heap.size ∨ q = w.heap.size + 1) wr V → V.cell? ⟨g2, 1, none⟩ = some (.int .i64 c) := fun V hV => hV.cell HT.out.t.c1 g20
      have e2 : ∀ V, Turn (fun q => q = w.heap.size ∨ q = w.heap.size + 1) wr V → V.cell? ⟨g3, 0, none⟩ = some (.slice B m kb) := fun V hV => hV.cell HL.out.t.c0 g30
      have H0d := Lib.hid (show TB (World.drew wr) w.heap.size none 0 0 0 from H0.out)
      have H1d := Lib.hid (show KB (World.drew wr) (w.heap.size + 1) none 0 0 from H1.out)
      clear c0 g20 g30
      go_upto_region 29 with fail
      refine wp_region_turn (X := (fun q => q = w.heap.size ∨ q = w.heap.size + 1)) (by kernel_rfl) ?_
      have hS : Turn (fun q => q = w.heap.size ∨ q = w.heap.size + 1) wr (World.drew wr) := (Turn.refl _ _).drew
      refine wpAnyH_take (i := 0) (oi := ⟨some 127, _, _, _, _, _⟩) (v := ?_) rfl (by kernel_rfl) (by kernel_rfl) (by kernel_rfl) (fun _ _ _ h => h) (Or.inl ⟨by rfl, ?_⟩) hS ?_
      rotate_left
      · intro W hW; go_simp; with_reducible rfl
      try simp only [Act.put, List.setIfInBounds_toArray, List.set_cons_zero, List.set_cons_succ]
      refine wpAnyH_take (i := 1) (oi := ⟨some 128, _, _, _, _, _⟩) (v := ?_) rfl (by kernel_rfl) (by kernel_rfl) (by kernel_rfl) (fun _ _ _ h => h) (Or.inl ⟨by rfl, ?_⟩) hS ?_
      rotate_left
      · intro W hW; go_simp; with_reducible rfl
      try simp only [Act.put, List.setIfInBounds_toArray, List.set_cons_zero, List.set_cons_succ]
      refine wpAnyH_ready (rs := [2]) (by kernel_rfl) (by simp) ?_
      refine AllReadyH.cons (o := ⟨none, _, _, _, _, _⟩) rfl (fun Kr hKr => ?_) AllReadyH.nil
      -- operation 2: a step
      refine wp_store_tree (.tmp 2) (.tmp 127) rfl rfl rfl H0d.out ?_
      intro w5 ha5 hg5
      show Kr _ _
      refine hKr.out _ _ ?_ (fun _ => ?_)
      · exact hS.grown hg5 (fun q e => by injection e with e; exact .inl (.inl e.symm))
      clear hKr Kr
      replace hS : Turn (fun q => q = w.heap.size ∨ q = w.heap.size + 1) wr w5 := hS.grown hg5 (fun q e => by injection e with e; exact .inl (.inl e.symm))
      try simp only [Act.put, List.setIfInBounds_toArray, List.set_cons_zero, List.set_cons_succ]
      refine wpAnyH_ready (rs := [3]) (by kernel_rfl) (by simp) ?_
      refine AllReadyH.cons (o := ⟨none, _, _, _, _, _⟩) rfl (fun Kr hKr => ?_) AllReadyH.nil
      -- operation 3: a step
      refine wp_store_table (.tmp 3) (.tmp 128) rfl rfl rfl (H1d.out.far hg5 (fun e => by injection e with e; omega)) ?_
      intro w6 hk6 hg6
      show Kr _ _
      refine hKr.out _ _ ?_ (fun _ => ?_)
      · exact hS.grown hg6 (fun q e => by injection e with e; exact .inl (.inr e.symm))
      clear hKr Kr
      replace hS : Turn (fun q => q = w.heap.size ∨ q = w.heap.size + 1) wr w6 := hS.grown hg6 (fun q e => by injection e with e; exact .inl (.inr e.symm))
      try simp only [Act.put, List.setIfInBounds_toArray, List.set_cons_zero, List.set_cons_succ]
      refine wpAnyH_done (by kernel_rfl) ?_ _
      have hT9 := ha5.far hg6 (fun e => by injection e with e; omega)
      have HS9 := Lib.hid hS
      go_wp2_with fail
      refine bodyPost_ret (results_grown rfl _ rfl rfl hT9 hk6) rfl ?_
      exact ⟨A, k, n, c, T, B, m, kb, L, rfl, HT.out.hn, HT.out.hc, by omega, HAP.out, HT.out.x.turn HS9.out HOX.out, HL.out.hn, HL.out.hk, HL.out.s, HL.out.x.turn HS9.out HOL.out, HB.out.trans (HS9.out.below (fun q e => by omega) HB.out.size)⟩
end Go.Proofs.Ytohnfjneghbceaa
