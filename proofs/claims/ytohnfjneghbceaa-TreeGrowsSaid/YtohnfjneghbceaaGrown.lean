/-
  Things that are done, as they lie; a tree grown by them is sound.
-/
import Derived.Test.YtohnfjneghbceaaSane3
import Derived.Laws.BitsLemmas
import Derived.RegionTactic
import Derived.Deep.CutBlock
import Derived.Deep.CutRange
namespace Go.Proofs.Ytohnfjneghbceaa
set_option maxRecDepth 100000
set_option linter.unusedVariables false
open Go.RowKit Go.Shelf

theorem and_mask (n : Int) (m : Int) (k : Nat) (hm : (BitVec.ofInt 64 m).toNat = 2 ^ k - 1) (hk : k ≤ 62) : bits .and .i64 n m = n % ((2 ^ k : Nat) : Int) := by
  have key : (BitVec.ofInt 64 n &&& BitVec.ofInt 64 m).toNat = (n % ((2 ^ 64 : Nat) : Int)).toNat % 2 ^ k := by
    rw [BitVec.toNat_and, BitVec.toNat_ofInt, hm, Nat.and_two_pow_sub_one_eq_mod]
  show IntKind.i64.wrap ((BitVec.ofInt 64 n &&& BitVec.ofInt 64 m).toNat : Nat) = _
  have hp : (2 ^ k : Nat) ∣ 2 ^ 64 := Nat.pow_dvd_pow 2 (by omega)
  have hpos : 0 < 2 ^ k := Nat.two_pow_pos k
  have hle : 2 ^ k ≤ 2 ^ 62 := Nat.pow_le_pow_right (by omega) hk
  have h64 : n % ((2 ^ 64 : Nat) : Int) % ((2 ^ k : Nat) : Int) = n % ((2 ^ k : Nat) : Int) := Int.emod_emod_of_dvd n (by exact_mod_cast hp)
  rw [key, IntKind.wrap_i64]
  generalize 2 ^ k = K at *
  have g0 : 0 ≤ n % ((2 ^ 64 : Nat) : Int) := Int.emod_nonneg n (by decide)
  have e1 : (((n % ((2 ^ 64 : Nat) : Int)).toNat % K : Nat) : Int) = n % (K : Int) := by
    rw [Int.natCast_emod, Int.toNat_of_nonneg g0, h64]
  rw [e1]
  have g1 := Int.emod_nonneg n (b := (K : Int)) (by omega)
  have g2 := Int.emod_lt_of_pos n (b := (K : Int)) (by omega)
  omega

/-- a number's low bits, named -/
theorem low (n m : Int) (k : Nat) (hm : (BitVec.ofInt 64 m).toNat = 2 ^ k - 1) (hk : k ≤ 62) : ∃ x : Nat, x < 2 ^ k ∧ bits .and .i64 n m = (x : Int) := by
  have hpos : 0 < 2 ^ k := Nat.two_pow_pos k
  have g1 := Int.emod_nonneg n (b := ((2 ^ k : Nat) : Int)) (by omega)
  have g2 := Int.emod_lt_of_pos n (b := ((2 ^ k : Nat) : Int)) (by omega)
  exact ⟨(n % ((2 ^ k : Nat) : Int)).toNat, by omega, by rw [and_mask n m k hm hk]; omega⟩

/-- the things that are done lie there: what, and in which -/
def Acts (w : World) (a : Option Addr) (len : Nat) (F G : Nat → Int) : Prop :=
  len = 0 ∨ ∃ b o, a = some ⟨b, o, none⟩ ∧ b < w.heap.size ∧ ∀ i, i < len → w.cell? ⟨b, o + i * 2, none⟩ = some (.int .i64 (F i)) ∧ w.cell? ⟨b, o + i * 2 + 1, none⟩ = some (.int .i64 (G i))

set_option maxHeartbeats 8000000 in
theorem grown_any (a : Option Addr) (len cap : Nat) (F G : Nat → Int) (hlen : len ≤ 150) (w : World) (hacts : Acts w a len F G) :
    Calls Try.prog 14 #[.slice a len cap] w fun e w' => ∃ A k n c T, e = .returned (.agg #[.slice A n k, .int .i64 c]) ∧ T.l.length = n ∧ T.c = c ∧ c ≤ 150 ∧ Good T ∧ TxAt w' A T.l ∧ Below w.heap.size w w' := by
  obtain ⟨wx, hw0⟩ : ∃ wx, wx = w.alloc (.cells #[.slice none 0 0, .int .i64 0] 26) := ⟨_, rfl⟩
  obtain ⟨w1, hw1⟩ : ∃ wy, wy = wx.alloc (.cells #[.slice none 0 0, .int .i64 0] 26) := ⟨_, rfl⟩
  have b1 : TB w1 w.heap.size none 0 0 0 := by rw [hw1, hw0]; exact (TB.new w _ _ _ _).below (below_new _ _)
  have b2 : TB w1 (w.heap.size + 1) none 0 0 0 := by
    have h := TB.new wx none 0 0 0
    rw [show wx.heap.size = w.heap.size + 1 from by rw [hw0]; simp] at h
    rw [hw1]; exact h
  have hb : Below w.heap.size w w1 := by rw [hw1, hw0]; exact below_two (below_new w _) (below_new _ _)
  have HB := Lib.hid hb
  have H2 := Lib.hid b1
  have H3 := Lib.hid b2
  have HACT := Lib.hid hacts
  clear hb b1 b2 hacts
  go_enter Try.func14, Try.ntmps14
  go_upto_region 1 with fail
  rw [← hw0]
  have hs0 : wx.heap.size = w.heap.size + 1 := by rw [hw0]; simp
  clear hw0
  go_upto_region 2 with fail
  rw [← hw1]
  have HT2 := H3
  have H22 := H2
  have HB2 := HB
  clear HB H2 H3 hs0 hw1 wx
  go_wp2_with fail
  go_loopw [4] (fun iv wr => ∃ (j : Nat) (T : Tr) (A : Option Addr) (k n : Nat) (c : Int), iv = .int .i64 (j : Int) ∧ j ≤ len ∧ n ≤ 64 ∧ (0 ≤ c ∧ c ≤ j) ∧ Hid (T.l.length = n) ∧ Hid (T.c = c) ∧ Hid (Good T) ∧ Hid (TxAt wr A T.l) ∧ Hid (TB wr (w.heap.size + 1) A n k c) ∧ Hid (TB wr w.heap.size none 0 0 0) ∧ Hid (Below w.heap.size w wr)) (fun iv _ => len - (intOf iv).toNat)
  case atStart => exact ⟨0, ⟨[], 0⟩, none, 0, 0, 0, rfl, Nat.zero_le _, by omega, ⟨Int.le_refl _, Int.le_refl _⟩, rfl, rfl, good_nil, .inl ⟨rfl, rfl⟩, HT2.out, H22.out, HB2.out⟩
  case round =>
    obtain ⟨j, T, A, k, n, c, rfl, hj, hn, hcb, HN, HC, HG, HX, HT, H0, HBL⟩ := hrel
    clear HT2 H22 HB2
    have c0 := HT.out.c0
    have c1 := HT.out.c1
    rcases Nat.lt_or_ge j len with hlt | hge
    · obtain ⟨ab, ao, hae, hab, hcell⟩ : ∃ b o, a = some ⟨b, o, none⟩ ∧ b < w.heap.size ∧ ∀ i, i < len → w.cell? ⟨b, o + i * 2, none⟩ = some (.int .i64 (F i)) ∧ w.cell? ⟨b, o + i * 2 + 1, none⟩ = some (.int .i64 (G i)) := by
        rcases HACT.out with h | h
        · omega
        · exact h
      subst hae
      obtain ⟨f0, f1⟩ := hcell j hlt
      have a0 := (HBL.out.cell (p := ⟨ab, ao + j * 2, none⟩) hab).trans f0
      have a1 := (HBL.out.cell (p := ⟨ab, ao + j * 2 + 1, none⟩) hab).trans f1
      obtain ⟨q, hq⟩ : ∃ q, q = F j := ⟨_, rfl⟩
      obtain ⟨u, hu⟩ : ∃ u, u = G j := ⟨_, rfl⟩
      rw [← hq] at a0
      rw [← hu] at a1
      clear f0 f1 hcell hq hu
      obtain ⟨wz, hwz⟩ : ∃ wz, wz = wr := ⟨_, rfl⟩
      subst hwz
      have hnc : n = 0 ∨ 0 < n := by omega
      rcases hnc with rfl | hpos
      · obtain ⟨z, hz⟩ : ∃ z : Int, z = -1 := ⟨_, rfl⟩
        go_upto_block 2 with fail
        rw [← hz]
        clear hz
        by_cases q0 : q = 0
        · have q0b : (q == 0) = true := by simpa using q0
          clear q0
          go_wp2_with fail
          refine (begin_any A T 0 k c z HN.out HG.out HC.out (by omega) wz HX.out).mono ?_
          rintro e w2 ⟨hb2, ⟨hm, A2, k2, nn, hnn, rfl, htx⟩ | ⟨E, hE, _, rfl⟩⟩
          · have HX2 := Lib.hid htx
            have HT2 := Lib.hid (HT.out.below hb2)
            have H02 := Lib.hid (H0.out.below hb2)
            have HB2 := Lib.hid (HBL.out.trans (hb2.mono HBL.out.size))
            have HG2 := Lib.hid (HG.out.begun hm)
            obtain ⟨c2, hc2⟩ : ∃ c2, c2 = (T.begun z).c := ⟨_, rfl⟩
            obtain ⟨n2, hn2⟩ : ∃ n2, n2 = (T.begun z).l.length := ⟨_, rfl⟩
            have HCC := Lib.hid (show c2 = c + 1 by rw [hc2, ← HC.out]; rfl)
            rw [show nn = n2 from by rw [hnn, hn2, len_begun]]
            rw [show T.l.length = 0 from HN.out]
            rw [← hc2]
            have HC2 := Lib.hid hc2
            have HN2 := Lib.hid hn2
            clear hb2 htx c0 c1 a0 a1 hc2 hn2
            go_wp2_with (first | (refine wpList_store_tree rfl (.tmp 7) (.tmp 49) rfl rfl rfl (TB.new w2 none 0 0 0) ?_; intro w5 hb5 hg5; have k0 := hb5.c0; have k1 := hb5.c1; have HB5 := Lib.hid hb5; have HG5 := Lib.hid hg5; have h35 := Lib.hid ((HT2.out.below (below_new w2 (.cells #[.slice none 0 0, .int .i64 0] 26))).far hg5 (by intro e; injection e with e; have := HT2.out.lt; omega)); clear hb5 hg5) | (refine wpList_store_tree rfl (.tmp 3) (.tmp 54) rfl rfl rfl h35.out ?_; intro w6 hb6 hg6; have HB6 := Lib.hid hb6; have HG6 := Lib.hid hg6; clear hb6 hg6) | fail)
            have t5 : Below w2.heap.size w2 w5 := (below_new w2 _).grown HG5.out (by simp) (fun k e => by injection e with e; omega)
            have HX6 := Lib.hid ((HX2.out.below t5).box h35.out HG6.out)
            have H06 := Lib.hid ((H02.out.below t5).far HG6.out (by simp))
            have HB6b := Lib.hid ((HB2.out.trans (t5.mono HB2.out.size)).grown HG6.out (Nat.le_trans HB2.out.size t5.size) (fun k e => by injection e with e; omega))
            go_roundw
            case rel => exact ⟨j + 1, T.begun z, A2, k2, n2, c2, by simp, by omega, by rw [HN2.out]; exact HG2.out.n, ⟨by have := HCC.out; omega, by have := HCC.out; omega⟩, HN2.out.symm, HC2.out.symm, HG2.out, HX6.out, HB6.out, H06.out, HB6b.out⟩
            case measure => simp [intOf]; omega
          · have HT2 := Lib.hid (HT.out.below hb2)
            have H02 := Lib.hid (H0.out.below hb2)
            have HX2 := Lib.hid (HX.out.below hb2)
            have HB2 := Lib.hid (HBL.out.trans (hb2.mono HBL.out.size))
            have hEb : (E == 0) = false := by simpa using hE
            clear hb2 c0 c1 a0 a1 hE
            go_wp2_with (first | (refine wpList_store_tree rfl (.tmp 7) (.tmp 49) rfl rfl rfl (TB.new w2 none 0 0 0) ?_; intro w5 hb5 hg5; have k0 := hb5.c0; have k1 := hb5.c1; have HB5 := Lib.hid hb5; have HG5 := Lib.hid hg5; have h35 := Lib.hid ((HT2.out.below (below_new w2 (.cells #[.slice none 0 0, .int .i64 0] 26))).far hg5 (by intro e; injection e with e; have := HT2.out.lt; omega)); clear hb5 hg5) | (refine wpList_store_tree rfl (.tmp 3) (.tmp 54) rfl rfl rfl h35.out ?_; intro w6 hb6 hg6; have HB6 := Lib.hid hb6; have HG6 := Lib.hid hg6; clear hb6 hg6) | fail)
            have t5 : Below w2.heap.size w2 w5 := (below_new w2 _).grown HG5.out (by simp) (fun k e => by injection e with e; omega)
            have HX5 := Lib.hid (HX2.out.below t5)
            have H05 := Lib.hid (H02.out.below t5)
            have HB5b := Lib.hid (HB2.out.trans (t5.mono HB2.out.size))
            go_roundw
            case rel => exact ⟨j + 1, T, A, k, 0, c, by simp, by omega, by omega, ⟨by omega, by omega⟩, HN.out, HC.out, HG.out, HX5.out, h35.out, H05.out, HB5b.out⟩
            case measure => simp [intOf]; omega
        · have q0b : (q == 0) = false := by simpa using q0
          clear q0
          by_cases q1 : q = 1
          · have q1b : (q == 1) = true := by simpa using q1
            clear q1
            go_wp2_with fail
            refine (begin_any A T 0 k c z HN.out HG.out HC.out (by omega) wz HX.out).mono ?_
            rintro e w2 ⟨hb2, ⟨hm, A2, k2, nn, hnn, rfl, htx⟩ | ⟨E, hE, _, rfl⟩⟩
            · have HX2 := Lib.hid htx
              have HT2 := Lib.hid (HT.out.below hb2)
              have H02 := Lib.hid (H0.out.below hb2)
              have HB2 := Lib.hid (HBL.out.trans (hb2.mono HBL.out.size))
              have HG2 := Lib.hid (HG.out.begun hm)
              obtain ⟨c2, hc2⟩ : ∃ c2, c2 = (T.begun z).c := ⟨_, rfl⟩
              obtain ⟨n2, hn2⟩ : ∃ n2, n2 = (T.begun z).l.length := ⟨_, rfl⟩
              have HCC := Lib.hid (show c2 = c + 1 by rw [hc2, ← HC.out]; rfl)
              rw [show nn = n2 from by rw [hnn, hn2, len_begun]]
              rw [show T.l.length = 0 from HN.out]
              rw [← hc2]
              have HC2 := Lib.hid hc2
              have HN2 := Lib.hid hn2
              clear hb2 htx c0 c1 a0 a1 hc2 hn2
              go_wp2_with (first | (refine wpList_store_tree rfl (.tmp 7) (.tmp 49) rfl rfl rfl (TB.new w2 none 0 0 0) ?_; intro w5 hb5 hg5; have k0 := hb5.c0; have k1 := hb5.c1; have HB5 := Lib.hid hb5; have HG5 := Lib.hid hg5; have h35 := Lib.hid ((HT2.out.below (below_new w2 (.cells #[.slice none 0 0, .int .i64 0] 26))).far hg5 (by intro e; injection e with e; have := HT2.out.lt; omega)); clear hb5 hg5) | (refine wpList_store_tree rfl (.tmp 3) (.tmp 54) rfl rfl rfl h35.out ?_; intro w6 hb6 hg6; have HB6 := Lib.hid hb6; have HG6 := Lib.hid hg6; clear hb6 hg6) | fail)
              have t5 : Below w2.heap.size w2 w5 := (below_new w2 _).grown HG5.out (by simp) (fun k e => by injection e with e; omega)
              have HX6 := Lib.hid ((HX2.out.below t5).box h35.out HG6.out)
              have H06 := Lib.hid ((H02.out.below t5).far HG6.out (by simp))
              have HB6b := Lib.hid ((HB2.out.trans (t5.mono HB2.out.size)).grown HG6.out (Nat.le_trans HB2.out.size t5.size) (fun k e => by injection e with e; omega))
              go_roundw
              case rel => exact ⟨j + 1, T.begun z, A2, k2, n2, c2, by simp, by omega, by rw [HN2.out]; exact HG2.out.n, ⟨by have := HCC.out; omega, by have := HCC.out; omega⟩, HN2.out.symm, HC2.out.symm, HG2.out, HX6.out, HB6.out, H06.out, HB6b.out⟩
              case measure => simp [intOf]; omega
            · have HT2 := Lib.hid (HT.out.below hb2)
              have H02 := Lib.hid (H0.out.below hb2)
              have HX2 := Lib.hid (HX.out.below hb2)
              have HB2 := Lib.hid (HBL.out.trans (hb2.mono HBL.out.size))
              have hEb : (E == 0) = false := by simpa using hE
              clear hb2 c0 c1 a0 a1 hE
              go_wp2_with (first | (refine wpList_store_tree rfl (.tmp 7) (.tmp 49) rfl rfl rfl (TB.new w2 none 0 0 0) ?_; intro w5 hb5 hg5; have k0 := hb5.c0; have k1 := hb5.c1; have HB5 := Lib.hid hb5; have HG5 := Lib.hid hg5; have h35 := Lib.hid ((HT2.out.below (below_new w2 (.cells #[.slice none 0 0, .int .i64 0] 26))).far hg5 (by intro e; injection e with e; have := HT2.out.lt; omega)); clear hb5 hg5) | (refine wpList_store_tree rfl (.tmp 3) (.tmp 54) rfl rfl rfl h35.out ?_; intro w6 hb6 hg6; have HB6 := Lib.hid hb6; have HG6 := Lib.hid hg6; clear hb6 hg6) | fail)
              have t5 : Below w2.heap.size w2 w5 := (below_new w2 _).grown HG5.out (by simp) (fun k e => by injection e with e; omega)
              have HX5 := Lib.hid (HX2.out.below t5)
              have H05 := Lib.hid (H02.out.below t5)
              have HB5b := Lib.hid (HB2.out.trans (t5.mono HB2.out.size))
              go_roundw
              case rel => exact ⟨j + 1, T, A, k, 0, c, by simp, by omega, by omega, ⟨by omega, by omega⟩, HN.out, HC.out, HG.out, HX5.out, h35.out, H05.out, HB5b.out⟩
              case measure => simp [intOf]; omega
          · have q1b : (q == 1) = false := by simpa using q1
            clear q1
            by_cases q2 : q = 2
            · have q2b : (q == 2) = true := by simpa using q2
              clear q2
              go_wp2_with fail
              refine (commit_any A T 0 k c z HN.out HG.out HC.out (by omega) wz HX.out).mono ?_
              rintro e w2 ⟨hb2, ⟨ci, rfl, hm, A2, k2, nn, hnn, rfl, htx⟩ | ⟨E, hE, _, rfl⟩⟩
              · have HX2 := Lib.hid htx
                have HT2 := Lib.hid (HT.out.below hb2)
                have H02 := Lib.hid (H0.out.below hb2)
                have HB2 := Lib.hid (HBL.out.trans (hb2.mono HBL.out.size))
                have HG2 := Lib.hid (HG.out.done hm)
                obtain ⟨c2, hc2⟩ : ∃ c2, c2 = (T.done ci).c := ⟨_, rfl⟩
                obtain ⟨n2, hn2⟩ : ∃ n2, n2 = (T.done ci).l.length := ⟨_, rfl⟩
                have HCC := Lib.hid (show c2 = c + 1 by rw [hc2, ← HC.out]; rfl)
                rw [show nn = n2 from by rw [hnn, hn2]; unfold Tr.done; rw [len_turned]]
                rw [← hc2]
                have HC2 := Lib.hid hc2
                have HN2 := Lib.hid hn2
                clear hb2 htx c0 c1 a0 a1 hc2 hn2
                go_wp2_with (first | (refine wpList_store_tree rfl (.tmp 10) (.tmp 61) rfl rfl rfl (TB.new w2 none 0 0 0) ?_; intro w5 hb5 hg5; have k0 := hb5.c0; have k1 := hb5.c1; have HB5 := Lib.hid hb5; have HG5 := Lib.hid hg5; have h35 := Lib.hid ((HT2.out.below (below_new w2 (.cells #[.slice none 0 0, .int .i64 0] 26))).far hg5 (by intro e; injection e with e; have := HT2.out.lt; omega)); clear hb5 hg5) | (refine wpList_store_tree rfl (.tmp 3) (.tmp 65) rfl rfl rfl h35.out ?_; intro w6 hb6 hg6; have HB6 := Lib.hid hb6; have HG6 := Lib.hid hg6; clear hb6 hg6) | fail)
                have t5 : Below w2.heap.size w2 w5 := (below_new w2 _).grown HG5.out (by simp) (fun k e => by injection e with e; omega)
                have HX6 := Lib.hid ((HX2.out.below t5).box h35.out HG6.out)
                have H06 := Lib.hid ((H02.out.below t5).far HG6.out (by simp))
                have HB6b := Lib.hid ((HB2.out.trans (t5.mono HB2.out.size)).grown HG6.out (Nat.le_trans HB2.out.size t5.size) (fun k e => by injection e with e; omega))
                go_roundw
                case rel => exact ⟨j + 1, T.done ci, A2, k2, n2, c2, by simp, by omega, by rw [HN2.out]; exact HG2.out.n, ⟨by have := HCC.out; omega, by have := HCC.out; omega⟩, HN2.out.symm, HC2.out.symm, HG2.out, HX6.out, HB6.out, H06.out, HB6b.out⟩
                case measure => simp [intOf]; omega
              · have HT2 := Lib.hid (HT.out.below hb2)
                have H02 := Lib.hid (H0.out.below hb2)
                have HX2 := Lib.hid (HX.out.below hb2)
                have HB2 := Lib.hid (HBL.out.trans (hb2.mono HBL.out.size))
                have hEb : (E == 0) = false := by simpa using hE
                clear hb2 c0 c1 a0 a1 hE
                go_wp2_with (first | (refine wpList_store_tree rfl (.tmp 10) (.tmp 61) rfl rfl rfl (TB.new w2 none 0 0 0) ?_; intro w5 hb5 hg5; have k0 := hb5.c0; have k1 := hb5.c1; have HB5 := Lib.hid hb5; have HG5 := Lib.hid hg5; have h35 := Lib.hid ((HT2.out.below (below_new w2 (.cells #[.slice none 0 0, .int .i64 0] 26))).far hg5 (by intro e; injection e with e; have := HT2.out.lt; omega)); clear hb5 hg5) | (refine wpList_store_tree rfl (.tmp 3) (.tmp 65) rfl rfl rfl h35.out ?_; intro w6 hb6 hg6; have HB6 := Lib.hid hb6; have HG6 := Lib.hid hg6; clear hb6 hg6) | fail)
                have t5 : Below w2.heap.size w2 w5 := (below_new w2 _).grown HG5.out (by simp) (fun k e => by injection e with e; omega)
                have HX5 := Lib.hid (HX2.out.below t5)
                have H05 := Lib.hid (H02.out.below t5)
                have HB5b := Lib.hid (HB2.out.trans (t5.mono HB2.out.size))
                go_roundw
                case rel => exact ⟨j + 1, T, A, k, 0, c, by simp, by omega, by omega, ⟨by omega, by omega⟩, HN.out, HC.out, HG.out, HX5.out, h35.out, H05.out, HB5b.out⟩
                case measure => simp [intOf]; omega
            · have q2b : (q == 2) = false := by simpa using q2
              clear q2
              by_cases q3 : q = 3
              · have q3b : (q == 3) = true := by simpa using q3
                clear q3
                go_wp2_with fail
                refine (abort_any A T 0 k c z HN.out HG.out HC.out (by omega) wz HX.out).mono ?_
                rintro e w2 ⟨hb2, ⟨ci, rfl, hci, hcs, A2, k2, nn, B2, kb2, m2, hnn, hm2, rfl, htx, _⟩ | ⟨E, hE, _, rfl⟩⟩
                · have HX2 := Lib.hid htx
                  have HT2 := Lib.hid (HT.out.below hb2)
                  have H02 := Lib.hid (H0.out.below hb2)
                  have HB2 := Lib.hid (HBL.out.trans (hb2.mono HBL.out.size))
                  have HG2 := Lib.hid (HG.out.undone (id := ci))
                  obtain ⟨c2, hc2⟩ : ∃ c2, c2 = (T.undone ci).c := ⟨_, rfl⟩
                  obtain ⟨n2, hn2⟩ : ∃ n2, n2 = (T.undone ci).l.length := ⟨_, rfl⟩
                  have HCC := Lib.hid (show c2 = c + 1 by rw [hc2, ← HC.out]; rfl)
                  rw [show nn = n2 from by rw [hnn, hn2]; unfold Tr.undone; rw [len_turned]]
                  rw [← hc2]
                  have HC2 := Lib.hid hc2
                  have HN2 := Lib.hid hn2
                  clear hb2 htx c0 c1 a0 a1 hc2 hn2
                  go_wp2_with (first | (refine wpList_store_tree rfl (.tmp 12) (.tmp 72) rfl rfl rfl (TB.new w2 none 0 0 0) ?_; intro w5 hb5 hg5; have k0 := hb5.c0; have k1 := hb5.c1; have HB5 := Lib.hid hb5; have HG5 := Lib.hid hg5; have h35 := Lib.hid ((HT2.out.below (below_new w2 (.cells #[.slice none 0 0, .int .i64 0] 26))).far hg5 (by intro e; injection e with e; have := HT2.out.lt; omega)); clear hb5 hg5) | (refine wpList_store_tree rfl (.tmp 3) (.tmp 77) rfl rfl rfl h35.out ?_; intro w6 hb6 hg6; have HB6 := Lib.hid hb6; have HG6 := Lib.hid hg6; clear hb6 hg6) | fail)
                  have t5 : Below w2.heap.size w2 w5 := (below_new w2 _).grown HG5.out (by simp) (fun k e => by injection e with e; omega)
                  have HX6 := Lib.hid ((HX2.out.below t5).box h35.out HG6.out)
                  have H06 := Lib.hid ((H02.out.below t5).far HG6.out (by simp))
                  have HB6b := Lib.hid ((HB2.out.trans (t5.mono HB2.out.size)).grown HG6.out (Nat.le_trans HB2.out.size t5.size) (fun k e => by injection e with e; omega))
                  go_roundw
                  case rel => exact ⟨j + 1, T.undone ci, A2, k2, n2, c2, by simp, by omega, by rw [HN2.out]; exact HG2.out.n, ⟨by have := HCC.out; omega, by have := HCC.out; omega⟩, HN2.out.symm, HC2.out.symm, HG2.out, HX6.out, HB6.out, H06.out, HB6b.out⟩
                  case measure => simp [intOf]; omega
                · have HT2 := Lib.hid (HT.out.below hb2)
                  have H02 := Lib.hid (H0.out.below hb2)
                  have HX2 := Lib.hid (HX.out.below hb2)
                  have HB2 := Lib.hid (HBL.out.trans (hb2.mono HBL.out.size))
                  have hEb : (E == 0) = false := by simpa using hE
                  clear hb2 c0 c1 a0 a1 hE
                  go_wp2_with (first | (refine wpList_store_tree rfl (.tmp 12) (.tmp 72) rfl rfl rfl (TB.new w2 none 0 0 0) ?_; intro w5 hb5 hg5; have k0 := hb5.c0; have k1 := hb5.c1; have HB5 := Lib.hid hb5; have HG5 := Lib.hid hg5; have h35 := Lib.hid ((HT2.out.below (below_new w2 (.cells #[.slice none 0 0, .int .i64 0] 26))).far hg5 (by intro e; injection e with e; have := HT2.out.lt; omega)); clear hb5 hg5) | (refine wpList_store_tree rfl (.tmp 3) (.tmp 77) rfl rfl rfl h35.out ?_; intro w6 hb6 hg6; have HB6 := Lib.hid hb6; have HG6 := Lib.hid hg6; clear hb6 hg6) | fail)
                  have t5 : Below w2.heap.size w2 w5 := (below_new w2 _).grown HG5.out (by simp) (fun k e => by injection e with e; omega)
                  have HX5 := Lib.hid (HX2.out.below t5)
                  have H05 := Lib.hid (H02.out.below t5)
                  have HB5b := Lib.hid (HB2.out.trans (t5.mono HB2.out.size))
                  go_roundw
                  case rel => exact ⟨j + 1, T, A, k, 0, c, by simp, by omega, by omega, ⟨by omega, by omega⟩, HN.out, HC.out, HG.out, HX5.out, h35.out, H05.out, HB5b.out⟩
                  case measure => simp [intOf]; omega
              · have q3b : (q == 3) = false := by simpa using q3
                clear q3
                go_wp2
                go_roundw
                case rel => exact ⟨j + 1, T, A, k, 0, c, by simp, by omega, by omega, ⟨by omega, by omega⟩, HN.out, HC.out, HG.out, HX.out, HT.out, H0.out, HBL.out⟩
                case measure => simp [intOf]; omega
      · obtain ⟨x, hx, hlow⟩ := low u 65535 16 (by decide) (by omega)
        have hx2 : x < 65536 := hx
        obtain ⟨y, hy⟩ : ∃ y : Nat, y = x % (n + 1) := ⟨_, rfl⟩
        have hyn : y < n + 1 := by rw [hy]; exact Nat.mod_lt _ (by omega)
        have hmod : (x : Int) % ((n : Int) + 1) = (y : Int) := by rw [hy]; simp
        have hmod2 : Int.tmod (x : Int) ((n : Int) + 1) = (y : Int) := by rw [Int.tmod_eq_emod_of_nonneg (by omega)]; exact hmod
        have hw1 : IntKind.i64.wrap ((n : Int) + 1) = (n : Int) + 1 := by simp [IntKind.wrap, IntKind.bits, IntKind.signed]; omega
        have hw2 : IntKind.i64.wrap ((y : Int) - 1) = (y : Int) - 1 := by simp [IntKind.wrap, IntKind.bits, IntKind.signed]; omega
        have hw3 : IntKind.i64.wrap (y : Int) = (y : Int) := by simp [IntKind.wrap, IntKind.bits, IntKind.signed]; omega
        have hnz : ((n : Int) + 1 == 0) = false := by simp; omega
        have hnz2 : ¬ (n : Int) + 1 = 0 := by omega
        have hposi : (0 : Int) < (n : Int) := by omega
        clear hx hy hx2
        go_upto_block 2 with fail
        obtain ⟨z, hz⟩ : ∃ z : Int, z = (y : Int) - 1 := ⟨_, rfl⟩
        rw [← hz]
        clear hz hmod hmod2 hw1 hw2 hw3 hnz hnz2 hlow hposi hyn
        by_cases q0 : q = 0
        · have q0b : (q == 0) = true := by simpa using q0
          clear q0
          go_wp2_with fail
          refine (begin_any A T n k c z HN.out HG.out HC.out (by omega) wz HX.out).mono ?_
          rintro e w2 ⟨hb2, ⟨hm, A2, k2, nn, hnn, rfl, htx⟩ | ⟨E, hE, _, rfl⟩⟩
          · have HX2 := Lib.hid htx
            have HT2 := Lib.hid (HT.out.below hb2)
            have H02 := Lib.hid (H0.out.below hb2)
            have HB2 := Lib.hid (HBL.out.trans (hb2.mono HBL.out.size))
            have HG2 := Lib.hid (HG.out.begun hm)
            obtain ⟨c2, hc2⟩ : ∃ c2, c2 = (T.begun z).c := ⟨_, rfl⟩
            obtain ⟨n2, hn2⟩ : ∃ n2, n2 = (T.begun z).l.length := ⟨_, rfl⟩
            have HCC := Lib.hid (show c2 = c + 1 by rw [hc2, ← HC.out]; rfl)
            rw [show nn = n2 from by rw [hnn, hn2, len_begun]]
            rw [show T.l.length = n from HN.out]
            rw [← hc2]
            have HC2 := Lib.hid hc2
            have HN2 := Lib.hid hn2
            clear hb2 htx c0 c1 a0 a1 hc2 hn2
            go_wp2_with (first | (refine wpList_store_tree rfl (.tmp 7) (.tmp 49) rfl rfl rfl (TB.new w2 none 0 0 0) ?_; intro w5 hb5 hg5; have k0 := hb5.c0; have k1 := hb5.c1; have HB5 := Lib.hid hb5; have HG5 := Lib.hid hg5; have h35 := Lib.hid ((HT2.out.below (below_new w2 (.cells #[.slice none 0 0, .int .i64 0] 26))).far hg5 (by intro e; injection e with e; have := HT2.out.lt; omega)); clear hb5 hg5) | (refine wpList_store_tree rfl (.tmp 3) (.tmp 54) rfl rfl rfl h35.out ?_; intro w6 hb6 hg6; have HB6 := Lib.hid hb6; have HG6 := Lib.hid hg6; clear hb6 hg6) | fail)
            have t5 : Below w2.heap.size w2 w5 := (below_new w2 _).grown HG5.out (by simp) (fun k e => by injection e with e; omega)
            have HX6 := Lib.hid ((HX2.out.below t5).box h35.out HG6.out)
            have H06 := Lib.hid ((H02.out.below t5).far HG6.out (by simp))
            have HB6b := Lib.hid ((HB2.out.trans (t5.mono HB2.out.size)).grown HG6.out (Nat.le_trans HB2.out.size t5.size) (fun k e => by injection e with e; omega))
            go_roundw
            case rel => exact ⟨j + 1, T.begun z, A2, k2, n2, c2, by simp, by omega, by rw [HN2.out]; exact HG2.out.n, ⟨by have := HCC.out; omega, by have := HCC.out; omega⟩, HN2.out.symm, HC2.out.symm, HG2.out, HX6.out, HB6.out, H06.out, HB6b.out⟩
            case measure => simp [intOf]; omega
          · have HT2 := Lib.hid (HT.out.below hb2)
            have H02 := Lib.hid (H0.out.below hb2)
            have HX2 := Lib.hid (HX.out.below hb2)
            have HB2 := Lib.hid (HBL.out.trans (hb2.mono HBL.out.size))
            have hEb : (E == 0) = false := by simpa using hE
            clear hb2 c0 c1 a0 a1 hE
            go_wp2_with (first | (refine wpList_store_tree rfl (.tmp 7) (.tmp 49) rfl rfl rfl (TB.new w2 none 0 0 0) ?_; intro w5 hb5 hg5; have k0 := hb5.c0; have k1 := hb5.c1; have HB5 := Lib.hid hb5; have HG5 := Lib.hid hg5; have h35 := Lib.hid ((HT2.out.below (below_new w2 (.cells #[.slice none 0 0, .int .i64 0] 26))).far hg5 (by intro e; injection e with e; have := HT2.out.lt; omega)); clear hb5 hg5) | (refine wpList_store_tree rfl (.tmp 3) (.tmp 54) rfl rfl rfl h35.out ?_; intro w6 hb6 hg6; have HB6 := Lib.hid hb6; have HG6 := Lib.hid hg6; clear hb6 hg6) | fail)
            have t5 : Below w2.heap.size w2 w5 := (below_new w2 _).grown HG5.out (by simp) (fun k e => by injection e with e; omega)
            have HX5 := Lib.hid (HX2.out.below t5)
            have H05 := Lib.hid (H02.out.below t5)
            have HB5b := Lib.hid (HB2.out.trans (t5.mono HB2.out.size))
            go_roundw
            case rel => exact ⟨j + 1, T, A, k, n, c, by simp, by omega, by omega, ⟨by omega, by omega⟩, HN.out, HC.out, HG.out, HX5.out, h35.out, H05.out, HB5b.out⟩
            case measure => simp [intOf]; omega
        · have q0b : (q == 0) = false := by simpa using q0
          clear q0
          by_cases q1 : q = 1
          · have q1b : (q == 1) = true := by simpa using q1
            clear q1
            go_wp2_with fail
            refine (begin_any A T n k c z HN.out HG.out HC.out (by omega) wz HX.out).mono ?_
            rintro e w2 ⟨hb2, ⟨hm, A2, k2, nn, hnn, rfl, htx⟩ | ⟨E, hE, _, rfl⟩⟩
            · have HX2 := Lib.hid htx
              have HT2 := Lib.hid (HT.out.below hb2)
              have H02 := Lib.hid (H0.out.below hb2)
              have HB2 := Lib.hid (HBL.out.trans (hb2.mono HBL.out.size))
              have HG2 := Lib.hid (HG.out.begun hm)
              obtain ⟨c2, hc2⟩ : ∃ c2, c2 = (T.begun z).c := ⟨_, rfl⟩
              obtain ⟨n2, hn2⟩ : ∃ n2, n2 = (T.begun z).l.length := ⟨_, rfl⟩
              have HCC := Lib.hid (show c2 = c + 1 by rw [hc2, ← HC.out]; rfl)
              rw [show nn = n2 from by rw [hnn, hn2, len_begun]]
              rw [show T.l.length = n from HN.out]
              rw [← hc2]
              have HC2 := Lib.hid hc2
              have HN2 := Lib.hid hn2
              clear hb2 htx c0 c1 a0 a1 hc2 hn2
              go_wp2_with (first | (refine wpList_store_tree rfl (.tmp 7) (.tmp 49) rfl rfl rfl (TB.new w2 none 0 0 0) ?_; intro w5 hb5 hg5; have k0 := hb5.c0; have k1 := hb5.c1; have HB5 := Lib.hid hb5; have HG5 := Lib.hid hg5; have h35 := Lib.hid ((HT2.out.below (below_new w2 (.cells #[.slice none 0 0, .int .i64 0] 26))).far hg5 (by intro e; injection e with e; have := HT2.out.lt; omega)); clear hb5 hg5) | (refine wpList_store_tree rfl (.tmp 3) (.tmp 54) rfl rfl rfl h35.out ?_; intro w6 hb6 hg6; have HB6 := Lib.hid hb6; have HG6 := Lib.hid hg6; clear hb6 hg6) | fail)
              have t5 : Below w2.heap.size w2 w5 := (below_new w2 _).grown HG5.out (by simp) (fun k e => by injection e with e; omega)
              have HX6 := Lib.hid ((HX2.out.below t5).box h35.out HG6.out)
              have H06 := Lib.hid ((H02.out.below t5).far HG6.out (by simp))
              have HB6b := Lib.hid ((HB2.out.trans (t5.mono HB2.out.size)).grown HG6.out (Nat.le_trans HB2.out.size t5.size) (fun k e => by injection e with e; omega))
              go_roundw
              case rel => exact ⟨j + 1, T.begun z, A2, k2, n2, c2, by simp, by omega, by rw [HN2.out]; exact HG2.out.n, ⟨by have := HCC.out; omega, by have := HCC.out; omega⟩, HN2.out.symm, HC2.out.symm, HG2.out, HX6.out, HB6.out, H06.out, HB6b.out⟩
              case measure => simp [intOf]; omega
            · have HT2 := Lib.hid (HT.out.below hb2)
              have H02 := Lib.hid (H0.out.below hb2)
              have HX2 := Lib.hid (HX.out.below hb2)
              have HB2 := Lib.hid (HBL.out.trans (hb2.mono HBL.out.size))
              have hEb : (E == 0) = false := by simpa using hE
              clear hb2 c0 c1 a0 a1 hE
              go_wp2_with (first | (refine wpList_store_tree rfl (.tmp 7) (.tmp 49) rfl rfl rfl (TB.new w2 none 0 0 0) ?_; intro w5 hb5 hg5; have k0 := hb5.c0; have k1 := hb5.c1; have HB5 := Lib.hid hb5; have HG5 := Lib.hid hg5; have h35 := Lib.hid ((HT2.out.below (below_new w2 (.cells #[.slice none 0 0, .int .i64 0] 26))).far hg5 (by intro e; injection e with e; have := HT2.out.lt; omega)); clear hb5 hg5) | (refine wpList_store_tree rfl (.tmp 3) (.tmp 54) rfl rfl rfl h35.out ?_; intro w6 hb6 hg6; have HB6 := Lib.hid hb6; have HG6 := Lib.hid hg6; clear hb6 hg6) | fail)
              have t5 : Below w2.heap.size w2 w5 := (below_new w2 _).grown HG5.out (by simp) (fun k e => by injection e with e; omega)
              have HX5 := Lib.hid (HX2.out.below t5)
              have H05 := Lib.hid (H02.out.below t5)
              have HB5b := Lib.hid (HB2.out.trans (t5.mono HB2.out.size))
              go_roundw
              case rel => exact ⟨j + 1, T, A, k, n, c, by simp, by omega, by omega, ⟨by omega, by omega⟩, HN.out, HC.out, HG.out, HX5.out, h35.out, H05.out, HB5b.out⟩
              case measure => simp [intOf]; omega
          · have q1b : (q == 1) = false := by simpa using q1
            clear q1
            by_cases q2 : q = 2
            · have q2b : (q == 2) = true := by simpa using q2
              clear q2
              go_wp2_with fail
              refine (commit_any A T n k c z HN.out HG.out HC.out (by omega) wz HX.out).mono ?_
              rintro e w2 ⟨hb2, ⟨ci, rfl, hm, A2, k2, nn, hnn, rfl, htx⟩ | ⟨E, hE, _, rfl⟩⟩
              · have HX2 := Lib.hid htx
                have HT2 := Lib.hid (HT.out.below hb2)
                have H02 := Lib.hid (H0.out.below hb2)
                have HB2 := Lib.hid (HBL.out.trans (hb2.mono HBL.out.size))
                have HG2 := Lib.hid (HG.out.done hm)
                obtain ⟨c2, hc2⟩ : ∃ c2, c2 = (T.done ci).c := ⟨_, rfl⟩
                obtain ⟨n2, hn2⟩ : ∃ n2, n2 = (T.done ci).l.length := ⟨_, rfl⟩
                have HCC := Lib.hid (show c2 = c + 1 by rw [hc2, ← HC.out]; rfl)
                rw [show nn = n2 from by rw [hnn, hn2]; unfold Tr.done; rw [len_turned]]
                rw [← hc2]
                have HC2 := Lib.hid hc2
                have HN2 := Lib.hid hn2
                clear hb2 htx c0 c1 a0 a1 hc2 hn2
                go_wp2_with (first | (refine wpList_store_tree rfl (.tmp 10) (.tmp 61) rfl rfl rfl (TB.new w2 none 0 0 0) ?_; intro w5 hb5 hg5; have k0 := hb5.c0; have k1 := hb5.c1; have HB5 := Lib.hid hb5; have HG5 := Lib.hid hg5; have h35 := Lib.hid ((HT2.out.below (below_new w2 (.cells #[.slice none 0 0, .int .i64 0] 26))).far hg5 (by intro e; injection e with e; have := HT2.out.lt; omega)); clear hb5 hg5) | (refine wpList_store_tree rfl (.tmp 3) (.tmp 65) rfl rfl rfl h35.out ?_; intro w6 hb6 hg6; have HB6 := Lib.hid hb6; have HG6 := Lib.hid hg6; clear hb6 hg6) | fail)
                have t5 : Below w2.heap.size w2 w5 := (below_new w2 _).grown HG5.out (by simp) (fun k e => by injection e with e; omega)
                have HX6 := Lib.hid ((HX2.out.below t5).box h35.out HG6.out)
                have H06 := Lib.hid ((H02.out.below t5).far HG6.out (by simp))
                have HB6b := Lib.hid ((HB2.out.trans (t5.mono HB2.out.size)).grown HG6.out (Nat.le_trans HB2.out.size t5.size) (fun k e => by injection e with e; omega))
                go_roundw
                case rel => exact ⟨j + 1, T.done ci, A2, k2, n2, c2, by simp, by omega, by rw [HN2.out]; exact HG2.out.n, ⟨by have := HCC.out; omega, by have := HCC.out; omega⟩, HN2.out.symm, HC2.out.symm, HG2.out, HX6.out, HB6.out, H06.out, HB6b.out⟩
                case measure => simp [intOf]; omega
              · have HT2 := Lib.hid (HT.out.below hb2)
                have H02 := Lib.hid (H0.out.below hb2)
                have HX2 := Lib.hid (HX.out.below hb2)
                have HB2 := Lib.hid (HBL.out.trans (hb2.mono HBL.out.size))
                have hEb : (E == 0) = false := by simpa using hE
                clear hb2 c0 c1 a0 a1 hE
                go_wp2_with (first | (refine wpList_store_tree rfl (.tmp 10) (.tmp 61) rfl rfl rfl (TB.new w2 none 0 0 0) ?_; intro w5 hb5 hg5; have k0 := hb5.c0; have k1 := hb5.c1; have HB5 := Lib.hid hb5; have HG5 := Lib.hid hg5; have h35 := Lib.hid ((HT2.out.below (below_new w2 (.cells #[.slice none 0 0, .int .i64 0] 26))).far hg5 (by intro e; injection e with e; have := HT2.out.lt; omega)); clear hb5 hg5) | (refine wpList_store_tree rfl (.tmp 3) (.tmp 65) rfl rfl rfl h35.out ?_; intro w6 hb6 hg6; have HB6 := Lib.hid hb6; have HG6 := Lib.hid hg6; clear hb6 hg6) | fail)
                have t5 : Below w2.heap.size w2 w5 := (below_new w2 _).grown HG5.out (by simp) (fun k e => by injection e with e; omega)
                have HX5 := Lib.hid (HX2.out.below t5)
                have H05 := Lib.hid (H02.out.below t5)
                have HB5b := Lib.hid (HB2.out.trans (t5.mono HB2.out.size))
                go_roundw
                case rel => exact ⟨j + 1, T, A, k, n, c, by simp, by omega, by omega, ⟨by omega, by omega⟩, HN.out, HC.out, HG.out, HX5.out, h35.out, H05.out, HB5b.out⟩
                case measure => simp [intOf]; omega
            · have q2b : (q == 2) = false := by simpa using q2
              clear q2
              by_cases q3 : q = 3
              · have q3b : (q == 3) = true := by simpa using q3
                clear q3
                go_wp2_with fail
                refine (abort_any A T n k c z HN.out HG.out HC.out (by omega) wz HX.out).mono ?_
                rintro e w2 ⟨hb2, ⟨ci, rfl, hci, hcs, A2, k2, nn, B2, kb2, m2, hnn, hm2, rfl, htx, _⟩ | ⟨E, hE, _, rfl⟩⟩
                · have HX2 := Lib.hid htx
                  have HT2 := Lib.hid (HT.out.below hb2)
                  have H02 := Lib.hid (H0.out.below hb2)
                  have HB2 := Lib.hid (HBL.out.trans (hb2.mono HBL.out.size))
                  have HG2 := Lib.hid (HG.out.undone (id := ci))
                  obtain ⟨c2, hc2⟩ : ∃ c2, c2 = (T.undone ci).c := ⟨_, rfl⟩
                  obtain ⟨n2, hn2⟩ : ∃ n2, n2 = (T.undone ci).l.length := ⟨_, rfl⟩
                  have HCC := Lib.hid (show c2 = c + 1 by rw [hc2, ← HC.out]; rfl)
                  rw [show nn = n2 from by rw [hnn, hn2]; unfold Tr.undone; rw [len_turned]]
                  rw [← hc2]
                  have HC2 := Lib.hid hc2
                  have HN2 := Lib.hid hn2
                  clear hb2 htx c0 c1 a0 a1 hc2 hn2
                  go_wp2_with (first | (refine wpList_store_tree rfl (.tmp 12) (.tmp 72) rfl rfl rfl (TB.new w2 none 0 0 0) ?_; intro w5 hb5 hg5; have k0 := hb5.c0; have k1 := hb5.c1; have HB5 := Lib.hid hb5; have HG5 := Lib.hid hg5; have h35 := Lib.hid ((HT2.out.below (below_new w2 (.cells #[.slice none 0 0, .int .i64 0] 26))).far hg5 (by intro e; injection e with e; have := HT2.out.lt; omega)); clear hb5 hg5) | (refine wpList_store_tree rfl (.tmp 3) (.tmp 77) rfl rfl rfl h35.out ?_; intro w6 hb6 hg6; have HB6 := Lib.hid hb6; have HG6 := Lib.hid hg6; clear hb6 hg6) | fail)
                  have t5 : Below w2.heap.size w2 w5 := (below_new w2 _).grown HG5.out (by simp) (fun k e => by injection e with e; omega)
                  have HX6 := Lib.hid ((HX2.out.below t5).box h35.out HG6.out)
                  have H06 := Lib.hid ((H02.out.below t5).far HG6.out (by simp))
                  have HB6b := Lib.hid ((HB2.out.trans (t5.mono HB2.out.size)).grown HG6.out (Nat.le_trans HB2.out.size t5.size) (fun k e => by injection e with e; omega))
                  go_roundw
                  case rel => exact ⟨j + 1, T.undone ci, A2, k2, n2, c2, by simp, by omega, by rw [HN2.out]; exact HG2.out.n, ⟨by have := HCC.out; omega, by have := HCC.out; omega⟩, HN2.out.symm, HC2.out.symm, HG2.out, HX6.out, HB6.out, H06.out, HB6b.out⟩
                  case measure => simp [intOf]; omega
                · have HT2 := Lib.hid (HT.out.below hb2)
                  have H02 := Lib.hid (H0.out.below hb2)
                  have HX2 := Lib.hid (HX.out.below hb2)
                  have HB2 := Lib.hid (HBL.out.trans (hb2.mono HBL.out.size))
                  have hEb : (E == 0) = false := by simpa using hE
                  clear hb2 c0 c1 a0 a1 hE
                  go_wp2_with (first | (refine wpList_store_tree rfl (.tmp 12) (.tmp 72) rfl rfl rfl (TB.new w2 none 0 0 0) ?_; intro w5 hb5 hg5; have k0 := hb5.c0; have k1 := hb5.c1; have HB5 := Lib.hid hb5; have HG5 := Lib.hid hg5; have h35 := Lib.hid ((HT2.out.below (below_new w2 (.cells #[.slice none 0 0, .int .i64 0] 26))).far hg5 (by intro e; injection e with e; have := HT2.out.lt; omega)); clear hb5 hg5) | (refine wpList_store_tree rfl (.tmp 3) (.tmp 77) rfl rfl rfl h35.out ?_; intro w6 hb6 hg6; have HB6 := Lib.hid hb6; have HG6 := Lib.hid hg6; clear hb6 hg6) | fail)
                  have t5 : Below w2.heap.size w2 w5 := (below_new w2 _).grown HG5.out (by simp) (fun k e => by injection e with e; omega)
                  have HX5 := Lib.hid (HX2.out.below t5)
                  have H05 := Lib.hid (H02.out.below t5)
                  have HB5b := Lib.hid (HB2.out.trans (t5.mono HB2.out.size))
                  go_roundw
                  case rel => exact ⟨j + 1, T, A, k, n, c, by simp, by omega, by omega, ⟨by omega, by omega⟩, HN.out, HC.out, HG.out, HX5.out, h35.out, H05.out, HB5b.out⟩
                  case measure => simp [intOf]; omega
              · have q3b : (q == 3) = false := by simpa using q3
                clear q3
                go_wp2
                go_roundw
                case rel => exact ⟨j + 1, T, A, k, n, c, by simp, by omega, by omega, ⟨by omega, by omega⟩, HN.out, HC.out, HG.out, HX.out, HT.out, H0.out, HBL.out⟩
                case measure => simp [intOf]; omega
    · obtain rfl : j = len := by omega
      go_wp2_with (first | (refine wpList_store_tree rfl (.tmp 2) (.tmp 78) rfl rfl rfl H0.out ?_; intro w5 hb5 hg5; have HB5 := Lib.hid hb5; have HG5 := Lib.hid hg5; clear hb5 hg5) | fail)
      refine bodyPost_ret (results_tree rfl _ rfl HB5.out) rfl ?_
      exact ⟨A, k, n, c, T, rfl, HN.out, HC.out, by omega, HG.out, HX.out.box H0.out HG5.out, HBL.out.grown HG5.out HBL.out.size (fun k e => by injection e with e; omega)⟩

end Go.Proofs.Ytohnfjneghbceaa
