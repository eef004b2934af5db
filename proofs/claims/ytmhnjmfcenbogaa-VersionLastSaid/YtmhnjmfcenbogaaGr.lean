/-
  Transactions and a table, grown by things that are done; over what the program's calls are asked for.
-/
import Derived.Test.YtmhnjmfcenbogaaRt
namespace Go.Proofs.Ytmhnjmfcenbogaa
set_option maxRecDepth 100000
set_option linter.unusedVariables false
set_option linter.unusedSimpArgs false
open Go.RowKit
theorem and_mask (n : Int) (m : Int) (k : Nat) (hm : (BitVec.ofInt 64 m).toNat = 2 ^ k - 1) (hk : k ≤ 62) : bits .and .i64 n m = n % ((2 ^ k : Nat) : Int) := by
  have key : (BitVec.ofInt 64 n &&& BitVec.ofInt 64 m).toNat = (n % ((2 ^ 64 : Nat) : Int)).toNat % 2 ^ k := by
    rw [BitVec.toNat_and, BitVec.toNat_ofInt, hm, Nat.and_two_pow_sub_one_eq_mod]
  show IntKind.i64.wrap ((BitVec.ofInt 64 n &&& BitVec.ofInt 64 m).toNat : Nat) = _
  have hp : (2 ^ k : Nat) ∣ 2 ^ 64 := Nat.pow_dvd_pow 2 (by omega)
  have hpos : 0 < 2 ^ k := Nat.two_pow_pos k
  have hle : 2 ^ k ≤ 2 ^ 62 := Nat.pow_le_pow_right (by omega) hk
  have h64 : n % ((2 ^ 64 : Nat) : Int) % ((2 ^ k : Nat) : Int) = n % ((2 ^ k : Nat) : Int) := Int.emod_emod_of_dvd n (by exact_mod_cast hp)
  rw [key, IntKind.wrap_i64]
  generalize 2 ^ k = K at *
  have g0 : 0 ≤ n % ((2 ^ 64 : Nat) : Int) := Int.emod_nonneg n (by decide)
  have e1 : (((n % ((2 ^ 64 : Nat) : Int)).toNat % K : Nat) : Int) = n % (K : Int) := by
    rw [Int.natCast_emod, Int.toNat_of_nonneg g0, h64]
  rw [e1]
  have g1 := Int.emod_nonneg n (b := (K : Int)) (by omega)
  have g2 := Int.emod_lt_of_pos n (b := (K : Int)) (by omega)
  omega
theorem low (n m : Int) (k : Nat) (hm : (BitVec.ofInt 64 m).toNat = 2 ^ k - 1) (hk : k ≤ 62) : ∃ x : Nat, x < 2 ^ k ∧ bits .and .i64 n m = (x : Int) := by
  have hpos : 0 < 2 ^ k := Nat.two_pow_pos k
  have g1 := Int.emod_nonneg n (b := ((2 ^ k : Nat) : Int)) (by omega)
  have g2 := Int.emod_lt_of_pos n (b := ((2 ^ k : Nat) : Int)) (by omega)
  exact ⟨(n % ((2 ^ k : Nat) : Int)).toNat, by omega, by rw [and_mask n m k hm hk]; omega⟩

theorem gr0 : Gf ⟨[], 0⟩ ⟨List.replicate 4 zV, []⟩ 0 0 0 := ⟨good_nil, rfl, rfl, Int.le_refl _, ⟨⟨by simp, by simp [zV], by simp, List.Pairwise.nil⟩, by simp, by simp⟩, by simp⟩
set_option maxHeartbeats 8000000 in
theorem grown_any (hW : WriteOk) (hP : PassOk) (hF : FreeOk) (a : Option Addr) (len cap : Nat) (q : Nat → Ac) (hlen : len ≤ 150) (w : World) (hacts : Acts w a len q) :
    Calls Try.prog 9 #[.slice a len cap] w fun e w' => ∃ A n k c T A1 n1 a1 B1 m1 b1 t, e = .returned (.tuple #[.agg (txC2 A n k c), vtV A1 n1 a1 B1 m1 b1]) ∧ Gf T t n c 150 ∧ TxAt w' A T.l ∧ VtAt RVo w' A1 n1 a1 B1 m1 b1 t ∧ (∀ g, w'.heap.size ≤ g → Away A1 B1 g) ∧ n ≤ k ∧ Below w.heap.size w w' := by
  have HWR := Lib.hid hW
  have HPS := Lib.hid hP
  have HFR := Lib.hid hF
  have HACT := Lib.hid hacts
  have HLEN := Lib.hid hlen
  obtain ⟨wa, hwa⟩ : ∃ wa, wa = ((w.alloc (.cells (txC2 none 0 0 0) 26)).alloc (.cells (vtC none 0 0 none 0 0) 30)).alloc (.cells (txC2 none 0 0 0) 26) := ⟨_, rfl⟩
  have h0 := ((Bk.new w (txC2 none 0 0 0) 26).al (.cells (vtC none 0 0 none 0 0) 30)).al (.cells (txC2 none 0 0 0) 26)
  have h1 := (Bk.new (w.alloc (.cells (txC2 none 0 0 0) 26)) (vtC none 0 0 none 0 0) 30).al (.cells (txC2 none 0 0 0) 26)
  rw [size_al] at h1
  have h2 := Bk.new ((w.alloc (.cells (txC2 none 0 0 0) 26)).alloc (.cells (vtC none 0 0 none 0 0) 30)) (txC2 none 0 0 0) 26
  rw [size_al, size_al] at h2
  have hb := below_two (below_two (below_new w (.cells (txC2 none 0 0 0) 26)) (below_new _ (.cells (vtC none 0 0 none 0 0) 30))) (below_new _ (.cells (txC2 none 0 0 0) 26))
  rw [← hwa] at h0 h1 h2 hb
  have H0 := Lib.hid h0
  have H1 := Lib.hid h1
  have H2 := Lib.hid h2
  have HB := Lib.hid hb
  clear hW hP hF hacts hlen h0 h1 h2 hb
  go_enter Try.func9, Try.ntmps9
  go_upto_region 2 with fail
  rw [← hwa]
  clear hwa
  obtain ⟨g2, hg2⟩ : ∃ g2, g2 = w.heap.size + 1 + 1 := ⟨_, rfl⟩
  rw [← hg2] at H2
  try rw [← hg2]
  have HG2 := Lib.hid hg2
  clear hg2
  go_wp2_with fail
  refine (blank_any 4 (by omega) wa).mono ?_
  rintro e wb ⟨A1, a1, rfl, ht1, hab, hv1⟩
  have hlt : ∀ b o, A1 = some ⟨b, o, none⟩ → wa.heap.size ≤ b ∧ b < wb.heap.size := fun b o e => ⟨hab b o e, by
    obtain ⟨ss, hss⟩ := ht1.base
    rcases hss.at_.lt b o e with h | h
    · have := hss.l; rw [h] at this; simp at this
    · exact h⟩
  go_upto_region 3 with fail
  obtain ⟨g3, hg3⟩ : ∃ g, g = wb.heap.size := ⟨_, rfl⟩
  obtain ⟨wd, hwd⟩ : ∃ q, q = wb.alloc (.cells (vtC A1 4 a1 none 0 0) 30) := ⟨_, rfl⟩
  have hbd : Below wa.heap.size wa wd := by rw [hwd]; exact below_two hv1 (below_new _ _)
  have hsz : wd.heap.size = wb.heap.size + 1 := by rw [hwd]; simp
  have HGS := Lib.hid (show Gs wd w.heap.size (w.heap.size + 1) g2 g3 none 0 0 0 ⟨[], 0⟩ A1 4 a1 none 0 0 ⟨List.replicate 4 zV, []⟩ from
    ⟨.inl ⟨rfl, rfl⟩, H2.out.below hbd, by rw [hwd, hg3]; exact Bk.new _ _ _, ht1.below (by rw [hwd]; exact below_new _ _), H0.out.below hbd, H1.out.below hbd,
      ⟨fun b o e => by have h1 := (hlt b o e).1; have h2 := H0.out.lt; omega, fun b o e => by cases e⟩, ⟨fun b o e => by have h1 := (hlt b o e).1; have h2 := H1.out.lt; omega, fun b o e => by cases e⟩,
      ⟨fun b o e => by have h1 := (hlt b o e).1; have h2 := H2.out.lt; omega, fun b o e => by cases e⟩, ⟨fun b o e => by have h1 := (hlt b o e).2; omega, fun b o e => by cases e⟩,
      fun g hg => ⟨fun b o e => by have h1 := (hlt b o e).2; omega, fun b o e => by cases e⟩, Nat.le_refl _⟩)
  have HBd := Lib.hid (HB.out.trans (hbd.mono HB.out.size))
  have HNE := Lib.hid (show (w.heap.size ≠ g2 ∧ w.heap.size + 1 ≠ g2 ∧ g3 ≠ g2) ∧ (w.heap.size ≠ g3 ∧ w.heap.size + 1 ≠ g3 ∧ g2 ≠ g3) ∧ w.heap.size ≤ g2 ∧ w.heap.size ≤ g3 by have h1 := HG2.out; have h2 := H2.out.lt; have h3 := hv1.size; omega)
  rw [← hg3, ← hwd]
  clear hg3 hwd hbd hsz ht1 hab hv1 hlt H0 H1 H2 HB
  go_wp2_with fail
  go_loopw [6] (fun iv wr => ∃ (j : Nat) (T : Tr) (t : Vt) (A : Option Addr) (n k : Nat) (c : Int) (A1 : Option Addr) (n1 a1 : Nat) (B1 : Option Addr) (m1 b1 : Nat), iv = .int .i64 (j : Int) ∧ j ≤ len ∧ Hid (Gf T t n c j) ∧ Hid (Gs wr w.heap.size (w.heap.size + 1) g2 g3 A n k c T A1 n1 a1 B1 m1 b1 t) ∧ Hid (Below w.heap.size w wr)) (fun iv _ => len - (intOf iv).toNat)
  case atStart => exact ⟨0, _, _, none, 0, 0, 0, A1, 4, a1, none, 0, 0, rfl, Nat.zero_le _, Lib.hid gr0, HGS, HBd⟩
  case round =>
    obtain ⟨j, T, t, A, n, k, c, A1, n1, a1, B1, m1, b1, rfl, hj, HF, HS, HBj⟩ := hrel
    clear HGS HBd
    have hln : len ≤ 150 := HLEN.out
    have hn : n ≤ 64 := HF.out.n64
    have hcj : 0 ≤ c ∧ c ≤ j := ⟨by have := HF.out.good.c0; have := HF.out.cl; omega, HF.out.cj⟩
    rcases Nat.lt_or_ge j len with hlt | hge
    · obtain ⟨ab, ao, hae, hab, hcell⟩ : ∃ b o, a = some ⟨b, o, none⟩ ∧ b < w.heap.size ∧ ∀ i, i < len → w.cell? ⟨b, o + i * 4, none⟩ = some (.int .i64 (q i).w) ∧ w.cell? ⟨b, o + i * 4 + 1, none⟩ = some (.int .i64 (q i).x) ∧ w.cell? ⟨b, o + i * 4 + 2, none⟩ = some (.int .i64 (q i).k) ∧ w.cell? ⟨b, o + i * 4 + 3, none⟩ = some (byV (q i).b) := by
        rcases HACT.out with h | h
        · omega
        · exact h
      subst hae
      obtain ⟨f0, f1, f2, f3⟩ := hcell j hlt
      have a0 := (HBj.out.cell (p := ⟨ab, ao + j * 4, none⟩) hab).trans f0
      have a1' := (HBj.out.cell (p := ⟨ab, ao + j * 4 + 1, none⟩) hab).trans f1
      have a2 := (HBj.out.cell (p := ⟨ab, ao + j * 4 + 2, none⟩) hab).trans f2
      have a3 := (HBj.out.cell (p := ⟨ab, ao + j * 4 + 3, none⟩) hab).trans f3
      generalize q j = qq at *
      obtain ⟨qw, u, v, yb⟩ := qq
      simp only at a0 a1' a2 a3
      have hd4 : decide ((j : Int) < (len : Int)) = true := decide_eq_true (by omega)
      have hd5 : decide (j < len) = true := decide_eq_true hlt
      have hi1 : (j : Int) < (len : Int) := by omega
      have HAB := Lib.hid hab
      have HA2 := Lib.hid a2
      have HA3 := Lib.hid a3
      clear f0 f1 f2 f3 hcell hab a2 a3
      obtain ⟨wz, hwz⟩ : ∃ wz, wz = wr := ⟨_, rfl⟩
      subst hwz
      have c0 : wz.cell? ⟨g2, 0, none⟩ = some (.slice A n k) := HS.out.bx.c 0 _ rfl
      go_upto_if 31 with fail
      go_cut [8] from 21 to 125 (fun iv wc => ∃ z : Int, iv = .int .i64 z ∧ (-1 ≤ z ∧ z < n) ∧ wc = wz)
      case first =>
        rcases (show n = 0 ∨ 0 < n by omega) with rfl | hpos
        · go_wp2_with fail
          go_meet
          case rel => exact ⟨-1, rfl, by omega, rfl⟩
        · obtain ⟨x, hx, hlow⟩ := low u 65535 16 (by decide) (by omega)
          have hx2 : x < 65536 := hx
          obtain ⟨y, hy⟩ : ∃ y : Nat, y = x % (n + 1) := ⟨_, rfl⟩
          have hyn : y < n + 1 := by rw [hy]; exact Nat.mod_lt _ (by omega)
          have hmod : (x : Int) % ((n : Int) + 1) = (y : Int) := by rw [hy]; simp
          have hmod2 : Int.tmod (x : Int) ((n : Int) + 1) = (y : Int) := by rw [Int.tmod_eq_emod_of_nonneg (by omega)]; exact hmod
          have hw1 : IntKind.i64.wrap ((n : Int) + 1) = (n : Int) + 1 := by simp [IntKind.wrap, IntKind.bits, IntKind.signed]; omega
          have hw2 : IntKind.i64.wrap ((y : Int) - 1) = (y : Int) - 1 := by simp [IntKind.wrap, IntKind.bits, IntKind.signed]; omega
          have hw3 : IntKind.i64.wrap (y : Int) = (y : Int) := by simp [IntKind.wrap, IntKind.bits, IntKind.signed]; omega
          have hnz : ((n : Int) + 1 == 0) = false := by simp; omega
          have hnz2 : ¬ (n : Int) + 1 = 0 := by omega
          have hposi : (0 : Int) < (n : Int) := by omega
          clear hx hy hx2
          go_wp2_with fail
          go_meet
          case rel => exact ⟨(y : Int) - 1, rfl, by omega, rfl⟩
      case rest =>
        obtain ⟨z, rfl, hz, hw⟩ := hcut
        replace hw := hw.symm
        subst hw
        have HZ := Lib.hid hz
        have c1 : wz.cell? ⟨g2, 1, none⟩ = some (.int .i64 c) := HS.out.bx.c 1 _ rfl
        have hdj : j < len := hlt
        by_cases q0 : qw = 0
        · have q0b : (qw == 0) = true := by simpa using q0
          clear q0
          go_wp2_with fail
          refine (begin_any A T n k c z HF.out.nl HF.out.good HF.out.cl (by omega) wz HS.out.x).mono ?_
          rintro e w2 ⟨hb2, ⟨hm, A2, k2, nn, hnn, rfl, htx, hnk⟩ | ⟨E, hE, _, rfl⟩⟩
          · rw [show nn = n + 1 from by rw [hnn, HF.out.nl], show (T.begun z).c = c + 1 from by show T.c + 1 = _; rw [HF.out.cl]]
            have HF2 := Lib.hid (HF.out.begun hm)
            have HNK := Lib.hid (show n + 1 ≤ k2 by have h9 := HF.out.nl; omega)
            clear hnk
            go_upto_region 17 with fail
            obtain ⟨gn, hgn⟩ : ∃ g, g = w2.heap.size := ⟨_, rfl⟩
            obtain ⟨w5, hw5⟩ : ∃ q, q = w2.alloc (.cells (txC2 A2 (n + 1) k2 (c + 1)) 26) := ⟨_, rfl⟩
            have hb5 : Below w2.heap.size w2 w5 := by rw [hw5]; exact below_new _ _
            have hbn : Bk w5 gn (txC2 A2 (n + 1) k2 (c + 1)) 26 := by rw [hw5, hgn]; exact Bk.new _ _ _
            have HX5 := Lib.hid (htx.below hb5)
            have HS5 := Lib.hid ((HS.out.below hb2).below hb5)
            have HB5 := Lib.hid ((HBj.out.trans (hb2.mono HBj.out.size)).trans (hb5.mono (HBj.out.trans (hb2.mono HBj.out.size)).size))
            rw [← hgn, ← hw5]
            clear hgn hw5 hb5 hb2 htx hnn hm c0 c1 a0 a1'
            have c0 : w5.cell? ⟨gn, 0, none⟩ = some (.slice A2 (n + 1) k2) := hbn.c 0 _ rfl
            have c1 : w5.cell? ⟨gn, 1, none⟩ = some (.int .i64 (c + 1)) := hbn.c 1 _ rfl
            have e0 := HS5.out.bx.fr 0
            have e1 := HS5.out.bx.fr 1
            have e2 : w5.cell? ⟨g2, 0, none⟩ = some (.slice A n k) := HS5.out.bx.c 0 _ rfl
            have e3 : w5.cell? ⟨g2, 1, none⟩ = some (.int .i64 c) := HS5.out.bx.c 1 _ rfl
            clear hbn
            go_wp2_with fail
            go_roundw
            case rel => exact ⟨j + 1, T.begun z, t, A2, n + 1, k2, c + 1, A1, n1, a1, B1, m1, b1, by simp, by omega, HF2, Lib.hid (HS5.out.putX HNE.out.1 HX5.out HNK.out), Lib.hid (HB5.out.trans ((Turn.two g2 (.slice A2 (n + 1) k2) (.int .i64 (c + 1))).below (B := w.heap.size) (fun q h => by have := HNE.out.2.2.1; omega) HB5.out.size))⟩
            case measure => simp [intOf]; omega
          · have hEb : (E == 0) = false := by simpa using hE
            have hw5 := below_new w2 (.cells (txC2 none 0 0 0) 26)
            have HS5 := Lib.hid ((HS.out.below hb2).below hw5)
            have HB5 := Lib.hid ((HBj.out.trans (hb2.mono HBj.out.size)).trans (hw5.mono (HBj.out.trans (hb2.mono HBj.out.size)).size))
            clear hb2 hE hw5 c0 c1 a0 a1'
            go_wp2_with fail
            go_roundw
            case rel => exact ⟨j + 1, T, t, A, n, k, c, A1, n1, a1, B1, m1, b1, by simp, by omega, Lib.hid HF.out.stay, HS5, HB5⟩
            case measure => simp [intOf]; omega
        by_cases q1 : qw = 1
        · have q0b : (qw == 0) = false := by simpa using q0
          have q1b : (qw == 1) = true := by simpa using q1
          clear q0 q1
          go_wp2_with fail
          refine (begin_any A T n k c z HF.out.nl HF.out.good HF.out.cl (by omega) wz HS.out.x).mono ?_
          rintro e w2 ⟨hb2, ⟨hm, A2, k2, nn, hnn, rfl, htx, hnk⟩ | ⟨E, hE, _, rfl⟩⟩
          · rw [show nn = n + 1 from by rw [hnn, HF.out.nl], show (T.begun z).c = c + 1 from by show T.c + 1 = _; rw [HF.out.cl]]
            have HF2 := Lib.hid (HF.out.begun hm)
            have HNK := Lib.hid (show n + 1 ≤ k2 by have h9 := HF.out.nl; omega)
            clear hnk
            go_upto_region 17 with fail
            obtain ⟨gn, hgn⟩ : ∃ g, g = w2.heap.size := ⟨_, rfl⟩
            obtain ⟨w5, hw5⟩ : ∃ q, q = w2.alloc (.cells (txC2 A2 (n + 1) k2 (c + 1)) 26) := ⟨_, rfl⟩
            have hb5 : Below w2.heap.size w2 w5 := by rw [hw5]; exact below_new _ _
            have hbn : Bk w5 gn (txC2 A2 (n + 1) k2 (c + 1)) 26 := by rw [hw5, hgn]; exact Bk.new _ _ _
            have HX5 := Lib.hid (htx.below hb5)
            have HS5 := Lib.hid ((HS.out.below hb2).below hb5)
            have HB5 := Lib.hid ((HBj.out.trans (hb2.mono HBj.out.size)).trans (hb5.mono (HBj.out.trans (hb2.mono HBj.out.size)).size))
            rw [← hgn, ← hw5]
            clear hgn hw5 hb5 hb2 htx hnn hm c0 c1 a0 a1'
            have c0 : w5.cell? ⟨gn, 0, none⟩ = some (.slice A2 (n + 1) k2) := hbn.c 0 _ rfl
            have c1 : w5.cell? ⟨gn, 1, none⟩ = some (.int .i64 (c + 1)) := hbn.c 1 _ rfl
            have e0 := HS5.out.bx.fr 0
            have e1 := HS5.out.bx.fr 1
            have e2 : w5.cell? ⟨g2, 0, none⟩ = some (.slice A n k) := HS5.out.bx.c 0 _ rfl
            have e3 : w5.cell? ⟨g2, 1, none⟩ = some (.int .i64 c) := HS5.out.bx.c 1 _ rfl
            clear hbn
            go_wp2_with fail
            go_roundw
            case rel => exact ⟨j + 1, T.begun z, t, A2, n + 1, k2, c + 1, A1, n1, a1, B1, m1, b1, by simp, by omega, HF2, Lib.hid (HS5.out.putX HNE.out.1 HX5.out HNK.out), Lib.hid (HB5.out.trans ((Turn.two g2 (.slice A2 (n + 1) k2) (.int .i64 (c + 1))).below (B := w.heap.size) (fun q h => by have := HNE.out.2.2.1; omega) HB5.out.size))⟩
            case measure => simp [intOf]; omega
          · have hEb : (E == 0) = false := by simpa using hE
            have hw5 := below_new w2 (.cells (txC2 none 0 0 0) 26)
            have HS5 := Lib.hid ((HS.out.below hb2).below hw5)
            have HB5 := Lib.hid ((HBj.out.trans (hb2.mono HBj.out.size)).trans (hw5.mono (HBj.out.trans (hb2.mono HBj.out.size)).size))
            clear hb2 hE hw5 c0 c1 a0 a1'
            go_wp2_with fail
            go_roundw
            case rel => exact ⟨j + 1, T, t, A, n, k, c, A1, n1, a1, B1, m1, b1, by simp, by omega, Lib.hid HF.out.stay, HS5, HB5⟩
            case measure => simp [intOf]; omega
        by_cases q2 : qw = 2
        · have q0b : (qw == 0) = false := by simpa using q0
          have q1b : (qw == 1) = false := by simpa using q1
          have q2b : (qw == 2) = true := by simpa using q2
          clear q0 q1 q2
          go_wp2_with fail
          refine (commit_any A T n k c z HF.out.nl HF.out.good HF.out.cl (by omega) wz HS.out.x).mono ?_
          rintro e w2 ⟨hb2, ⟨i, hzi, hm, A2, k2, nn, hnn, rfl, htx, hnk⟩ | ⟨E, hE, _, rfl⟩⟩
          · subst hzi
            rw [show nn = n from by rw [hnn, HF.out.nl], show (T.done i).c = c + 1 from by show T.c + 1 = _; rw [HF.out.cl]]
            have hin : i < n := by rw [← HF.out.nl]; exact hm.lt
            have hin2 : (i : Int) < (n : Int) := by omega
            have HF2 := Lib.hid (HF.out.done hm)
            have HNK := Lib.hid (show n ≤ k2 by have h9 := HF.out.nl; omega)
            clear hnk
            obtain ⟨p, hp⟩ : ∃ p, (T.tx i).p = p := ⟨_, rfl⟩
            have HPB := Lib.hid (show -1 ≤ p ∧ p < (n : Int) by rw [← hp]; exact HF.out.par hin)
            have HIN := Lib.hid hin
            go_upto_region 22 with fail
            obtain ⟨gn, hgn⟩ : ∃ g, g = w2.heap.size := ⟨_, rfl⟩
            obtain ⟨w5, hw5⟩ : ∃ q, q = w2.alloc (.cells (txC2 A2 n k2 (c + 1)) 26) := ⟨_, rfl⟩
            have hb5 : Below w2.heap.size w2 w5 := by rw [hw5]; exact below_new _ _
            have HN5 := Lib.hid (show Bk w5 gn (txC2 A2 n k2 (c + 1)) 26 by rw [hw5, hgn]; exact Bk.new _ _ _)
            have HX5 := Lib.hid (htx.below hb5)
            have HS5 := Lib.hid ((HS.out.below hb2).below hb5)
            have HB5 := Lib.hid ((HBj.out.trans (hb2.mono HBj.out.size)).trans (hb5.mono (HBj.out.trans (hb2.mono HBj.out.size)).size))
            have HGN := Lib.hid (show gn ≠ g3 by have h1 := (HS.out.below hb2).bt.lt; omega)
            rw [← hgn, ← hw5]
            clear hgn hw5 hb5 hb2 htx hnn hm c0 c1 a0 a1'
            obtain ⟨bp, hAe, hbp, pc, _, _, _⟩ := HS5.out.x.get (i := i) (by rw [HF.out.nl]; exact hin)
            subst hAe
            rw [hp] at pc
            have hb3 : bp ≠ g3 := fun e => by
              rcases tx_far HS5.out.x HS5.out.bt bp 0 rfl with h | h
              · have := HF.out.nl; rw [h] at this; simp at this; omega
              · exact h e
            have e0 : ∀ V, Turn (fun q => q = g3) w5 V → V.cell? ⟨bp, i * 4, none⟩ = some (.int .i64 p) := fun V hV => hV.cell pc hb3
            have e1 : ∀ V, Turn (fun q => q = g3) w5 V → V.cell? ⟨g2, 0, none⟩ = some (.slice (some ⟨bp, 0, none⟩) n k) := fun V hV => (HS5.out.bx.turn hV HNE.out.2.1.2.2).c 0 _ rfl
            have e2 : (World.drew w5).cell? ⟨g3, 0, none⟩ = some (.slice A1 n1 a1) := HS5.out.bt.v0
            have e3 : (World.drew w5).cell? ⟨g3, 1, none⟩ = some (.slice B1 m1 b1) := HS5.out.bt.v1
            have e4 := HS5.out.bt.v0
            have e5 := HS5.out.bt.v1
            clear pc hb3 hp
            have HSD := Lib.hid (HS5.out.below (V := World.drew w5) ((Below.refl _ _).drew))
            have HPC := Lib.hid (HPS.out A1 B1 n1 a1 m1 b1 t (i : Int) p (World.drew w5) HSD.out.t HF.out.v.s (by have := HF.out.l; omega) (by unfold okI; omega) (by unfold okI; have := HPB.out; omega) (by have := HPB.out; omega))
            refine wp_region_turn (X := (fun q => q = g3)) (by kernel_rfl) ?_
            have hS : Turn (fun q => q = g3) w5 (World.drew w5) := (Turn.refl _ _).drew
            refine wpAnyH_take (i := 1) (oi := ⟨some 102, _, _, _, _, _⟩) (v := ?_) rfl (by kernel_rfl) (by kernel_rfl) (by kernel_rfl) (fun _ _ _ h => h) (Or.inl ⟨by rfl, ?_⟩) hS ?_
            rotate_left
            · intro W hW; go_simp; with_reducible rfl
            try simp only [Act.put, List.setIfInBounds_toArray, List.set_cons_zero, List.set_cons_succ]
            refine wpAnyH_take (i := 2) (oi := ⟨some 103, _, _, _, _, _⟩) (v := ?_) rfl (by kernel_rfl) (by kernel_rfl) (by kernel_rfl) (fun _ _ _ h => h) (Or.inl ⟨by rfl, ?_⟩) hS ?_
            rotate_left
            · intro W hW; go_simp; with_reducible rfl
            try simp only [Act.put, List.setIfInBounds_toArray, List.set_cons_zero, List.set_cons_succ]
            refine wpAnyH_take (i := 3) (oi := ⟨some 104, _, _, _, _, _⟩) (v := ?_) rfl (by kernel_rfl) (by kernel_rfl) (by kernel_rfl) (fun _ _ _ h => h) (Or.inl ⟨by rfl, ?_⟩) hS ?_
            rotate_left
            · intro W hW; go_simp; with_reducible rfl
            try simp only [Act.put, List.setIfInBounds_toArray, List.set_cons_zero, List.set_cons_succ]
            refine wpAnyH_take (i := 4) (oi := ⟨some 105, _, _, _, _, _⟩) (v := ?_) rfl (by kernel_rfl) (by kernel_rfl) (by kernel_rfl) (fun _ _ _ h => h) (Or.inl ⟨by rfl, ?_⟩) hS ?_
            rotate_left
            · intro W hW; go_simp; with_reducible rfl
            try simp only [Act.put, List.setIfInBounds_toArray, List.set_cons_zero, List.set_cons_succ]
            refine wpAnyH_take (i := 5) (oi := ⟨some 106, _, _, _, _, _⟩) (v := ?_) rfl (by kernel_rfl) (by kernel_rfl) (by kernel_rfl) (fun _ _ _ h => h) (Or.inl ⟨by rfl, ?_⟩) hS ?_
            rotate_left
            · intro W hW; go_simp; with_reducible rfl
            try simp only [Act.put, List.setIfInBounds_toArray, List.set_cons_zero, List.set_cons_succ]
            refine wpAnyH_take (i := 6) (oi := ⟨some 107, _, _, _, _, _⟩) (v := ?_) rfl (by kernel_rfl) (by kernel_rfl) (by kernel_rfl) (fun _ _ _ h => h) (Or.inl ⟨by rfl, ?_⟩) hS ?_
            rotate_left
            · intro W hW; go_simp; with_reducible rfl
            try simp only [Act.put, List.setIfInBounds_toArray, List.set_cons_zero, List.set_cons_succ]
            refine wpAnyH_take (i := 7) (oi := ⟨some 108, _, _, _, _, _⟩) (v := ?_) rfl (by kernel_rfl) (by kernel_rfl) (by kernel_rfl) (fun _ _ _ h => h) (Or.inl ⟨by rfl, ?_⟩) hS ?_
            rotate_left
            · intro W hW; go_simp; with_reducible rfl
            try simp only [Act.put, List.setIfInBounds_toArray, List.set_cons_zero, List.set_cons_succ]
            refine wpAnyH_ready (rs := [0]) (by kernel_rfl) (by simp) ?_
            refine AllReadyH.cons (o := ⟨some 101, _, _, _, _, _⟩) rfl (fun Kr hKr => ?_) AllReadyH.nil
            -- operation 0: a step
            try rw [if_pos (by kernel_rfl)]
            go_simp
            show Kr _ _
            refine hKr.out _ _ ?_ (fun _ => ?_)
            · exact hS
            clear hKr Kr
            try simp only [Act.put, List.setIfInBounds_toArray, List.set_cons_zero, List.set_cons_succ]
            refine wpAnyH_ready (rs := [8]) (by kernel_rfl) (by simp) ?_
            refine AllReadyH.cons (o := ⟨some 109, _, _, _, _, _⟩) rfl (fun Kr hKr => ?_) AllReadyH.nil
            -- operation 8: a call
            go_simp
            refine HPC.out.mono ?_
            rintro e w6 ⟨hb6, A6, n6, a6, B6, m6, b6, haw, rfl, ht6⟩
            show Kr _ _
            refine hKr.out _ _ ?_ (fun _ => ?_)
            · exact hS.trans (Turn.ofBelow hb6)
            clear hKr Kr
            replace hS : Turn (fun q => q = g3) w5 w6 := hS.trans (Turn.ofBelow hb6)
            try simp only [Act.put, List.setIfInBounds_toArray, List.set_cons_zero, List.set_cons_succ]
            refine wpAnyH_ready (rs := [9]) (by kernel_rfl) (by simp) ?_
            refine AllReadyH.cons (o := ⟨none, _, _, _, _, _⟩) rfl (fun Kr hKr => ?_) AllReadyH.nil
            -- operation 9: a step
            refine wp_store_bk 30 (.tmp 5) (.tmp 109) rfl g3 (vtC A6 n6 a6 B6 m6 b6) rfl rfl 30 (vtC A1 n1 a1 B1 m1 b1) (HSD.out.bt.below hb6) (by kernel_rfl) rfl (by simp [Value.oneCell']) ?_
            intro w7 hk7 hg7
            show Kr _ _
            refine hKr.out _ _ ?_ (fun _ => ?_)
            · exact hS.grown hg7 (fun q e => by injection e with e; exact .inl e.symm)
            clear hKr Kr
            replace hS : Turn (fun q => q = g3) w5 w7 := hS.grown hg7 (fun q e => by injection e with e; exact .inl e.symm)
            try simp only [Act.put, List.setIfInBounds_toArray, List.set_cons_zero, List.set_cons_succ]
            refine wpAnyH_done (by kernel_rfl) ?_ _
            have hT7 : Turn (fun q => q = g3) w6 w7 := (Turn.refl _ w6).grown hg7 (fun q e => by injection e with e; exact .inl e.symm)
            have hS6 := HSD.out.below hb6
            have hsz6 := hb6.size
            have HS7 := Lib.hid (hS6.setT HNE.out.2.1 hT7 hk7 ht6 (haw _ (.inl ⟨HSD.out.r0.lt, HSD.out.a0⟩)) (haw _ (.inl ⟨HSD.out.r1.lt, HSD.out.a1⟩)) (haw _ (.inl ⟨HSD.out.bx.lt, HSD.out.a2⟩)) (haw _ (.inl ⟨HSD.out.bt.lt, HSD.out.a3⟩)) (fun g hg => haw g (.inr hg)))
            have HF3 := Lib.hid (HF2.out.pass (i : Int) (par := p) HPB.out.2)
            have hN7 := ((HN5.out.below (V := World.drew w5) ((Below.refl _ _).drew)).below hb6).turn hT7 HGN.out
            have HX7 := Lib.hid (((HX5.out.below (V := World.drew w5) ((Below.refl _ _).drew)).below hb6).turn hT7 (tx_far ((HX5.out.below (V := World.drew w5) ((Below.refl _ _).drew)).below hb6) hS6.bt))
            have HB7 := Lib.hid (HB5.out.trans (hS.below (B := w.heap.size) (fun q h => by have := HNE.out.2.2.2; omega) HB5.out.size))
            have c0 : w7.cell? ⟨gn, 0, none⟩ = some (.slice A2 n k2) := hN7.c 0 _ rfl
            have c1 : w7.cell? ⟨gn, 1, none⟩ = some (.int .i64 (c + 1)) := hN7.c 1 _ rfl
            have d0 := HS7.out.bx.fr 0
            have d1 := HS7.out.bx.fr 1
            have d2 : w7.cell? ⟨g2, 0, none⟩ = some (.slice (some ⟨bp, 0, none⟩) n k) := HS7.out.bx.c 0 _ rfl
            have d3 : w7.cell? ⟨g2, 1, none⟩ = some (.int .i64 c) := HS7.out.bx.c 1 _ rfl
            clear e0 e1 e2 e3 e4 e5 hS6 hsz6 hk7 hg7 ht6 haw hb6 hT7 hN7 hS HPC HSD HN5 HX5 HS5
            generalize t.pass (i : Int) p = t7 at *
            go_wp2_with fail
            go_roundw
            case rel => exact ⟨j + 1, T.done i, t7, A2, n, k2, c + 1, A6, n6, a6, B6, m6, b6, by simp, by omega, HF3, Lib.hid (HS7.out.putX HNE.out.1 HX7.out HNK.out), Lib.hid (HB7.out.trans ((Turn.two g2 (.slice A2 n k2) (.int .i64 (c + 1))).below (B := w.heap.size) (fun q h => by have := HNE.out.2.2.1; omega) HB7.out.size))⟩
            case measure => simp [intOf]; omega
          · have hEb : (E == 0) = false := by simpa using hE
            have hw5 := below_new w2 (.cells (txC2 none 0 0 0) 26)
            have HS5 := Lib.hid ((HS.out.below hb2).below hw5)
            have HB5 := Lib.hid ((HBj.out.trans (hb2.mono HBj.out.size)).trans (hw5.mono (HBj.out.trans (hb2.mono HBj.out.size)).size))
            clear hb2 hE hw5 c0 c1 a0 a1'
            go_wp2_with fail
            go_roundw
            case rel => exact ⟨j + 1, T, t, A, n, k, c, A1, n1, a1, B1, m1, b1, by simp, by omega, Lib.hid HF.out.stay, HS5, HB5⟩
            case measure => simp [intOf]; omega
        by_cases q3 : qw = 3
        · have q0b : (qw == 0) = false := by simpa using q0
          have q1b : (qw == 1) = false := by simpa using q1
          have q2b : (qw == 2) = false := by simpa using q2
          have q3b : (qw == 3) = true := by simpa using q3
          clear q0 q1 q2 q3
          go_wp2_with fail
          refine (abort_any A T n k c z HF.out.nl HF.out.good HF.out.cl (by omega) wz HS.out.x).mono ?_
          rintro e w2 ⟨hb2, ⟨i, hzi, hil, hlv, A2, k2, nn, B2, kb, mm, hnn, hmm, rfl, htx, hid, hnk⟩ | ⟨E, hE, _, rfl⟩⟩
          · subst hzi
            rw [show nn = n from by rw [hnn, HF.out.nl], show (T.undone i).c = c + 1 from by show T.c + 1 = _; rw [HF.out.cl]]
            have HML := Lib.hid (show (T.gone i T.l.length).length = mm ∧ mm ≤ 64 by have h1 := gone_len T i T.l.length; have h2 := HF.out.nl; exact ⟨hmm.symm, by omega⟩)
            have HF2 := Lib.hid ((HF.out.undone i).free ((T.gone i T.l.length).map Int.ofNat))
            have HID := Lib.hid hid
            have HNK := Lib.hid (show n ≤ k2 by have h9 := HF.out.nl; omega)
            clear hnk
            have HTX := Lib.hid htx
            have HB2 := Lib.hid hb2
            clear hid htx hb2 hnn hmm hil hlv
            go_upto_region 27 with fail
            obtain ⟨gn, hgn⟩ : ∃ g, g = w2.heap.size := ⟨_, rfl⟩
            obtain ⟨w5, hw5⟩ : ∃ q, q = w2.alloc (.cells (txC2 A2 n k2 (c + 1)) 26) := ⟨_, rfl⟩
            have hb5 : Below w2.heap.size w2 w5 := by rw [hw5]; exact below_new _ _
            have hbn : Bk w5 gn (txC2 A2 n k2 (c + 1)) 26 := by rw [hw5, hgn]; exact Bk.new _ _ _
            have HX5 := Lib.hid (HTX.out.below hb5)
            have HI5 := Lib.hid (HID.out.below hb5)
            have HS5 := Lib.hid ((HS.out.below HB2.out).below hb5)
            have HB5 := Lib.hid ((HBj.out.trans (HB2.out.mono HBj.out.size)).trans (hb5.mono (HBj.out.trans (HB2.out.mono HBj.out.size)).size))
            rw [← hgn, ← hw5]
            clear hgn hw5 hb5 HB2 HTX HID c0 c1 a0 a1'
            have c0 : w5.cell? ⟨gn, 0, none⟩ = some (.slice A2 n k2) := hbn.c 0 _ rfl
            have c1 : w5.cell? ⟨gn, 1, none⟩ = some (.int .i64 (c + 1)) := hbn.c 1 _ rfl
            have e0 := HS5.out.bx.fr 0
            have e1 := HS5.out.bx.fr 1
            have e2 : w5.cell? ⟨g2, 0, none⟩ = some (.slice A n k) := HS5.out.bx.c 0 _ rfl
            have e3 : w5.cell? ⟨g2, 1, none⟩ = some (.int .i64 c) := HS5.out.bx.c 1 _ rfl
            clear hbn
            go_upto_region 28 with fail
            have HS6 := Lib.hid (HS5.out.putX (n' := n) (k' := k2) (c' := c + 1) HNE.out.1 HX5.out HNK.out)
            have HI6 := Lib.hid (id_put HI5.out HS5.out.bx (.slice A2 n k2) (.int .i64 (c + 1)))
            have HB6 := Lib.hid (HB5.out.trans ((Turn.two g2 (.slice A2 n k2) (.int .i64 (c + 1))).below (B := w.heap.size) (fun q h => by have := HNE.out.2.2.1; omega) HB5.out.size))
            generalize (w5.setCell ⟨g2, 0, none⟩ (.slice A2 n k2)).setCell ⟨g2, 1, none⟩ (.int .i64 (c + 1)) = w6 at *
            clear c0 c1 e0 e1 e2 e3 HS5 HX5 HI5 HB5
            have d0 := HS6.out.bt.v0
            have d1 := HS6.out.bt.v1
            have HFC := Lib.hid (HFR.out A1 B1 n1 a1 m1 b1 t B2 mm kb (T.gone i T.l.length) w6 HS6.out.t HF.out.v.s (by have := HF.out.l; omega) HI6.out HML.out.1 (by have := HML.out.2; omega) (fun z hz => by have h1 := (kin_mem (List.mem_filter.1 (show z ∈ (T.kin i T.l.length).filter _ from hz)).1).1; have h2 := HF.out.good.n; omega))
            go_wp2_with fail
            refine HFC.out.mono ?_
            rintro e w7 ⟨hb7, A7, n7, a7, B7, m7, b7, haw, rfl, ht7⟩
            have HS7 := Lib.hid (HS6.out.below hb7)
            have HT7 := Lib.hid ht7
            have HY7 := Lib.hid (⟨haw _ (.inl ⟨HS6.out.r0.lt, HS6.out.a0⟩), haw _ (.inl ⟨HS6.out.r1.lt, HS6.out.a1⟩), haw _ (.inl ⟨HS6.out.bx.lt, HS6.out.a2⟩), haw _ (.inl ⟨HS6.out.bt.lt, HS6.out.a3⟩), fun g hg => haw g (.inr hg)⟩ : Away A7 B7 w.heap.size ∧ Away A7 B7 (w.heap.size + 1) ∧ Away A7 B7 g2 ∧ Away A7 B7 g3 ∧ ∀ g, w7.heap.size ≤ g → Away A7 B7 g)
            have HB7 := Lib.hid (HB6.out.trans (hb7.mono HB6.out.size))
            clear hb7 haw ht7 HFC HS6 HI6 HB6 d0 d1
            have d0 := HS7.out.bt.v0
            have d1 := HS7.out.bt.v1
            have e0 := HS7.out.bt.fr 0
            have e1 := HS7.out.bt.fr 1
            go_wp2_with fail
            go_roundw
            case rel => exact ⟨j + 1, T.undone i, _, A2, n, k2, c + 1, A7, n7, a7, B7, m7, b7, by simp, by omega, HF2, Lib.hid (HS7.out.putT HNE.out.2.1 HT7.out HY7.out.1 HY7.out.2.1 HY7.out.2.2.1 HY7.out.2.2.2.1 HY7.out.2.2.2.2), Lib.hid (HB7.out.trans ((Turn.two g3 (.slice A7 n7 a7) (.slice B7 m7 b7)).below (B := w.heap.size) (fun q h => by have := HNE.out.2.2.2; omega) HB7.out.size))⟩
            case measure => simp [intOf]; omega
          · have hEb : (E == 0) = false := by simpa using hE
            have hw5 := below_new w2 (.cells (txC2 none 0 0 0) 26)
            have HS5 := Lib.hid ((HS.out.below hb2).below hw5)
            have HB5 := Lib.hid ((HBj.out.trans (hb2.mono HBj.out.size)).trans (hw5.mono (HBj.out.trans (hb2.mono HBj.out.size)).size))
            clear hb2 hE hw5 c0 c1 a0 a1'
            go_wp2_with fail
            go_roundw
            case rel => exact ⟨j + 1, T, t, A, n, k, c, A1, n1, a1, B1, m1, b1, by simp, by omega, Lib.hid HF.out.stay, HS5, HB5⟩
            case measure => simp [intOf]; omega
        have q0b : (qw == 0) = false := by simpa using q0
        have q1b : (qw == 1) = false := by simpa using q1
        have q2b : (qw == 2) = false := by simpa using q2
        have q3b : (qw == 3) = false := by simpa using q3
        clear q0 q1 q2 q3
        obtain ⟨xk, hxk, hlow⟩ := low v 3 2 (by decide) (by omega)
        have hxk4 : xk < 4 := hxk
        clear hxk
        have HK4 := Lib.hid hxk4
        have HAK := Lib.hid (fun V (hV : Since wz V) (s : Sl) (hd : DatAt V s [yb]) => (HWR.out A1 B1 n1 a1 m1 b1 t A n k c T z (xk : Int) s [yb] V (HS.out.t.below hV) HF.out.v.s (by have := HF.out.l; omega) (HS.out.x.below hV) HF.out.good HF.out.cl (by omega) HF.out.nl HS.out.nk (by unfold okI; omega) (by unfold okI; omega) hd (by simp)).mono fun e w' h => WriteOut.flat h)
        have s0 : ∀ V, Since wz V → V.cell? ⟨g2, 0, none⟩ = some (.slice A n k) := fun V hV => (HS.out.bx.below hV).c 0 _ rfl
        have s1 : ∀ V, Since wz V → V.cell? ⟨g2, 1, none⟩ = some (.int .i64 c) := fun V hV => (HS.out.bx.below hV).c 1 _ rfl
        have s2 : ∀ V, Since wz V → V.cell? ⟨g3, 0, none⟩ = some (.slice A1 n1 a1) := fun V hV => (HS.out.bt.below hV).v0
        have s3 : ∀ V, Since wz V → V.cell? ⟨g3, 1, none⟩ = some (.slice B1 m1 b1) := fun V hV => (HS.out.bt.below hV).v1
        have s4 : ∀ V, Since wz V → V.cell? ⟨ab, ao + j * 4 + 2, none⟩ = some (.int .i64 v) := fun V hV => (hV.cell (block_lt_of_cell HA2.out)).trans HA2.out
        have s5 : ∀ V, Since wz V → V.cell? ⟨ab, ao + j * 4 + 3, none⟩ = some (byV yb) := fun V hV => (hV.cell (block_lt_of_cell HA3.out)).trans HA3.out
        obtain ⟨E, HE⟩ : ∃ E, Hid (E = askV t T z (xk : Int)) := ⟨_, Lib.hid rfl⟩
        have HWF : Hid (∀ V e w', WFlat t T z (xk : Int) [yb] A1 B1 V e w' → Below V.heap.size V w' ∧ ∃ A6 n6 a6 B6 m6 b6, e = .returned (.tuple #[vtV A6 n6 a6 B6 m6 b6, .int .i64 E]) ∧ Hid (E = 0 → VtAt RVo w' A6 n6 a6 B6 m6 b6 ⟨t.B, putV ⟨(xk : Int), z, padV [yb]⟩ t.L⟩ ∧ ∀ g, (g < V.heap.size ∧ Away A1 B1 g) ∨ w'.heap.size ≤ g → Away A6 B6 g)) := Lib.hid (fun V e w' h => by
          rw [HE.out]
          obtain ⟨h1, A6, n6, a6, B6, m6, b6, h2, h3⟩ := h
          exact ⟨h1, A6, n6, a6, B6, m6, b6, h2, Lib.hid h3⟩)
        have HNZ := Lib.hid (show E = 0 → 0 ≤ z ∧ z < (n : Int) from fun e => by
          have h := (askV_live (HE.out.symm.trans e)).2.1
          rw [HF.out.nl] at h
          exact h)
        clear HE a1' c0 c1
        go_upto_region 11 with fail
        clear a0
        go_cut [17, 18] from 21 to 125 (fun pv ev wc => ∃ (A6 : Option Addr) (n6 a6 : Nat) (B6 : Option Addr) (m6 b6 h : Nat), pv = .pointer (some ⟨h, 0, none⟩) ∧ ev = .int .i64 E ∧ Hid (Bk wc h (vtC A6 n6 a6 B6 m6 b6) 30) ∧ Hid (E = 0 → VtAt RVo wc A6 n6 a6 B6 m6 b6 ⟨t.B, putV ⟨(xk : Int), z, padV [yb]⟩ t.L⟩ ∧ ∀ g, (g < wz.heap.size ∧ Away A1 B1 g) ∨ wc.heap.size ≤ g → Away A6 B6 g) ∧ Hid (Since wz wc))
        case first =>
          refine wp_region_since (by kernel_rfl) ?_
          have hS : Since wz (World.drew wz) := (Below.refl _ _).drew
          refine wpAnyH_take (i := 0) (oi := ⟨some 48, _, _, _, _, _⟩) (v := ?_) rfl (by kernel_rfl) (by kernel_rfl) (by kernel_rfl) (fun _ _ _ h => h) (Or.inl ⟨by rfl, ?_⟩) hS ?_
          rotate_left
          · intro W hW; go_simp; with_reducible rfl
          try simp only [Act.put, List.setIfInBounds_toArray, List.set_cons_zero, List.set_cons_succ]
          refine wpAnyH_take (i := 1) (oi := ⟨some 49, _, _, _, _, _⟩) (v := ?_) rfl (by kernel_rfl) (by kernel_rfl) (by kernel_rfl) (fun _ _ _ h => h) (Or.inl ⟨by rfl, ?_⟩) hS ?_
          rotate_left
          · intro W hW; go_simp; with_reducible rfl
          try simp only [Act.put, List.setIfInBounds_toArray, List.set_cons_zero, List.set_cons_succ]
          refine wpAnyH_take (i := 2) (oi := ⟨some 50, _, _, _, _, _⟩) (v := ?_) rfl (by kernel_rfl) (by kernel_rfl) (by kernel_rfl) (fun _ _ _ h => h) (Or.inl ⟨by rfl, ?_⟩) hS ?_
          rotate_left
          · intro W hW; go_simp; with_reducible rfl
          try simp only [Act.put, List.setIfInBounds_toArray, List.set_cons_zero, List.set_cons_succ]
          refine wpAnyH_take (i := 3) (oi := ⟨some 51, _, _, _, _, _⟩) (v := ?_) rfl (by kernel_rfl) (by kernel_rfl) (by kernel_rfl) (fun _ _ _ h => h) (Or.inl ⟨by rfl, ?_⟩) hS ?_
          rotate_left
          · intro W hW; go_simp; with_reducible rfl
          try simp only [Act.put, List.setIfInBounds_toArray, List.set_cons_zero, List.set_cons_succ]
          refine wpAnyH_take (i := 4) (oi := ⟨some 52, _, _, _, _, _⟩) (v := ?_) rfl (by kernel_rfl) (by kernel_rfl) (by kernel_rfl) (fun _ _ _ h => h) (Or.inl ⟨by rfl, ?_⟩) hS ?_
          rotate_left
          · intro W hW; go_simp; with_reducible rfl
          try simp only [Act.put, List.setIfInBounds_toArray, List.set_cons_zero, List.set_cons_succ]
          refine wpAnyH_take (i := 5) (oi := ⟨some 53, _, _, _, _, _⟩) (v := ?_) rfl (by kernel_rfl) (by kernel_rfl) (by kernel_rfl) (fun _ _ _ h => h) (Or.inl ⟨by rfl, ?_⟩) hS ?_
          rotate_left
          · intro W hW; go_simp; with_reducible rfl
          try simp only [Act.put, List.setIfInBounds_toArray, List.set_cons_zero, List.set_cons_succ]
          refine wpAnyH_take (i := 6) (oi := ⟨some 54, _, _, _, _, _⟩) (v := ?_) rfl (by kernel_rfl) (by kernel_rfl) (by kernel_rfl) (fun _ _ _ h => h) (Or.inl ⟨by rfl, ?_⟩) hS ?_
          rotate_left
          · intro W hW; go_simp; with_reducible rfl
          try simp only [Act.put, List.setIfInBounds_toArray, List.set_cons_zero, List.set_cons_succ]
          refine wpAnyH_take (i := 7) (oi := ⟨some 55, _, _, _, _, _⟩) (v := ?_) rfl (by kernel_rfl) (by kernel_rfl) (by kernel_rfl) (fun _ _ _ h => h) (Or.inl ⟨by rfl, ?_⟩) hS ?_
          rotate_left
          · intro W hW; go_simp; with_reducible rfl
          try simp only [Act.put, List.setIfInBounds_toArray, List.set_cons_zero, List.set_cons_succ]
          refine wpAnyH_take (i := 8) (oi := ⟨some 56, _, _, _, _, _⟩) (v := ?_) rfl (by kernel_rfl) (by kernel_rfl) (by kernel_rfl) (fun _ _ _ h => h) (Or.inl ⟨by rfl, ?_⟩) hS ?_
          rotate_left
          · intro W hW; go_simp; with_reducible rfl
          try simp only [Act.put, List.setIfInBounds_toArray, List.set_cons_zero, List.set_cons_succ]
          refine wpAnyH_take (i := 9) (oi := ⟨some 57, _, _, _, _, _⟩) (v := ?_) rfl (by kernel_rfl) (by kernel_rfl) (by kernel_rfl) (fun _ _ _ h => h) (Or.inl ⟨by rfl, ?_⟩) hS ?_
          rotate_left
          · intro W hW; go_simp; with_reducible rfl
          try simp only [Act.put, List.setIfInBounds_toArray, List.set_cons_zero, List.set_cons_succ]
          refine wpAnyH_take (i := 10) (oi := ⟨some 58, _, _, _, _, _⟩) (v := ?_) rfl (by kernel_rfl) (by kernel_rfl) (by kernel_rfl) (fun _ _ _ h => h) (Or.inl ⟨by rfl, ?_⟩) hS ?_
          rotate_left
          · intro W hW; go_simp; with_reducible rfl
          try simp only [Act.put, List.setIfInBounds_toArray, List.set_cons_zero, List.set_cons_succ]
          refine wpAnyH_take (i := 11) (oi := ⟨some 59, _, _, _, _, _⟩) (v := ?_) rfl (by kernel_rfl) (by kernel_rfl) (by kernel_rfl) (fun _ _ _ h => h) (Or.inl ⟨by rfl, ?_⟩) hS ?_
          rotate_left
          · intro W hW; go_simp; with_reducible rfl
          try simp only [Act.put, List.setIfInBounds_toArray, List.set_cons_zero, List.set_cons_succ]
          refine wpAnyH_take (i := 12) (oi := ⟨some 60, _, _, _, _, _⟩) (v := ?_) rfl (by kernel_rfl) (by kernel_rfl) (by kernel_rfl) (fun _ _ _ h => h) (Or.inl ⟨by rfl, ?_⟩) hS ?_
          rotate_left
          · intro W hW; go_simp; with_reducible rfl
          try simp only [Act.put, List.setIfInBounds_toArray, List.set_cons_zero, List.set_cons_succ]
          refine wpAnyH_take (i := 13) (oi := ⟨some 61, _, _, _, _, _⟩) (v := ?_) rfl (by kernel_rfl) (by kernel_rfl) (by kernel_rfl) (fun _ _ _ h => h) (Or.inl ⟨by rfl, ?_⟩) hS ?_
          rotate_left
          · intro W hW; go_simp; with_reducible rfl
          try simp only [Act.put, List.setIfInBounds_toArray, List.set_cons_zero, List.set_cons_succ]
          refine wpAnyH_ready (rs := [14, 19]) (by kernel_rfl) (by simp) ?_
          refine AllReadyH.cons (o := ⟨some 62, _, _, _, _, _⟩) rfl (fun Kr hKr => ?_) (AllReadyH.cons (o := ⟨some 17, _, _, _, _, _⟩) rfl (fun Kr hKr => ?_) AllReadyH.nil)
          · skip
            -- operation 14: a step
            try rw [if_pos (by kernel_rfl)]
            refine wp_build_u8 (n := yb) _ rfl rfl ?_
            intro VA gb hgb hatz hxb
            have HZ1 := Lib.hid hatz
            clear hatz
            show Kr _ _
            refine hKr.out _ _ ?_ (fun _ => ?_)
            · exact since_trans hS hxb
            clear hKr Kr
            replace hS : Since wz VA := since_trans hS hxb
            try simp only [Act.put, List.setIfInBounds_toArray, List.set_cons_zero, List.set_cons_succ]
            refine wpAnyH_ready (rs := [15, 19]) (by kernel_rfl) (by simp) ?_
            refine AllReadyH.cons (o := ⟨some 63, _, _, _, _, _⟩) rfl (fun Kr hKr => ?_) (AllReadyH.cons (o := ⟨some 17, _, _, _, _, _⟩) rfl (fun Kr hKr => ?_) AllReadyH.nil)
            · skip
              -- operation 15: a call
              go_simp
              refine (HAK.out _ hS _ HZ1.out).mono ?_
              rintro e w6 hflat
              obtain ⟨hb6, A6, n6, a6, B6, m6, b6, rfl, HOK⟩ := HWF.out _ _ _ hflat
              clear hflat
              have HV6 := Lib.hid hS
              have HB6 := Lib.hid hb6
              show Kr _ _
              refine hKr.out _ _ ?_ (fun _ => ?_)
              · exact since_trans hS hb6
              clear hKr Kr
              replace hS : Since wz w6 := since_trans hS hb6
              try simp only [Act.put, List.setIfInBounds_toArray, List.set_cons_zero, List.set_cons_succ]
              refine wpAnyH_take (i := 16) (oi := ⟨some 47, _, _, _, _, _⟩) (v := ?_) rfl (by kernel_rfl) (by kernel_rfl) (by kernel_rfl) (fun _ _ _ h => h) (Or.inl ⟨by rfl, ?_⟩) hS ?_
              rotate_left
              · intro W hW; go_simp; with_reducible rfl
              try simp only [Act.put, List.setIfInBounds_toArray, List.set_cons_zero, List.set_cons_succ]
              refine wpAnyH_take (i := 17) (oi := ⟨some 64, _, _, _, _, _⟩) (v := ?_) rfl (by kernel_rfl) (by kernel_rfl) (by kernel_rfl) (fun _ _ _ h => h) (Or.inl ⟨by rfl, ?_⟩) hS ?_
              rotate_left
              · intro W hW; go_simp; with_reducible rfl
              try simp only [Act.put, List.setIfInBounds_toArray, List.set_cons_zero, List.set_cons_succ]
              refine wpAnyH_take (i := 18) (oi := ⟨some 65, _, _, _, _, _⟩) (v := ?_) rfl (by kernel_rfl) (by kernel_rfl) (by kernel_rfl) (fun _ _ _ h => h) (Or.inl ⟨by rfl, ?_⟩) hS ?_
              rotate_left
              · intro W hW; go_simp; with_reducible rfl
              try simp only [Act.put, List.setIfInBounds_toArray, List.set_cons_zero, List.set_cons_succ]
              refine wpAnyH_ready (rs := [19]) (by kernel_rfl) (by simp) ?_
              refine AllReadyH.cons (o := ⟨some 17, _, _, _, _, _⟩) rfl (fun Kr hKr => ?_) AllReadyH.nil
              -- operation 19: a step
              try rw [if_pos (by kernel_rfl)]
              refine wp_alloc_bk 30 rfl (vtC none 0 0 none 0 0) (by kernel_rfl) ?_
              intro w20 g20 hk20 hb20 hg20
              have hG20 : wz.heap.size ≤ g20 := Nat.le_trans (Below.size hS) hg20
              try replace HZ1 := Lib.hid (HZ1.out.below hb20)
              show Kr _ _
              refine hKr.out _ _ ?_ (fun _ => ?_)
              · exact since_trans hS hb20
              clear hKr Kr
              replace hS : Since wz w20 := since_trans hS hb20
              try simp only [Act.put, List.setIfInBounds_toArray, List.set_cons_zero, List.set_cons_succ]
              refine wpAnyH_ready (rs := [20]) (by kernel_rfl) (by simp) ?_
              refine AllReadyH.cons (o := ⟨none, _, _, _, _, _⟩) rfl (fun Kr hKr => ?_) AllReadyH.nil
              -- operation 20: a step
              try rw [if_pos (by kernel_rfl)]
              refine wp_store_bk 30 (.tmp 17) (.tmp 64) rfl g20 (vtC A6 n6 a6 B6 m6 b6) rfl rfl 30 (vtC none 0 0 none 0 0) (by first | exact hk20 | exact Bk.below hk20 hb6 | exact Bk.below (Bk.below hk20 hxb) hb6) (by kernel_rfl) rfl (by simp [Value.oneCell']) ?_
              intro w7 hk7 hg7
              show Kr _ _
              refine hKr.out _ _ ?_ (fun _ => ?_)
              · exact Below.grown hS hg7 hS.size (fun q e => by injection e with e; omega)
              clear hKr Kr
              replace hS : Since wz w7 := Below.grown hS hg7 hS.size (fun q e => by injection e with e; omega)
              try simp only [Act.put, List.setIfInBounds_toArray, List.set_cons_zero, List.set_cons_succ]
              refine wpAnyH_take (i := 21) (oi := ⟨some 18, _, _, _, _, _⟩) (v := ?_) rfl (by kernel_rfl) (by kernel_rfl) (by kernel_rfl) (fun _ _ _ h => h) (Or.inl ⟨by rfl, ?_⟩) hS ?_
              rotate_left
              · intro W hW; go_simp; with_reducible rfl
              try simp only [Act.put, List.setIfInBounds_toArray, List.set_cons_zero, List.set_cons_succ]
              refine wpAnyH_done (by kernel_rfl) ?_ _
              have HFIN : Hid (E = 0 → VtAt RVo w7 A6 n6 a6 B6 m6 b6 ⟨t.B, putV ⟨(xk : Int), z, padV [yb]⟩ t.L⟩ ∧ ∀ g, (g < wz.heap.size ∧ Away A1 B1 g) ∨ w7.heap.size ≤ g → Away A6 B6 g) := Lib.hid (fun hE => by
                obtain ⟨ht, haw⟩ := HOK.out hE
                have hsv := HV6.out.size
                have hs6 := HB6.out.size
                have hs7 := hg7.size
                first
                | (have hs20 := hb20.size
                   have hk6 := Bk.below hk20 hb6
                   have hw := haw g20 (.inl ⟨Bk.lt hk20, HS.out.fr g20 hG20⟩)
                   exact ⟨ht.off hk6 vtc_by hw ((Turn.refl _ _).grown hg7 (fun q e => by injection e with e; exact .inl e.symm)), fun g hg => haw g (by rcases hg with hg | hg; exact .inl ⟨by omega, hg.2⟩; exact .inr (by omega))⟩)
                | (have hs20 := hb20.size
                   have hsb := hxb.size
                   have hk6 := Bk.below (Bk.below hk20 hxb) hb6
                   have hw := haw g20 (.inl ⟨(Bk.below hk20 hxb).lt, HS.out.fr g20 hG20⟩)
                   exact ⟨ht.off hk6 vtc_by hw ((Turn.refl _ _).grown hg7 (fun q e => by injection e with e; exact .inl e.symm)), fun g hg => haw g (by rcases hg with hg | hg; exact .inl ⟨by omega, hg.2⟩; exact .inr (by omega))⟩)
                | (have hs20 := hb20.size
                   have hw := haw g20 (.inr hg20)
                   exact ⟨(ht.below hb20).off hk20 vtc_by hw ((Turn.refl _ _).grown hg7 (fun q e => by injection e with e; exact .inl e.symm)), fun g hg => haw g (by rcases hg with hg | hg; exact .inl ⟨by omega, hg.2⟩; exact .inr (by omega))⟩))
              go_wp2_with fail
              go_meet
              case rel => exact ⟨A6, n6, a6, B6, m6, b6, g20, rfl, rfl, Lib.hid hk7, HFIN, Lib.hid hS⟩
            · skip
              -- operation 19: a step
              try rw [if_pos (by kernel_rfl)]
              refine wp_alloc_bk 30 rfl (vtC none 0 0 none 0 0) (by kernel_rfl) ?_
              intro w20 g20 hk20 hb20 hg20
              have hG20 : wz.heap.size ≤ g20 := Nat.le_trans (Below.size hS) hg20
              try replace HZ1 := Lib.hid (HZ1.out.below hb20)
              show Kr _ _
              refine hKr.out _ _ ?_ (fun _ => ?_)
              · exact since_trans hS hb20
              clear hKr Kr
              replace hS : Since wz w20 := since_trans hS hb20
              try simp only [Act.put, List.setIfInBounds_toArray, List.set_cons_zero, List.set_cons_succ]
              refine wpAnyH_ready (rs := [15]) (by kernel_rfl) (by simp) ?_
              refine AllReadyH.cons (o := ⟨some 63, _, _, _, _, _⟩) rfl (fun Kr hKr => ?_) AllReadyH.nil
              -- operation 15: a call
              go_simp
              refine (HAK.out _ hS _ HZ1.out).mono ?_
              rintro e w6 hflat
              obtain ⟨hb6, A6, n6, a6, B6, m6, b6, rfl, HOK⟩ := HWF.out _ _ _ hflat
              clear hflat
              have HV6 := Lib.hid hS
              have HB6 := Lib.hid hb6
              show Kr _ _
              refine hKr.out _ _ ?_ (fun _ => ?_)
              · exact since_trans hS hb6
              clear hKr Kr
              replace hS : Since wz w6 := since_trans hS hb6
              try simp only [Act.put, List.setIfInBounds_toArray, List.set_cons_zero, List.set_cons_succ]
              refine wpAnyH_take (i := 16) (oi := ⟨some 47, _, _, _, _, _⟩) (v := ?_) rfl (by kernel_rfl) (by kernel_rfl) (by kernel_rfl) (fun _ _ _ h => h) (Or.inl ⟨by rfl, ?_⟩) hS ?_
              rotate_left
              · intro W hW; go_simp; with_reducible rfl
              try simp only [Act.put, List.setIfInBounds_toArray, List.set_cons_zero, List.set_cons_succ]
              refine wpAnyH_take (i := 17) (oi := ⟨some 64, _, _, _, _, _⟩) (v := ?_) rfl (by kernel_rfl) (by kernel_rfl) (by kernel_rfl) (fun _ _ _ h => h) (Or.inl ⟨by rfl, ?_⟩) hS ?_
              rotate_left
              · intro W hW; go_simp; with_reducible rfl
              try simp only [Act.put, List.setIfInBounds_toArray, List.set_cons_zero, List.set_cons_succ]
              refine wpAnyH_take (i := 18) (oi := ⟨some 65, _, _, _, _, _⟩) (v := ?_) rfl (by kernel_rfl) (by kernel_rfl) (by kernel_rfl) (fun _ _ _ h => h) (Or.inl ⟨by rfl, ?_⟩) hS ?_
              rotate_left
              · intro W hW; go_simp; with_reducible rfl
              try simp only [Act.put, List.setIfInBounds_toArray, List.set_cons_zero, List.set_cons_succ]
              refine wpAnyH_ready (rs := [20]) (by kernel_rfl) (by simp) ?_
              refine AllReadyH.cons (o := ⟨none, _, _, _, _, _⟩) rfl (fun Kr hKr => ?_) AllReadyH.nil
              -- operation 20: a step
              try rw [if_pos (by kernel_rfl)]
              refine wp_store_bk 30 (.tmp 17) (.tmp 64) rfl g20 (vtC A6 n6 a6 B6 m6 b6) rfl rfl 30 (vtC none 0 0 none 0 0) (by first | exact hk20 | exact Bk.below hk20 hb6 | exact Bk.below (Bk.below hk20 hxb) hb6) (by kernel_rfl) rfl (by simp [Value.oneCell']) ?_
              intro w7 hk7 hg7
              show Kr _ _
              refine hKr.out _ _ ?_ (fun _ => ?_)
              · exact Below.grown hS hg7 hS.size (fun q e => by injection e with e; omega)
              clear hKr Kr
              replace hS : Since wz w7 := Below.grown hS hg7 hS.size (fun q e => by injection e with e; omega)
              try simp only [Act.put, List.setIfInBounds_toArray, List.set_cons_zero, List.set_cons_succ]
              refine wpAnyH_take (i := 21) (oi := ⟨some 18, _, _, _, _, _⟩) (v := ?_) rfl (by kernel_rfl) (by kernel_rfl) (by kernel_rfl) (fun _ _ _ h => h) (Or.inl ⟨by rfl, ?_⟩) hS ?_
              rotate_left
              · intro W hW; go_simp; with_reducible rfl
              try simp only [Act.put, List.setIfInBounds_toArray, List.set_cons_zero, List.set_cons_succ]
              refine wpAnyH_done (by kernel_rfl) ?_ _
              have HFIN : Hid (E = 0 → VtAt RVo w7 A6 n6 a6 B6 m6 b6 ⟨t.B, putV ⟨(xk : Int), z, padV [yb]⟩ t.L⟩ ∧ ∀ g, (g < wz.heap.size ∧ Away A1 B1 g) ∨ w7.heap.size ≤ g → Away A6 B6 g) := Lib.hid (fun hE => by
                obtain ⟨ht, haw⟩ := HOK.out hE
                have hsv := HV6.out.size
                have hs6 := HB6.out.size
                have hs7 := hg7.size
                first
                | (have hs20 := hb20.size
                   have hk6 := Bk.below hk20 hb6
                   have hw := haw g20 (.inl ⟨Bk.lt hk20, HS.out.fr g20 hG20⟩)
                   exact ⟨ht.off hk6 vtc_by hw ((Turn.refl _ _).grown hg7 (fun q e => by injection e with e; exact .inl e.symm)), fun g hg => haw g (by rcases hg with hg | hg; exact .inl ⟨by omega, hg.2⟩; exact .inr (by omega))⟩)
                | (have hs20 := hb20.size
                   have hsb := hxb.size
                   have hk6 := Bk.below (Bk.below hk20 hxb) hb6
                   have hw := haw g20 (.inl ⟨(Bk.below hk20 hxb).lt, HS.out.fr g20 hG20⟩)
                   exact ⟨ht.off hk6 vtc_by hw ((Turn.refl _ _).grown hg7 (fun q e => by injection e with e; exact .inl e.symm)), fun g hg => haw g (by rcases hg with hg | hg; exact .inl ⟨by omega, hg.2⟩; exact .inr (by omega))⟩)
                | (have hs20 := hb20.size
                   have hw := haw g20 (.inr hg20)
                   exact ⟨(ht.below hb20).off hk20 vtc_by hw ((Turn.refl _ _).grown hg7 (fun q e => by injection e with e; exact .inl e.symm)), fun g hg => haw g (by rcases hg with hg | hg; exact .inl ⟨by omega, hg.2⟩; exact .inr (by omega))⟩))
              go_wp2_with fail
              go_meet
              case rel => exact ⟨A6, n6, a6, B6, m6, b6, g20, rfl, rfl, Lib.hid hk7, HFIN, Lib.hid hS⟩
          · skip
            -- operation 19: a step
            try rw [if_pos (by kernel_rfl)]
            refine wp_alloc_bk 30 rfl (vtC none 0 0 none 0 0) (by kernel_rfl) ?_
            intro w20 g20 hk20 hb20 hg20
            have hG20 : wz.heap.size ≤ g20 := Nat.le_trans (Below.size hS) hg20
            try replace HZ1 := Lib.hid (HZ1.out.below hb20)
            show Kr _ _
            refine hKr.out _ _ ?_ (fun _ => ?_)
            · exact since_trans hS hb20
            clear hKr Kr
            replace hS : Since wz w20 := since_trans hS hb20
            try simp only [Act.put, List.setIfInBounds_toArray, List.set_cons_zero, List.set_cons_succ]
            refine wpAnyH_ready (rs := [14]) (by kernel_rfl) (by simp) ?_
            refine AllReadyH.cons (o := ⟨some 62, _, _, _, _, _⟩) rfl (fun Kr hKr => ?_) AllReadyH.nil
            -- operation 14: a step
            try rw [if_pos (by kernel_rfl)]
            refine wp_build_u8 (n := yb) _ rfl rfl ?_
            intro VA gb hgb hatz hxb
            have HZ1 := Lib.hid hatz
            clear hatz
            show Kr _ _
            refine hKr.out _ _ ?_ (fun _ => ?_)
            · exact since_trans hS hxb
            clear hKr Kr
            replace hS : Since wz VA := since_trans hS hxb
            try simp only [Act.put, List.setIfInBounds_toArray, List.set_cons_zero, List.set_cons_succ]
            refine wpAnyH_ready (rs := [15]) (by kernel_rfl) (by simp) ?_
            refine AllReadyH.cons (o := ⟨some 63, _, _, _, _, _⟩) rfl (fun Kr hKr => ?_) AllReadyH.nil
            -- operation 15: a call
            go_simp
            refine (HAK.out _ hS _ HZ1.out).mono ?_
            rintro e w6 hflat
            obtain ⟨hb6, A6, n6, a6, B6, m6, b6, rfl, HOK⟩ := HWF.out _ _ _ hflat
            clear hflat
            have HV6 := Lib.hid hS
            have HB6 := Lib.hid hb6
            show Kr _ _
            refine hKr.out _ _ ?_ (fun _ => ?_)
            · exact since_trans hS hb6
            clear hKr Kr
            replace hS : Since wz w6 := since_trans hS hb6
            try simp only [Act.put, List.setIfInBounds_toArray, List.set_cons_zero, List.set_cons_succ]
            refine wpAnyH_take (i := 16) (oi := ⟨some 47, _, _, _, _, _⟩) (v := ?_) rfl (by kernel_rfl) (by kernel_rfl) (by kernel_rfl) (fun _ _ _ h => h) (Or.inl ⟨by rfl, ?_⟩) hS ?_
            rotate_left
            · intro W hW; go_simp; with_reducible rfl
            try simp only [Act.put, List.setIfInBounds_toArray, List.set_cons_zero, List.set_cons_succ]
            refine wpAnyH_take (i := 17) (oi := ⟨some 64, _, _, _, _, _⟩) (v := ?_) rfl (by kernel_rfl) (by kernel_rfl) (by kernel_rfl) (fun _ _ _ h => h) (Or.inl ⟨by rfl, ?_⟩) hS ?_
            rotate_left
            · intro W hW; go_simp; with_reducible rfl
            try simp only [Act.put, List.setIfInBounds_toArray, List.set_cons_zero, List.set_cons_succ]
            refine wpAnyH_take (i := 18) (oi := ⟨some 65, _, _, _, _, _⟩) (v := ?_) rfl (by kernel_rfl) (by kernel_rfl) (by kernel_rfl) (fun _ _ _ h => h) (Or.inl ⟨by rfl, ?_⟩) hS ?_
            rotate_left
            · intro W hW; go_simp; with_reducible rfl
            try simp only [Act.put, List.setIfInBounds_toArray, List.set_cons_zero, List.set_cons_succ]
            refine wpAnyH_ready (rs := [20]) (by kernel_rfl) (by simp) ?_
            refine AllReadyH.cons (o := ⟨none, _, _, _, _, _⟩) rfl (fun Kr hKr => ?_) AllReadyH.nil
            -- operation 20: a step
            try rw [if_pos (by kernel_rfl)]
            refine wp_store_bk 30 (.tmp 17) (.tmp 64) rfl g20 (vtC A6 n6 a6 B6 m6 b6) rfl rfl 30 (vtC none 0 0 none 0 0) (by first | exact hk20 | exact Bk.below hk20 hb6 | exact Bk.below (Bk.below hk20 hxb) hb6) (by kernel_rfl) rfl (by simp [Value.oneCell']) ?_
            intro w7 hk7 hg7
            show Kr _ _
            refine hKr.out _ _ ?_ (fun _ => ?_)
            · exact Below.grown hS hg7 hS.size (fun q e => by injection e with e; omega)
            clear hKr Kr
            replace hS : Since wz w7 := Below.grown hS hg7 hS.size (fun q e => by injection e with e; omega)
            try simp only [Act.put, List.setIfInBounds_toArray, List.set_cons_zero, List.set_cons_succ]
            refine wpAnyH_take (i := 21) (oi := ⟨some 18, _, _, _, _, _⟩) (v := ?_) rfl (by kernel_rfl) (by kernel_rfl) (by kernel_rfl) (fun _ _ _ h => h) (Or.inl ⟨by rfl, ?_⟩) hS ?_
            rotate_left
            · intro W hW; go_simp; with_reducible rfl
            try simp only [Act.put, List.setIfInBounds_toArray, List.set_cons_zero, List.set_cons_succ]
            refine wpAnyH_done (by kernel_rfl) ?_ _
            have HFIN : Hid (E = 0 → VtAt RVo w7 A6 n6 a6 B6 m6 b6 ⟨t.B, putV ⟨(xk : Int), z, padV [yb]⟩ t.L⟩ ∧ ∀ g, (g < wz.heap.size ∧ Away A1 B1 g) ∨ w7.heap.size ≤ g → Away A6 B6 g) := Lib.hid (fun hE => by
              obtain ⟨ht, haw⟩ := HOK.out hE
              have hsv := HV6.out.size
              have hs6 := HB6.out.size
              have hs7 := hg7.size
              first
              | (have hs20 := hb20.size
                 have hk6 := Bk.below hk20 hb6
                 have hw := haw g20 (.inl ⟨Bk.lt hk20, HS.out.fr g20 hG20⟩)
                 exact ⟨ht.off hk6 vtc_by hw ((Turn.refl _ _).grown hg7 (fun q e => by injection e with e; exact .inl e.symm)), fun g hg => haw g (by rcases hg with hg | hg; exact .inl ⟨by omega, hg.2⟩; exact .inr (by omega))⟩)
              | (have hs20 := hb20.size
                 have hsb := hxb.size
                 have hk6 := Bk.below (Bk.below hk20 hxb) hb6
                 have hw := haw g20 (.inl ⟨(Bk.below hk20 hxb).lt, HS.out.fr g20 hG20⟩)
                 exact ⟨ht.off hk6 vtc_by hw ((Turn.refl _ _).grown hg7 (fun q e => by injection e with e; exact .inl e.symm)), fun g hg => haw g (by rcases hg with hg | hg; exact .inl ⟨by omega, hg.2⟩; exact .inr (by omega))⟩)
              | (have hs20 := hb20.size
                 have hw := haw g20 (.inr hg20)
                 exact ⟨(ht.below hb20).off hk20 vtc_by hw ((Turn.refl _ _).grown hg7 (fun q e => by injection e with e; exact .inl e.symm)), fun g hg => haw g (by rcases hg with hg | hg; exact .inl ⟨by omega, hg.2⟩; exact .inr (by omega))⟩))
            go_wp2_with fail
            go_meet
            case rel => exact ⟨A6, n6, a6, B6, m6, b6, g20, rfl, rfl, Lib.hid hk7, HFIN, Lib.hid hS⟩
        case rest =>
          obtain ⟨A6, n6, a6, B6, m6, b6, h7, rfl, rfl, HK7, HT7, HV7⟩ := hcut
          obtain ⟨w7, hw7⟩ : ∃ w7, w7 = wc := ⟨_, rfl⟩
          subst hw7
          have HS7 := Lib.hid (HS.out.below HV7.out)
          have HB7 := Lib.hid (HBj.out.trans (HV7.out.mono HBj.out.size))
          clear s0 s1 s2 s3 s4 s5 hlow
          by_cases e0 : E = 0
          · have eb : (E == 0) = true := by simpa using e0
            obtain ⟨ht7, haw⟩ := HT7.out e0
            have hz7 := HNZ.out e0
            have HT8 := Lib.hid ht7
            have HF8 := Lib.hid (HF.out.write (k := (xk : Int)) (x := z) (d := [yb]) (by have := HK4.out; omega) hz7 (by simp))
            have HY7 := Lib.hid (⟨haw _ (.inl ⟨HS.out.r0.lt, HS.out.a0⟩), haw _ (.inl ⟨HS.out.r1.lt, HS.out.a1⟩), haw _ (.inl ⟨HS.out.bx.lt, HS.out.a2⟩), haw _ (.inl ⟨HS.out.bt.lt, HS.out.a3⟩), fun g hg => haw g (.inr hg)⟩ : Away A6 B6 w.heap.size ∧ Away A6 B6 (w.heap.size + 1) ∧ Away A6 B6 g2 ∧ Away A6 B6 g3 ∧ ∀ g, w7.heap.size ≤ g → Away A6 B6 g)
            clear ht7 haw hz7 e0
            have c0 := HK7.out.v0
            have c1 := HK7.out.v1
            have d0 := HS7.out.bt.v0
            have d1 := HS7.out.bt.v1
            have d2 := HS7.out.bt.fr 0
            have d3 := HS7.out.bt.fr 1
            go_wp2_with fail
            go_roundw
            case rel => exact ⟨j + 1, T, _, A, n, k, c, A6, n6, a6, B6, m6, b6, by simp, by omega, HF8, Lib.hid (HS7.out.putT HNE.out.2.1 HT8.out HY7.out.1 HY7.out.2.1 HY7.out.2.2.1 HY7.out.2.2.2.1 HY7.out.2.2.2.2), Lib.hid (HB7.out.trans ((Turn.two g3 (.slice A6 n6 a6) (.slice B6 m6 b6)).below (B := w.heap.size) (fun q h => by have := HNE.out.2.2.2; omega) HB7.out.size))⟩
            case measure => simp [intOf]; omega
          · have eb : (E == 0) = false := by simpa using e0
            clear e0
            go_wp2_with fail
            go_roundw
            case rel => exact ⟨j + 1, T, t, A, n, k, c, A1, n1, a1, B1, m1, b1, by simp, by omega, Lib.hid HF.out.stay, HS7, HB7⟩
            case measure => simp [intOf]; omega
    · obtain rfl : j = len := by omega
      have hd4 : decide ((j : Int) < (j : Int)) = false := decide_eq_false (by omega)
      have hd5 : decide (j < j) = false := decide_eq_false (by omega)
      clear hge hj
      go_upto_region 29 with fail
      have g20 : ¬ (g2 = w.heap.size ∨ g2 = w.heap.size + 1) := by have := HNE.out.1; omega
      have g30 : ¬ (g3 = w.heap.size ∨ g3 = w.heap.size + 1) := by have := HNE.out.2.1; omega
      have e0 : ∀ V, Turn (fun q => q = w.heap.size ∨ q = w.heap.size + 1) wr V → V.cell? ⟨g2, 0, none⟩ = some (.slice A n k) := fun V hV => (HS.out.bx.turn hV g20).c 0 _ rfl
      have e1 : ∀ V, Turn (fun q => q = w.heap.size ∨ q = w.heap.size + 1) wr V → V.cell? ⟨g2, 1, none⟩ = some (.int .i64 c) := fun V hV => (HS.out.bx.turn hV g20).c 1 _ rfl
      have e2 : ∀ V, Turn (fun q => q = w.heap.size ∨ q = w.heap.size + 1) wr V → V.cell? ⟨g3, 0, none⟩ = some (.slice A1 n1 a1) := fun V hV => (HS.out.bt.turn hV g30).v0
      have e3 : ∀ V, Turn (fun q => q = w.heap.size ∨ q = w.heap.size + 1) wr V → V.cell? ⟨g3, 1, none⟩ = some (.slice B1 m1 b1) := fun V hV => (HS.out.bt.turn hV g30).v1
      have HSD := Lib.hid (HS.out.below (V := World.drew wr) ((Below.refl _ _).drew))
      clear g20 g30
      refine wp_region_turn (X := (fun q => q = w.heap.size ∨ q = w.heap.size + 1)) (by kernel_rfl) ?_
      have hS : Turn (fun q => q = w.heap.size ∨ q = w.heap.size + 1) wr (World.drew wr) := (Turn.refl _ _).drew
      refine wpAnyH_take (i := 0) (oi := ⟨some 126, _, _, _, _, _⟩) (v := ?_) rfl (by kernel_rfl) (by kernel_rfl) (by kernel_rfl) (fun _ _ _ h => h) (Or.inl ⟨by rfl, ?_⟩) hS ?_
      rotate_left
      · intro W hW; go_simp; with_reducible rfl
      try simp only [Act.put, List.setIfInBounds_toArray, List.set_cons_zero, List.set_cons_succ]
      refine wpAnyH_take (i := 1) (oi := ⟨some 127, _, _, _, _, _⟩) (v := ?_) rfl (by kernel_rfl) (by kernel_rfl) (by kernel_rfl) (fun _ _ _ h => h) (Or.inl ⟨by rfl, ?_⟩) hS ?_
      rotate_left
      · intro W hW; go_simp; with_reducible rfl
      try simp only [Act.put, List.setIfInBounds_toArray, List.set_cons_zero, List.set_cons_succ]
      refine wpAnyH_ready (rs := [2]) (by kernel_rfl) (by simp) ?_
      refine AllReadyH.cons (o := ⟨none, _, _, _, _, _⟩) rfl (fun Kr hKr => ?_) AllReadyH.nil
      -- operation 2: a step
      try rw [if_pos (by kernel_rfl)]
      refine wp_store_bk 26 (.tmp 2) (.tmp 126) rfl w.heap.size (txC2 A n k c) rfl rfl 26 (txC2 none 0 0 0) HSD.out.r0 (by kernel_rfl) rfl (by simp [Value.oneCell']) ?_
      intro w5 ha5 hg5
      show Kr _ _
      refine hKr.out _ _ ?_ (fun _ => ?_)
      · exact hS.grown hg5 (fun q e => by injection e with e; exact .inl (.inl e.symm))
      clear hKr Kr
      replace hS : Turn (fun q => q = w.heap.size ∨ q = w.heap.size + 1) wr w5 := hS.grown hg5 (fun q e => by injection e with e; exact .inl (.inl e.symm))
      try simp only [Act.put, List.setIfInBounds_toArray, List.set_cons_zero, List.set_cons_succ]
      refine wpAnyH_ready (rs := [3]) (by kernel_rfl) (by simp) ?_
      refine AllReadyH.cons (o := ⟨none, _, _, _, _, _⟩) rfl (fun Kr hKr => ?_) AllReadyH.nil
      -- operation 3: a step
      try rw [if_pos (by kernel_rfl)]
      refine wp_store_bk 30 (.tmp 3) (.tmp 127) rfl (w.heap.size + 1) (vtC A1 n1 a1 B1 m1 b1) rfl rfl 30 (vtC none 0 0 none 0 0) (Bk.far HSD.out.r1 hg5 (fun e => by injection e with e; omega)) (by kernel_rfl) rfl (by simp [Value.oneCell']) ?_
      intro w6 hk6 hg6
      show Kr _ _
      refine hKr.out _ _ ?_ (fun _ => ?_)
      · exact hS.grown hg6 (fun q e => by injection e with e; exact .inl (.inr e.symm))
      clear hKr Kr
      replace hS : Turn (fun q => q = w.heap.size ∨ q = w.heap.size + 1) wr w6 := hS.grown hg6 (fun q e => by injection e with e; exact .inl (.inr e.symm))
      try simp only [Act.put, List.setIfInBounds_toArray, List.set_cons_zero, List.set_cons_succ]
      refine wpAnyH_done (by kernel_rfl) ?_ _
      have hT9 := Bk.far ha5 hg6 (fun e => by injection e with e; omega)
      have HS9 := Lib.hid hS
      have hU5 : Turn (fun q => q = w.heap.size) (World.drew wr) w5 := (Turn.refl _ _).grown hg5 (fun q e => by injection e with e; exact .inl e.symm)
      have hU6 : Turn (fun q => q = w.heap.size + 1) w5 w6 := (Turn.refl _ _).grown hg6 (fun q e => by injection e with e; exact .inl e.symm)
      have HT6 := Lib.hid ((HSD.out.t.off HSD.out.r0 txc_by HSD.out.a0 hU5).off (HSD.out.r1.turn hU5 (by omega)) vtc_by HSD.out.a1 hU6)
      have HX6 := Lib.hid ((HSD.out.x.turn hU5 (fun b o e => by rcases h : T.l with _ | ⟨x, r⟩; exact .inl rfl; exact .inr (fun hq => by have h1 := HSD.out.x.get (i := 0) (by rw [h]; simp); obtain ⟨b', e', _, h2, _⟩ := h1; rw [e] at e'; injection e' with e'; injection e' with e1 _; have h3 : (World.drew wr).cell? ⟨w.heap.size, 0, none⟩ = some (.slice none 0 0) := HSD.out.r0.c 0 _ rfl; rw [← e1, hq, Nat.zero_mul, h3] at h2; cases h2))).turn hU6 (tx_far (HSD.out.x.turn hU5 (fun b o e => by rcases h : T.l with _ | ⟨x, r⟩; exact .inl rfl; exact .inr (fun hq => by have h1 := HSD.out.x.get (i := 0) (by rw [h]; simp); obtain ⟨b', e', _, h2, _⟩ := h1; rw [e] at e'; injection e' with e'; injection e' with e1 _; have h3 : (World.drew wr).cell? ⟨w.heap.size, 0, none⟩ = some (.slice none 0 0) := HSD.out.r0.c 0 _ rfl; rw [← e1, hq, Nat.zero_mul, h3] at h2; cases h2))) (HSD.out.r1.turn hU5 (by omega))))
      have hsz : wr.heap.size ≤ w6.heap.size := HS9.out.size
      clear hU5 hU6
      go_wp2_with fail
      refine bodyPost_ret (results_two rfl _ rfl rfl hT9 hk6) rfl ?_
      have hf := HF.out
      exact ⟨A, n, k, c, T, A1, n1, a1, B1, m1, b1, t, rfl, ⟨hf.good, hf.nl, hf.cl, by omega, hf.v, by have := hf.l; omega⟩, HX6.out, HT6.out, fun g hg => HS.out.fr g (by omega), HS.out.nk, HBj.out.trans (HS9.out.below (B := w.heap.size) (fun q e => by omega) HBj.out.size)⟩
end Go.Proofs.Ytmhnjmfcenbogaa
