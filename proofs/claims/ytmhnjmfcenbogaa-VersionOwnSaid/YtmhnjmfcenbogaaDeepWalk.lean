/-
  VersionDeep: its walk, over what the program's calls are asked for.
-/
import Derived.Test.YtmhnjmfcenbogaaDw
namespace Go.Proofs.Ytmhnjmfcenbogaa
set_option maxRecDepth 100000
set_option linter.unusedVariables false
set_option linter.unusedSimpArgs false
open Go.RowKit

def AwakeOk : Prop := ∀ w : World, Calls Try.prog 8 #[] w fun e w' => e = .returned (.bool true) ∧ Below w.heap.size w w'
theorem deep_begin (A : Option Addr) (i k : Nat) (hi : i < 8) (w : World) (hT : TxAt w A (deepT i).l) : Calls Try.prog 14 #[.agg #[.slice A i k, .int .i64 (i : Int)], .int .i64 ((i : Int) - 1)] w fun e w' => ∃ A k, e = .returned (.tuple #[.agg #[.slice A (i + 1) k, .int .i64 ((i : Int) + 1)], .int .i64 (i : Int), .int .i64 0]) ∧ TxAt w' A (deepT (i + 1)).l ∧ Below w.heap.size w w' ∧ i + 1 ≤ k := by
  refine (begin_any A (deepT i) i k (i : Int) ((i : Int) - 1) (deep_len i) (deep_good i (by omega)) (deep_c i) (by omega) w hT).mono ?_
  rintro e w1 ⟨hb, ⟨_, A, k, n, hn, rfl, htx, hnk⟩ | ⟨_, _, hno, _⟩⟩
  · exact ⟨A, k, by rw [hn, deep_len, show ((deepT i).begun ((i : Int) - 1)).c = (i : Int) + 1 by show (deepT i).c + 1 = _; rw [deep_c]], htx, hb, by rw [hn, deep_len] at hnk; exact hnk⟩
  · exact absurd (deep_may i hi) hno.1

set_option maxHeartbeats 8000000 in
theorem deep_walk (hW : WriteOk) (hR : ReadOk) (hP : PassOk) (hA : AwakeOk) (nn : Int) (E : Option Addr) (q r : Nat) (f : Nat → Bool) (w : World) (hl : BoolsAt w E q f) :
    Calls Try.prog 6 #[.int .i64 nn, .slice E q r] w fun e w' => e = .returned (.bool true) ∧ Below w.heap.size w w' := by
  have HL := Lib.hid hl
  have HWR := Lib.hid hW
  have HRD := Lib.hid hR
  have HPS := Lib.hid hP
  have HAW := Lib.hid hA
  obtain ⟨k0, hk0⟩ : ∃ k0, k0 = nn % 8 := ⟨_, rfl⟩
  have hand : bits .and .i64 nn 7 = k0 := by rw [and7, hk0]
  obtain ⟨K, hK⟩ : ∃ K : Nat, (K : Int) = 1 + k0 := ⟨(1 + k0).toNat, by omega⟩
  have hone : IntKind.i64.wrap (1 + k0) = (K : Int) := by rw [IntKind.wrap_i64]; omega
  have HK8 := Lib.hid (show 1 ≤ K ∧ K ≤ 8 by omega)
  clear hl hW hR hP hA hk0 hK
  go_enter Try.func6, Try.ntmps6
  go_wp2_with fail
  refine (HAW.out _).mono ?_
  rintro e w0 ⟨rfl, hv0⟩
  have HV0 := Lib.hid hv0
  clear hv0 HAW
  go_upto_region 4 with fail
  obtain ⟨g, hg⟩ : ∃ g, g = w0.heap.size := ⟨_, rfl⟩
  obtain ⟨wa, hwa⟩ : ∃ wa, wa = w0.alloc (.cells (txC2 none 0 0 0) 26) := ⟨_, rfl⟩
  have HKa := Lib.hid (show Bk wa g (txC2 none 0 0 0) 26 by rw [hwa, hg]; exact Bk.new w0 _ _)
  have HVa := Lib.hid (show Below w.heap.size w wa by rw [hwa]; exact HV0.out.trans ((below_new w0 _).mono HV0.out.size))
  have HG := Lib.hid (show w.heap.size ≤ g by rw [hg]; exact HV0.out.size)
  rw [← hg, ← hwa]
  clear hg hwa HV0 hand hone
  go_wp2_with fail
  refine (blank_any 1 (by omega) wa).mono ?_
  rintro e w1 ⟨A1, a1, rfl, ht1, hab, hv1⟩
  have HT1 := Lib.hid (show VtAt RVo w1 A1 1 a1 none 0 0 ⟨[zV], []⟩ from ht1)
  have HK1 := Lib.hid (HKa.out.below hv1)
  have HV1 := Lib.hid (HVa.out.trans (hv1.mono HVa.out.size))
  have HAB := Lib.hid (show ∀ b o, A1 = some ⟨b, o, none⟩ → g < b ∧ b < w1.heap.size from fun b o e => ⟨by have h1 := hab b o e; have h2 := HKa.out.lt; omega, by
    obtain ⟨ss, hss⟩ := ht1.base
    rcases hss.at_.lt b o e with h | h
    · have := hss.l; rw [h] at this; simp at this
    · exact h⟩)
  clear ht1 hab hv1 HKa HVa
  go_upto_region 5 with fail
  obtain ⟨gt, hgt⟩ : ∃ g, g = w1.heap.size := ⟨_, rfl⟩
  obtain ⟨wd, hwd⟩ : ∃ q, q = w1.alloc (.cells (vtC A1 1 a1 none 0 0) 30) := ⟨_, rfl⟩
  have hbd : Below w1.heap.size w1 wd := by rw [hwd]; exact below_new _ _
  have HKd := Lib.hid (HK1.out.below hbd)
  have HVd := Lib.hid (HV1.out.trans (hbd.mono HV1.out.size))
  have HTd := Lib.hid (HT1.out.below hbd)
  have HGd := Lib.hid (show Bk wd gt (vtC A1 1 a1 none 0 0) 30 by rw [hwd, hgt]; exact Bk.new _ _ _)
  have HYd := Lib.hid (show Away A1 none g ∧ Away A1 none gt from ⟨⟨fun b o e => by have := (HAB.out b o e).1; omega, fun b o e => by cases e⟩, ⟨fun b o e => by have := (HAB.out b o e).2; omega, fun b o e => by cases e⟩⟩)
  have HNE := Lib.hid (show g ≠ gt ∧ w.heap.size ≤ gt by have h1 := HK1.out.lt; have h2 := HV1.out.size; omega)
  rw [← hgt, ← hwd]
  clear hgt hwd hbd HK1 HV1 HT1 HAB
  go_wp2_with fail
  go_loopw [9, 10] (fun u v wr => ∃ (i : Nat) (y : UInt8) (A : Option Addr) (k : Nat) (A1 : Option Addr) (n1 a1 : Nat) (B1 : Option Addr) (m1 b1 : Nat) (t : Vt), u = byV y ∧ v = .int .i64 (i : Int) ∧ i ≤ K ∧ Hid (DeepF t i (padV [y])) ∧ Hid (t.L.length ≤ i) ∧ Hid (TxAt wr A (deepT i).l) ∧ Hid (Bk wr g (txC2 A i k (i : Int)) 26) ∧ Hid (Bk wr gt (vtC A1 n1 a1 B1 m1 b1) 30) ∧ Hid (VtAt RVo wr A1 n1 a1 B1 m1 b1 t) ∧ Hid (Away A1 B1 g ∧ Away A1 B1 gt) ∧ Hid (Below w.heap.size w wr)) (fun _ v _ => K - (intOf v).toNat)
  case atStart => exact ⟨0, 0, none, 0, _, 1, _, none, 0, 0, _, rfl, rfl, Nat.zero_le _, Lib.hid deep0, Lib.hid (by simp), Lib.hid (.inl ⟨rfl, rfl⟩), HKd, HGd, HTd, HYd, HVd⟩
  case round =>
    obtain ⟨i, y, A, k, A1, n1, a1, B1, m1, b1, t, rfl, rfl, hi, HDF, HLE, HX, HK, HGT, HT, HY, HV⟩ := hrel
    rcases Nat.lt_or_ge i K with hlt | hge
    · have hd4 : decide ((i : Int) < (K : Int)) = true := decide_eq_true (by omega)
      have hd5 : decide (i < K) = true := decide_eq_true hlt
      have hi1 : (i : Int) < (K : Int) := by omega
      have HLT := Lib.hid (show i < 8 by have := HK8.out; omega)
      have HIK := Lib.hid hlt
      have hsb : IntKind.i64.wrap ((i : Int) - 1) = (i : Int) - 1 := by rw [IntKind.wrap_i64]; have := HLT.out; omega
      have HBG := Lib.hid (deep_begin A i k HLT.out wr HX.out)
      have r0 : wr.cell? ⟨g, 0, none⟩ = some (.slice A i k) := HK.out.c 0 _ rfl
      have r1 : wr.cell? ⟨g, 1, none⟩ = some (.int .i64 (i : Int)) := HK.out.c 1 _ rfl
      clear hlt
      go_wp2_with fail
      refine HBG.out.mono ?_
      rintro e w1 ⟨A2, k2, rfl, hx1, hv1, hk2⟩
      have HK2 := Lib.hid hk2
      clear hk2
      have HX1 := Lib.hid hx1
      have HV1 := Lib.hid (HV.out.trans (hv1.mono HV.out.size))
      have HK1 := Lib.hid (HK.out.below hv1)
      have HG1 := Lib.hid (HGT.out.below hv1)
      have HT1 := Lib.hid (HT.out.below hv1)
      clear hx1 hv1 HBG HX HK HGT HT HV r0 r1 hsb
      go_upto_region 12 with fail
      obtain ⟨ga, hga⟩ : ∃ g, g = w1.heap.size := ⟨_, rfl⟩
      obtain ⟨we, hwe⟩ : ∃ q, q = w1.alloc (.cells (txC2 A2 (i + 1) k2 ((i : Int) + 1)) 26) := ⟨_, rfl⟩
      have hbe : Below w1.heap.size w1 we := by rw [hwe]; exact below_new _ _
      have HAe := Lib.hid (show Bk we ga (txC2 A2 (i + 1) k2 ((i : Int) + 1)) 26 by rw [hwe, hga]; exact Bk.new w1 _ _)
      have HXe := Lib.hid (HX1.out.below hbe)
      have HVe := Lib.hid (HV1.out.trans (hbe.mono HV1.out.size))
      have HKe := Lib.hid (HK1.out.below hbe)
      have HGe := Lib.hid (HG1.out.below hbe)
      have HTe := Lib.hid (HT1.out.below hbe)
      rw [← hga, ← hwe]
      clear hga hwe hbe HX1 HV1 HK1 HG1 HT1
      have r0 : we.cell? ⟨ga, 0, none⟩ = some (.slice A2 (i + 1) k2) := HAe.out.c 0 _ rfl
      have r1 : we.cell? ⟨ga, 1, none⟩ = some (.int .i64 ((i : Int) + 1)) := HAe.out.c 1 _ rfl
      have f0 := HKe.out.fr 0
      have f1 := HKe.out.fr 1
      have q0 : we.cell? ⟨g, 0, none⟩ = some (.slice A i k) := HKe.out.c 0 _ rfl
      have q1 : we.cell? ⟨g, 1, none⟩ = some (.int .i64 (i : Int)) := HKe.out.c 1 _ rfl
      go_upto_region 13 with fail
      have HKf := Lib.hid (HKe.out.two (.slice A2 (i + 1) k2) (.int .i64 ((i : Int) + 1)))
      have hTf := Turn.two (W := we) g (.slice A2 (i + 1) k2) (.int .i64 ((i : Int) + 1))
      have HXf := Lib.hid (tx_put HXe.out HKe.out (.slice A2 (i + 1) k2) (.int .i64 ((i : Int) + 1)))
      have HGf := Lib.hid (HGe.out.turn hTf (fun h => HNE.out.1 h.symm))
      have HTf := Lib.hid (HTe.out.off HKe.out txc_by HY.out.1 hTf)
      have HVf := Lib.hid (HVe.out.trans (hTf.below (B := w.heap.size) (fun q h => by have := HG.out; omega) HVe.out.size))
      generalize (we.setCell ⟨g, 0, none⟩ (.slice A2 (i + 1) k2)).setCell ⟨g, 1, none⟩ (.int .i64 ((i : Int) + 1)) = wf at *
      clear hTf r0 r1 f0 f1 q0 q1 HAe HXe HVe HKe HGe HTe
      have HDS := Lib.hid HDF.out.stay
      have HLS := Lib.hid (show t.L.length ≤ i + 1 by have := HLE.out; omega)
      rcases Nat.lt_or_ge i q with hqi | hqi
      · have hd6 : decide ((i : Int) < (q : Int)) = true := decide_eq_true (by omega)
        have hd7 : decide (i < q) = true := decide_eq_true hqi
        have hi2 : (i : Int) < (q : Int) := by omega
        have HQI := Lib.hid hqi
        obtain ⟨b2, o2, hE, hcell⟩ : ∃ b o, E = some ⟨b, o, none⟩ ∧ wf.cell? ⟨b, o + i, none⟩ = some (.bool (f i)) := by
          rcases HL.out with h | ⟨b, o, e, hb, hc⟩
          · omega
          · exact ⟨b, o, e, (HVf.out.cell (p := ⟨b, o + i, none⟩) hb).trans (hc i hqi)⟩
        subst hE
        clear hqi
        cases hfi : f i with
        | true =>
          rw [hfi] at hcell
          clear hfi
          have hcv : IntKind.u8.wrap ((i : Int) + 1) = (((UInt8.ofNat (i + 1)).toNat : Nat) : Int) := by
            rw [byte_num i (by have := HLT.out; omega), IntKind.wrap_u8]; have := HLT.out; omega
          have hin : IntKind.i64.wrap ((i : Int) + 1) = (i : Int) + 1 := by rw [IntKind.wrap_i64]; have := HLT.out; omega
          obtain ⟨z, hz⟩ : ∃ z, z = UInt8.ofNat (i + 1) := ⟨_, rfl⟩
          rw [← hz] at hcv
          clear hz
          obtain ⟨gz, hgz⟩ : ∃ g, g = wf.heap.size := ⟨_, rfl⟩
          obtain ⟨wh, hwh⟩ : ∃ q, q = wf.alloc (.cells #[byV z] 5) := ⟨_, rfl⟩
          have hbh : Below wf.heap.size wf wh := by rw [hwh]; exact below_new _ _
          have HDh := Lib.hid (show DatAt wh ⟨some ⟨gz, 0, none⟩, 1, 1⟩ [z] by rw [hwh, hgz]; exact DatAt.one wf z)
          have HKh := Lib.hid (HKf.out.below hbh)
          have HXh := Lib.hid (HXf.out.below hbh)
          have HGh := Lib.hid (HGf.out.below hbh)
          have HTh := Lib.hid (HTf.out.below hbh)
          have HVh := Lib.hid (HVf.out.trans (hbh.mono HVf.out.size))
          have r0 : wf.cell? ⟨g, 0, none⟩ = some (.slice A2 (i + 1) k2) := HKf.out.c 0 _ rfl
          have r1 : wf.cell? ⟨g, 1, none⟩ = some (.int .i64 ((i : Int) + 1)) := HKf.out.c 1 _ rfl
          have t0 := HGf.out.v0
          have t1 := HGf.out.v1
          have hwr := HWR.out A1 B1 n1 a1 m1 b1 t A2 (i + 1) k2 ((i : Int) + 1) (deepT (i + 1)) (i : Int) 0 ⟨some ⟨gz, 0, none⟩, 1, 1⟩ [z] wh HTh.out HDF.out.s (by have := HLE.out; have := HLT.out; omega) HXh.out (deep_good _ (by have := HLT.out; omega)) (deep_c (i + 1)) (by have := HLT.out; omega) (deep_len _) HK2.out (by unfold okI; have := HLT.out; omega) (by decide) HDh.out (by simp)
          rw [hgz, hwh] at hwr
          go_wp2_with fail
          refine hwr.mono ?_
          rw [← hgz, ← hwh]
          rintro e w4 ⟨hv4, ⟨_, A4, n4, a4, B4, m4, b4, haw, rfl, ht4⟩ | ⟨hno, _⟩⟩
          case inr =>
            exact absurd (askV_ok (by rw [HDF.out.n]; decide) (by rw [deep_len]; omega) (by rw [Int.toNat_natCast, deep_new])) hno
          have HY4 := Lib.hid (show Away A4 B4 g ∧ Away A4 B4 gt from ⟨haw g (.inl ⟨HKh.out.lt, HY.out.1⟩), haw gt (.inl ⟨HGh.out.lt, HY.out.2⟩)⟩)
          have HT4 := Lib.hid ht4
          have HK4 := Lib.hid (HKh.out.below hv4)
          have HX4 := Lib.hid (HXh.out.below hv4)
          have HG4 := Lib.hid (HGh.out.below hv4)
          have HV4 := Lib.hid (HVh.out.trans (hv4.mono HVh.out.size))
          have HD4 := Lib.hid (HDF.out.write (by have := HLT.out; omega) (padV [z]) (padV_len (by simp)))
          have HL4 := Lib.hid (show (putV ⟨0, (i : Int), padV [z]⟩ t.L).length ≤ i + 1 by have := putV_len (v := ⟨0, (i : Int), padV [z]⟩) (L := t.L); have := HLE.out; omega)
          obtain ⟨t4, HE4⟩ : ∃ t4, Hid (t4 = (⟨t.B, putV ⟨0, (i : Int), padV [z]⟩ t.L⟩ : Vt)) := ⟨_, Lib.hid rfl⟩
          rw [← HE4.out] at HT4 HD4
          have HL5 := Lib.hid (show t4.L.length ≤ i + 1 by rw [HE4.out]; exact HL4.out)
          clear hwr ht4 haw hv4 hgz hwh hbh HDh HKh HXh HGh HTh HVh HTf HKf HGf HXf HVf r0 r1 t0 t1 hcell HDS HLS HL4 HE4
          go_upto_region 15 with fail
          obtain ⟨gb, hgb⟩ : ∃ g, g = w4.heap.size := ⟨_, rfl⟩
          obtain ⟨w5, hw5⟩ : ∃ q, q = w4.alloc (.cells (vtC A4 n4 a4 B4 m4 b4) 30) := ⟨_, rfl⟩
          have hb5 : Below w4.heap.size w4 w5 := by rw [hw5]; exact below_new _ _
          have HB5 := Lib.hid (show Bk w5 gb (vtC A4 n4 a4 B4 m4 b4) 30 by rw [hw5, hgb]; exact Bk.new w4 _ _)
          have HX5 := Lib.hid (HX4.out.below hb5)
          have HK5 := Lib.hid (HK4.out.below hb5)
          have HG5 := Lib.hid (HG4.out.below hb5)
          have HT5 := Lib.hid (HT4.out.below hb5)
          have HV5 := Lib.hid (HV4.out.trans (hb5.mono HV4.out.size))
          rw [← hgb, ← hw5]
          clear hgb hw5 hb5 HX4 HK4 HG4 HT4 HV4
          have t0 := HB5.out.v0
          have t1 := HB5.out.v1
          have f0 := HG5.out.fr 0
          have f1 := HG5.out.fr 1
          have g0 := HG5.out.v0
          have g1 := HG5.out.v1
          go_upto_region 18 with fail
          have HG6 := Lib.hid (HG5.out.two (.slice A4 n4 a4) (.slice B4 m4 b4))
          have hT := Turn.two (W := w5) gt (.slice A4 n4 a4) (.slice B4 m4 b4)
          have HT6 := Lib.hid (HT5.out.off HG5.out vtc_by HY4.out.2 hT)
          have HK6 := Lib.hid (HK5.out.turn hT HNE.out.1)
          have HX6 := Lib.hid (HX5.out.turn hT (tx_far HX5.out HG5.out))
          have HV6 := Lib.hid (HV5.out.trans (hT.below (B := w.heap.size) (fun q h => by have := HNE.out.2; omega) HV5.out.size))
          generalize (w5.setCell ⟨gt, 0, none⟩ (.slice A4 n4 a4)).setCell ⟨gt, 1, none⟩ (.slice B4 m4 b4) = w6 at *
          clear hT HB5 HX5 HK5 HG5 HT5 HV5 t0 t1 f0 f1 g0 g1
          have r0 : w6.cell? ⟨g, 0, none⟩ = some (.slice A2 (i + 1) k2) := HK6.out.c 0 _ rfl
          have r1 : w6.cell? ⟨g, 1, none⟩ = some (.int .i64 ((i : Int) + 1)) := HK6.out.c 1 _ rfl
          have t0 := HG6.out.v0
          have t1 := HG6.out.v1
          have hrd := HRD.out A4 B4 n4 a4 m4 b4 t4 A2 (i + 1) k2 ((i : Int) + 1) (deepT (i + 1)) (i : Int) 0 w6 HT6.out HD4.out.s (by have := HL5.out; have := HLT.out; omega) HX6.out (deep_good _ (by have := HLT.out; omega)) (deep_c (i + 1)) (by have := HLT.out; omega) (deep_len _) (by unfold okI; have := HLT.out; omega) (by decide)
          go_wp2_with fail
          refine hrd.mono ?_
          rintro e wp ⟨hvp, ⟨_, Ap, cp, rfl, hdp⟩ | ⟨hno, _⟩⟩
          case inr =>
            exact absurd (askV_ok (by rw [HD4.out.n]; decide) (by rw [deep_len]; omega) (by rw [Int.toNat_natCast, deep_new])) hno
          have hdp2 : DatAt wp ⟨Ap, 32, cp⟩ (padV [z]) := by
            have h := HD4.out.r
            rw [deep_at] at hdp
            rw [h] at hdp
            exact hdp
          obtain ⟨bp, op, hAp, hbp, hcp⟩ := hdp2.get (i := 0) (padV_head z [])
          simp only at hAp
          subst hAp
          have hcp0 : wp.cell? ⟨bp, op, none⟩ = some (byV z) := hcp
          have hcp1 : wp.cell? ⟨bp, op + 0, none⟩ = some (byV z) := hcp
          have HKp := Lib.hid (HK6.out.below hvp)
          have HXp := Lib.hid (HX6.out.below hvp)
          have HGp := Lib.hid (HG6.out.below hvp)
          have HTp := Lib.hid (HT6.out.below hvp)
          have HVp := Lib.hid (HV6.out.trans (hvp.mono HV6.out.size))
          clear hrd hvp hdp hdp2 hbp hcp r0 r1 t0 t1
          have hq8 : i < 8 := HLT.out
          go_wp2_with fail
          exact ⟨⟨i + 1, z, A2, k2, A4, n4, a4, B4, m4, b4, t4, rfl, rfl, HIK.out, HD4, HL5, HXp, Lib.hid (show Bk _ g (txC2 A2 (i + 1) k2 (((i + 1 : Nat)) : Int)) _ from HKp.out), HGp, HTp, HY4, HVp⟩, by have := HIK.out; simp [intOf]; omega⟩
        | false =>
          rw [hfi] at hcell
          clear hfi
          have r0 : wf.cell? ⟨g, 0, none⟩ = some (.slice A2 (i + 1) k2) := HKf.out.c 0 _ rfl
          have r1 : wf.cell? ⟨g, 1, none⟩ = some (.int .i64 ((i : Int) + 1)) := HKf.out.c 1 _ rfl
          have t0 := HGf.out.v0
          have t1 := HGf.out.v1
          have hrd := HRD.out A1 B1 n1 a1 m1 b1 t A2 (i + 1) k2 ((i : Int) + 1) (deepT (i + 1)) (i : Int) 0 wf HTf.out HDS.out.s (by have := HLS.out; have := HLT.out; omega) HXf.out (deep_good _ (by have := HLT.out; omega)) (deep_c (i + 1)) (by have := HLT.out; omega) (deep_len _) (by unfold okI; have := HLT.out; omega) (by decide)
          go_wp2_with fail
          refine hrd.mono ?_
          rintro e wp ⟨hvp, ⟨_, Ap, cp, rfl, hdp⟩ | ⟨hno, _⟩⟩
          case inr =>
            exact absurd (askV_ok (by rw [HDS.out.n]; decide) (by rw [deep_len]; omega) (by rw [Int.toNat_natCast, deep_new])) hno
          have hdp2 : DatAt wp ⟨Ap, 32, cp⟩ (padV [y]) := by
            have h := HDS.out.r
            rw [deep_at] at hdp
            rw [h] at hdp
            exact hdp
          obtain ⟨bp, op, hAp, hbp, hcp⟩ := hdp2.get (i := 0) (padV_head y [])
          simp only at hAp
          subst hAp
          have hcp0 : wp.cell? ⟨bp, op, none⟩ = some (byV y) := hcp
          have hcp1 : wp.cell? ⟨bp, op + 0, none⟩ = some (byV y) := hcp
          have HKp := Lib.hid (HKf.out.below hvp)
          have HXp := Lib.hid (HXf.out.below hvp)
          have HGp := Lib.hid (HGf.out.below hvp)
          have HTp := Lib.hid (HTf.out.below hvp)
          have HVp := Lib.hid (HVf.out.trans (hvp.mono HVf.out.size))
          clear hrd hvp hdp hdp2 hbp hcp r0 r1 t0 t1
          have hq8 : i < 8 := HLT.out
          go_wp2_with fail
          exact ⟨⟨i + 1, y, A2, k2, A1, n1, a1, B1, m1, b1, t, rfl, rfl, HIK.out, HDS, HLS, HXp, Lib.hid (show Bk _ g (txC2 A2 (i + 1) k2 (((i + 1 : Nat)) : Int)) _ from HKp.out), HGp, HTp, HY, HVp⟩, by have := HIK.out; simp [intOf]; omega⟩
      · have hd6 : decide ((i : Int) < (q : Int)) = false := decide_eq_false (by omega)
        have hd7 : decide (i < q) = false := decide_eq_false (by omega)
        have hi2 : ¬ (i : Int) < (q : Int) := by omega
        clear hqi
        have r0 : wf.cell? ⟨g, 0, none⟩ = some (.slice A2 (i + 1) k2) := HKf.out.c 0 _ rfl
        have r1 : wf.cell? ⟨g, 1, none⟩ = some (.int .i64 ((i : Int) + 1)) := HKf.out.c 1 _ rfl
        have t0 := HGf.out.v0
        have t1 := HGf.out.v1
        have hrd := HRD.out A1 B1 n1 a1 m1 b1 t A2 (i + 1) k2 ((i : Int) + 1) (deepT (i + 1)) (i : Int) 0 wf HTf.out HDS.out.s (by have := HLS.out; have := HLT.out; omega) HXf.out (deep_good _ (by have := HLT.out; omega)) (deep_c (i + 1)) (by have := HLT.out; omega) (deep_len _) (by unfold okI; have := HLT.out; omega) (by decide)
        go_wp2_with fail
        refine hrd.mono ?_
        rintro e wp ⟨hvp, ⟨_, Ap, cp, rfl, hdp⟩ | ⟨hno, _⟩⟩
        case inr =>
          exact absurd (askV_ok (by rw [HDS.out.n]; decide) (by rw [deep_len]; omega) (by rw [Int.toNat_natCast, deep_new])) hno
        have hdp2 : DatAt wp ⟨Ap, 32, cp⟩ (padV [y]) := by
          have h := HDS.out.r
          rw [deep_at] at hdp
          rw [h] at hdp
          exact hdp
        obtain ⟨bp, op, hAp, hbp, hcp⟩ := hdp2.get (i := 0) (padV_head y [])
        simp only at hAp
        subst hAp
        have hcp0 : wp.cell? ⟨bp, op, none⟩ = some (byV y) := hcp
        have hcp1 : wp.cell? ⟨bp, op + 0, none⟩ = some (byV y) := hcp
        have HKp := Lib.hid (HKf.out.below hvp)
        have HXp := Lib.hid (HXf.out.below hvp)
        have HGp := Lib.hid (HGf.out.below hvp)
        have HTp := Lib.hid (HTf.out.below hvp)
        have HVp := Lib.hid (HVf.out.trans (hvp.mono HVf.out.size))
        clear hrd hvp hdp hdp2 hbp hcp r0 r1 t0 t1
        have hq8 : i < 8 := HLT.out
        go_wp2_with fail
        exact ⟨⟨i + 1, y, A2, k2, A1, n1, a1, B1, m1, b1, t, rfl, rfl, HIK.out, HDS, HLS, HXp, Lib.hid (show Bk _ g (txC2 A2 (i + 1) k2 (((i + 1 : Nat)) : Int)) _ from HKp.out), HGp, HTp, HY, HVp⟩, by have := HIK.out; simp [intOf]; omega⟩
    · obtain rfl : i = K := by omega
      have hd4 : decide ((i : Int) < (i : Int)) = false := decide_eq_false (by omega)
      have hd5 : decide (i < i) = false := decide_eq_false (by omega)
      have hsb : IntKind.i64.wrap ((i : Int) - 1) = (i : Int) - 1 := by rw [IntKind.wrap_i64]; have := HK8.out; omega
      have HL8 := Lib.hid (show t.L.length ≤ 8 by have := HLE.out; have := HK8.out; omega)
      clear hge hi HX HK HLE
      go_wp2_with fail
      obtain ⟨wz, rfl⟩ : ∃ wz, wz = wr := ⟨_, rfl⟩
      go_loopw [18] (fun u wr => ∃ (j : Nat) (A3 : Option Addr) (n3 a3 : Nat) (B3 : Option Addr) (m3 b3 : Nat) (t3 : Vt), u = .int .i64 ((j : Int) - 1) ∧ j ≤ i ∧ Hid (DeepF t3 j (padV [y])) ∧ Hid (t3.L.length ≤ 8) ∧ Hid (Bk wr gt (vtC A3 n3 a3 B3 m3 b3) 30) ∧ Hid (VtAt RVo wr A3 n3 a3 B3 m3 b3 t3) ∧ Hid (Away A3 B3 gt) ∧ Hid (Below w.heap.size w wr)) (fun u _ => (intOf u + 1).toNat)
      case atStart => exact ⟨i, A1, n1, a1, B1, m1, b1, t, rfl, Nat.le_refl _, HDF, HL8, HGT, HT, Lib.hid HY.out.2, HV⟩
      case round =>
        obtain ⟨j, A3, n3, a3, B3, m3, b3, t3, rfl, hj, HD3, HL3, HG3, HT3, HY3, HV3⟩ := hrel
        clear hd4 hd5 hsb HDF HL8 HGT HT HV HY
        have t0 := HG3.out.v0
        have t1 := HG3.out.v1
        cases j with
        | succ j =>
          have e1 : (((j + 1 : Nat) : Int) - 1) = (j : Int) := by omega
          rw [e1]
          clear e1
          have hd4 : decide ((0 : Int) ≤ (j : Int)) = true := decide_eq_true (by omega)
          have hi1 : (0 : Int) ≤ (j : Int) := by omega
          have HJ := Lib.hid (show j < 8 by have := HK8.out; omega)
          have HJ2 := Lib.hid hj
          have hsb : IntKind.i64.wrap ((j : Int) - 1) = (j : Int) - 1 := by rw [IntKind.wrap_i64]; have := HJ.out; omega
          have hps := HPS.out A3 B3 n3 a3 m3 b3 t3 (j : Int) ((j : Int) - 1) wr HT3.out HD3.out.s (by have := HL3.out; omega) (by unfold okI; have := HJ.out; omega) (by unfold okI; have := HJ.out; omega) (by have := HJ.out; omega)
          clear hj
          go_wp2_with fail
          refine hps.mono ?_
          rintro e w7 ⟨hv7, A7, n7, a7, B7, m7, b7, haw, rfl, ht7⟩
          have HD7 := Lib.hid (HD3.out.pass (by have := HJ.out; omega))
          have HL7 := Lib.hid (show (t3.pass (j : Int) ((j : Int) - 1)).L.length ≤ 8 by have := pass_len t3 (j : Int) ((j : Int) - 1); have := HL3.out; omega)
          have HT7 := Lib.hid ht7
          have HY7 := Lib.hid (haw gt (.inl ⟨HG3.out.lt, HY3.out⟩))
          have HG7 := Lib.hid (HG3.out.below hv7)
          have HV7 := Lib.hid (HV3.out.trans (hv7.mono HV3.out.size))
          clear hps ht7 hv7 haw HT3 HG3 HV3 HY3 HD3 HL3 t0 t1
          generalize t3.pass (j : Int) ((j : Int) - 1) = t7 at *
          have f0 := HG7.out.fr 0
          have f1 := HG7.out.fr 1
          have g0 := HG7.out.v0
          have g1 := HG7.out.v1
          go_wp2_with fail
          have HG8 := Lib.hid (HG7.out.two (.slice A7 n7 a7) (.slice B7 m7 b7))
          have hT := Turn.two (W := w7) gt (.slice A7 n7 a7) (.slice B7 m7 b7)
          have HT8 := Lib.hid (HT7.out.off HG7.out vtc_by HY7.out hT)
          have HV8 := Lib.hid (HV7.out.trans (hT.below (B := w.heap.size) (fun q h => by have := HNE.out.2; omega) HV7.out.size))
          exact ⟨⟨j, A7, n7, a7, B7, m7, b7, t7, rfl, by have := HJ2.out; omega, HD7, HL7, HG8, HT8, HY7, HV8⟩, by simp [intOf]⟩
        | zero =>
          have hdn := HD3.out.done
          subst hdn
          obtain ⟨ss, hss⟩ := HT3.out.base
          obtain ⟨vs, hvs⟩ := HT3.out.vers
          obtain rfl : n3 = 1 := hss.k.symm
          obtain rfl : m3 = 0 := hvs.k.symm
          obtain ⟨bw, ow, Ax, nx, cx, hA3, hbw, hc3, hdx⟩ := bas_cells hss (i := 0) (by omega)
          subst hA3
          have hdy : DatAt wr ⟨Ax, nx, cx⟩ (padV [y]) := hdx
          obtain rfl : nx = 32 := by have := hdy.n; rw [padV_len (by simp)] at this; exact this.symm
          obtain ⟨bp, op, hAp, hbp, hcp⟩ := hdy.get (i := 0) (padV_head y [])
          simp only at hAp
          subst hAp
          have c0 : wr.cell? ⟨bw, ow, none⟩ = some (.slice (some ⟨bp, op, none⟩) 32 cx) := hc3
          have c1 : wr.cell? ⟨bp, op, none⟩ = some (byV y) := hcp
          clear hc3 hdx hdy hbp hcp hbw hss hvs
          go_wp2_with fail
          go_ret
          exact ⟨rfl, HV3.out⟩
end Go.Proofs.Ytmhnjmfcenbogaa
