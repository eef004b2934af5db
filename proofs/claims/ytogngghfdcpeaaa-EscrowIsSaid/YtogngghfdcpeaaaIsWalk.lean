/-
  EscrowIs: whatever table, transactions and numbers come in: both sides answer alike.
-/
import Derived.Test.YtogngghfdcpeaaaKr
import Derived.Test.YtogngghfdcpeaaaKo
import Derived.Test.YtogngghfdcpeaaaRl
namespace Go.Proofs.Ytogngghfdcpeaaa
set_option maxRecDepth 100000
set_option linter.unusedVariables false
set_option linter.unusedSimpArgs false
open Go.RowKit

theorem run_rs_in (a b c d : Int) (w : World) : (Op.equalIn 10000 63 (.agg #[.int .i64 a, .int .i64 b]) (.agg #[.int .i64 c, .int .i64 d])).run Try.prog w = .ok (a == c && b == d) w := by
  have hf : Try.prog.underlying 63 = some (.struct (Try.prog.fieldsOf 63)) := by kernel_rfl
  have h0 := run_part_one 3 .i64 Try.underlying3 #[.int .i64 a, .int .i64 b] 0 _ rfl w
  have h1 := run_part_one 3 .i64 Try.underlying3 #[.int .i64 a, .int .i64 b] 1 _ rfl w
  have k0 := run_part_one 3 .i64 Try.underlying3 #[.int .i64 c, .int .i64 d] 0 _ rfl w
  have k1 := run_part_one 3 .i64 Try.underlying3 #[.int .i64 c, .int .i64 d] 1 _ rfl w
  have he : ∀ x y : Int, (Op.equalIn 9999 3 (.int .i64 x) (.int .i64 y)).run Try.prog w = .ok (x == y) w := fun x y => run_eq_i64 9998 x y w
  rw [run_equalIn_agg w 9999 _ _ _ hf (by kernel_rfl)]
  simp only [Program.fieldsOf, Try.underlying63]
  have hn : ∀ s : String, (s = "Lo" ∨ s = "Hi") → s ≠ "_" := by
    intro s hs e
    subst e
    rcases hs with hs | hs <;> exact absurd hs (by decide)
  simp only [Op.eqFields]
  rw [if_pos (hn _ (.inl rfl)), if_pos (hn _ (.inr rfl))]
  clear hn hf
  cases e0 : (a == c) <;> cases e1 : (b == d) <;> simp [Sem.run_bind, h0, h1, k0, k1, Result.andThen_ok, he, e0, e1]
theorem run_rs_eql (a b c d : Int) (w : World) : (binOp .eql 63 (.agg #[.int .i64 a, .int .i64 b]) (.agg #[.int .i64 c, .int .i64 d])).run Try.prog w = .ok (.bool (a == c && b == d)) w := by
  simp only [binOp]
  simp [Op.equal, Op.maxDepth, run_rs_in a b c d w]
theorem run_rs_neq (a b c d : Int) (w : World) : (binOp .neq 63 (.agg #[.int .i64 a, .int .i64 b]) (.agg #[.int .i64 c, .int .i64 d])).run Try.prog w = .ok (.bool (!(a == c && b == d))) w := by
  simp only [binOp]
  simp [Op.equal, Op.maxDepth, run_rs_in a b c d w]
theorem run_rs_guard (op : BinOp) (x y : Operand) (s t : Array Value) (w : World) : (eqGuard op 63 x y (.agg s) (.agg t)).run Try.prog w = .ok () w :=
  run_eqGuard_agg (P := Try.prog) w _ _ _ _ _ _ (by kernel_rfl)


theorem own_tb {W : World} {base cb : Nat} {A B : Option Addr} {n a m b : Nat} {t : Tb} (hC : RCo.Own W cb (.slice A n a) t.C) (hP : RPo.Own W base (.slice B m b) t.P) (hn : t.C.length = n) (hm : t.P.length = m) (okC : ∀ c ∈ t.C, c.Ok) (okP : ∀ p ∈ t.P, p.Ok) : TbAto W A n B m t :=
  ⟨hn, hm, okC, okP, (own_parts rc_oko hC hn).1, (own_parts rp_oko hP hm).1⟩

set_option maxHeartbeats 8000000 in
theorem is_walk (A B : Option Addr) (n a m b : Nat) (t : Tb) (D : Option Addr) (N d : Nat) (c : Int) (T : Tr) (x k z par : Int) (E : Option Addr) (q r : Nat) (l : List Int) (hx : okI x) (hk : okI k) (hz : okI z) (hpar : okI par) (w : World)
    (ht : TbAt w A n B m t) (hsp : t.C = [] ∨ Sp A) (hr : TrAt w D N T) (hl : Ls w E q l) :
    Calls Try.prog 3 #[tbV A n a B m b, trV D N d c, .int .i64 x, .int .i64 k, .int .i64 z, .int .i64 par, .slice E q r] w fun e w' => e = .returned (.bool true) ∧ Below w.heap.size w w' := by
  have HT := Lib.hid ht
  have HSP := Lib.hid hsp
  have HR := Lib.hid hr
  have HL := Lib.hid hl
  have HOX := Lib.hid hx
  have HOK := Lib.hid hk
  have HOZ := Lib.hid hz
  have HOP := Lib.hid hpar
  have HAW := Lib.hid (fun V => awake_any V)
  have hk0 := (Bk.new w (tbC A n a B m b) 25).al (.cells (trC D N d c) 28)
  have hk1 := Bk.new (w.alloc (.cells (tbC A n a B m b) 25)) (trC D N d c) 28
  rw [size_al] at hk1
  have K7 := Lib.hid hk0
  have K8 := Lib.hid hk1
  have HB := Lib.hid (below_two (below_new w (.cells (tbC A n a B m b) 25)) (below_new _ (.cells (trC D N d c) 28)))
  clear ht hsp hr hl hx hk hz hpar hk0 hk1
  go_enter Try.func3, Try.ntmps3
  go_wp2_with fail
  refine (HAW.out _).mono ?_
  rintro e w1 ⟨rfl, hv⟩
  replace K7 := Lib.hid (K7.out.below hv)
  replace K8 := Lib.hid (K8.out.below hv)
  replace HB := Lib.hid (HB.out.trans (hv.mono HB.out.size))
  clear hv HAW
  have a0 := K7.out.t0
  have a1 := K7.out.t1
  have b0 := K8.out.r_0
  have b1 := K8.out.r_1
  rcases Nat.lt_or_ge 70 n with hbig | hfewn
  · have d1 : decide ((n : Int) > 70) = true := decide_eq_true (by omega)
    have d2 : decide ((70 : Int) < (n : Int)) = true := decide_eq_true (by omega)
    have d3 : decide (70 < n) = true := decide_eq_true hbig
    go_wp2_with fail
    go_ret
    exact ⟨rfl, HB.out⟩
  have dn1 : decide ((n : Int) > 70) = false := decide_eq_false (by omega)
  have dn2 : decide ((70 : Int) < (n : Int)) = false := decide_eq_false (by omega)
  have dn3 : decide (70 < n) = false := decide_eq_false (by omega)
  rcases Nat.lt_or_ge 60 m with hbig | hfewm
  · have d1 : decide ((m : Int) > 60) = true := decide_eq_true (by omega)
    have d2 : decide ((60 : Int) < (m : Int)) = true := decide_eq_true (by omega)
    have d3 : decide (60 < m) = true := decide_eq_true hbig
    go_wp2_with fail
    go_ret
    exact ⟨rfl, HB.out⟩
  have dm1 : decide ((m : Int) > 60) = false := decide_eq_false (by omega)
  have dm2 : decide ((60 : Int) < (m : Int)) = false := decide_eq_false (by omega)
  have dm3 : decide (60 < m) = false := decide_eq_false (by omega)
  rcases Nat.lt_or_ge 66 N with hbig | hfewN
  · have d1 : decide ((N : Int) > 66) = true := decide_eq_true (by omega)
    have d2 : decide ((66 : Int) < (N : Int)) = true := decide_eq_true (by omega)
    have d3 : decide (66 < N) = true := decide_eq_true hbig
    go_wp2_with fail
    go_ret
    exact ⟨rfl, HB.out⟩
  have dN1 : decide ((N : Int) > 66) = false := decide_eq_false (by omega)
  have dN2 : decide ((66 : Int) < (N : Int)) = false := decide_eq_false (by omega)
  have dN3 : decide (66 < N) = false := decide_eq_false (by omega)
  rcases Nat.lt_or_ge 60 q with hbig | hfewq
  · have d1 : decide ((q : Int) > 60) = true := decide_eq_true (by omega)
    have d2 : decide ((60 : Int) < (q : Int)) = true := decide_eq_true (by omega)
    have d3 : decide (60 < q) = true := decide_eq_true hbig
    go_wp2_with fail
    go_ret
    exact ⟨rfl, HB.out⟩
  have dq1 : decide ((q : Int) > 60) = false := decide_eq_false (by omega)
  have dq2 : decide ((60 : Int) < (q : Int)) = false := decide_eq_false (by omega)
  have dq3 : decide (60 < q) = false := decide_eq_false (by omega)
  go_wp2_with fail
  refine (ours_any A B n a m b t (by omega) (by omega) w1 (HT.out.below HB.out)).mono ?_
  rintro e w2 ⟨A1, a1', B1, b1', rfl, hto, ⟨hq1, hq2, hq3, hq4, hq5⟩, hv⟩
  have HO := Lib.hid (show TbO w2 A1 n a1' B1 m b1' t from ⟨hto, hq1, .inr hq2, hq3, .inr hq4, hq5⟩)
  clear hto hq1 hq2 hq3 hq4 hq5 a0 a1 b0 b1
  clear dn1 dn2 dn3
  clear dm1 dm2 dm3
  clear dN1 dN2 dN3
  clear dq1 dq2 dq3
  replace K7 := Lib.hid (K7.out.below hv)
  replace K8 := Lib.hid (K8.out.below hv)
  replace HB := Lib.hid (HB.out.trans (hv.mono HB.out.size))
  clear hv
  go_upto_region 5 with fail
  obtain ⟨g16, hg16⟩ : ∃ q, q = w2.heap.size := ⟨_, rfl⟩
  obtain ⟨w3, hw3⟩ : ∃ q, q = w2.alloc (.cells (tbC A1 n a1' B1 m b1') 34) := ⟨_, rfl⟩
  have hv : Below w2.heap.size w2 w3 := by rw [hw3]; exact below_new _ _
  have K16 := Lib.hid (show Bk w3 g16 (tbC A1 n a1' B1 m b1') 34 by rw [hw3, hg16]; exact Bk.new _ _ _)
  rw [← hg16, ← hw3]
  clear hg16 hw3
  replace K7 := Lib.hid (K7.out.below hv)
  replace K8 := Lib.hid (K8.out.below hv)
  replace HO := Lib.hid (HO.out.below hv)
  replace HB := Lib.hid (HB.out.trans (hv.mono HB.out.size))
  clear hv
  have b0 := K8.out.r_0
  have b1 := K8.out.r_1
  go_wp2_with fail
  refine (grove_any D N d c T (by omega) w3 (HR.out.below HB.out)).mono ?_
  rintro e w4 ⟨D1, d1', rfl, hrt, hv⟩
  have HG := Lib.hid hrt
  clear hrt b0 b1
  replace K7 := Lib.hid (K7.out.below hv)
  replace K8 := Lib.hid (K8.out.below hv)
  replace HO := Lib.hid (HO.out.below hv)
  replace K16 := Lib.hid (K16.out.below hv)
  replace HB := Lib.hid (HB.out.trans (hv.mono HB.out.size))
  clear hv
  go_upto_region 6 with fail
  obtain ⟨g17, hg17⟩ : ∃ q, q = w4.heap.size := ⟨_, rfl⟩
  obtain ⟨w5, hw5⟩ : ∃ q, q = w4.alloc (.cells (trC D1 N d1' c) 38) := ⟨_, rfl⟩
  have hv : Below w4.heap.size w4 w5 := by rw [hw5]; exact below_new _ _
  have K17 := Lib.hid (show Bk w5 g17 (trC D1 N d1' c) 38 by rw [hw5, hg17]; exact Bk.new _ _ _)
  rw [← hg17, ← hw5]
  clear hg17 hw5
  replace K7 := Lib.hid (K7.out.below hv)
  replace K8 := Lib.hid (K8.out.below hv)
  replace HO := Lib.hid (HO.out.below hv)
  replace K16 := Lib.hid (K16.out.below hv)
  replace HG := Lib.hid (HG.out.below hv)
  replace HB := Lib.hid (HB.out.trans (hv.mono HB.out.size))
  clear hv
  have a0 := K16.out.t0
  have a1 := K16.out.t1
  have b0 := K17.out.r_0
  have b1 := K17.out.r_1
  go_wp2_with fail
  refine (padd_any A1 B1 n a1' m b1' t D1 N d1' c T x k z HOX.out HOZ.out (by omega) w5 HO.out HG.out).mono ?_
  rintro e w6 ⟨A2, n2, a2, B2, m2, b2, rfl, ht2, hv⟩
  have H2 := Lib.hid ht2
  clear ht2 a0 a1 b0 b1
  replace K7 := Lib.hid (K7.out.below hv)
  replace K8 := Lib.hid (K8.out.below hv)
  replace HO := Lib.hid (HO.out.below hv)
  replace K16 := Lib.hid (K16.out.below hv)
  replace HG := Lib.hid (HG.out.below hv)
  replace K17 := Lib.hid (K17.out.below hv)
  replace HB := Lib.hid (HB.out.trans (hv.mono HB.out.size))
  clear hv
  go_upto_region 7 with fail
  obtain ⟨g18, hg18⟩ : ∃ q, q = w6.heap.size := ⟨_, rfl⟩
  obtain ⟨w7, hw7⟩ : ∃ q, q = w6.alloc (.cells (tbC A2 n2 a2 B2 m2 b2) 34) := ⟨_, rfl⟩
  have hv : Below w6.heap.size w6 w7 := by rw [hw7]; exact below_new _ _
  have K18 := Lib.hid (show Bk w7 g18 (tbC A2 n2 a2 B2 m2 b2) 34 by rw [hw7, hg18]; exact Bk.new _ _ _)
  rw [← hg18, ← hw7]
  clear hg18 hw7
  replace K7 := Lib.hid (K7.out.below hv)
  replace K8 := Lib.hid (K8.out.below hv)
  replace HO := Lib.hid (HO.out.below hv)
  replace K16 := Lib.hid (K16.out.below hv)
  replace HG := Lib.hid (HG.out.below hv)
  replace K17 := Lib.hid (K17.out.below hv)
  replace H2 := Lib.hid (H2.out.below hv)
  replace HB := Lib.hid (HB.out.trans (hv.mono HB.out.size))
  clear hv
  have a0 := K7.out.t0
  have a1 := K7.out.t1
  have b0 := K8.out.r_0
  have b1 := K8.out.r_1
  go_wp2_with fail
  refine (refadd_any A B n a m b t D N d c T x k z HOX.out HOK.out HOZ.out (by omega) (by omega) HSP.out w7 (HT.out.below HB.out) (HR.out.below HB.out)).mono ?_
  rintro e w8 ⟨A3, n3, a3, B3, m3, b3, rfl, ht3, hv⟩
  have H3 := Lib.hid ht3
  clear ht3 a0 a1 b0 b1
  replace K7 := Lib.hid (K7.out.below hv)
  replace K8 := Lib.hid (K8.out.below hv)
  replace HO := Lib.hid (HO.out.below hv)
  replace K16 := Lib.hid (K16.out.below hv)
  replace HG := Lib.hid (HG.out.below hv)
  replace K17 := Lib.hid (K17.out.below hv)
  replace H2 := Lib.hid (H2.out.below hv)
  replace K18 := Lib.hid (K18.out.below hv)
  replace HB := Lib.hid (HB.out.trans (hv.mono HB.out.size))
  clear hv
  go_upto_region 8 with fail
  obtain ⟨g20, hg20⟩ : ∃ q, q = w8.heap.size := ⟨_, rfl⟩
  obtain ⟨w9, hw9⟩ : ∃ q, q = w8.alloc (.cells (tbC A3 n3 a3 B3 m3 b3) 25) := ⟨_, rfl⟩
  have hv : Below w8.heap.size w8 w9 := by rw [hw9]; exact below_new _ _
  have K20 := Lib.hid (show Bk w9 g20 (tbC A3 n3 a3 B3 m3 b3) 25 by rw [hw9, hg20]; exact Bk.new _ _ _)
  rw [← hg20, ← hw9]
  clear hg20 hw9
  replace K7 := Lib.hid (K7.out.below hv)
  replace K8 := Lib.hid (K8.out.below hv)
  replace HO := Lib.hid (HO.out.below hv)
  replace K16 := Lib.hid (K16.out.below hv)
  replace HG := Lib.hid (HG.out.below hv)
  replace K17 := Lib.hid (K17.out.below hv)
  replace H2 := Lib.hid (H2.out.below hv)
  replace K18 := Lib.hid (K18.out.below hv)
  replace H3 := Lib.hid (H3.out.below hv)
  replace HB := Lib.hid (HB.out.trans (hv.mono HB.out.size))
  clear hv
  have a0 := K16.out.t0
  have a1 := K16.out.t1
  have b0 := K17.out.r_0
  have b1 := K17.out.r_1
  go_wp2_with fail
  refine (psee_any A1 B1 n a1' m b1' t D1 N d1' c T x k (by omega) (by omega) w9 HO.out HG.out).mono ?_
  rintro e w10 ⟨rfl, hv⟩
  clear a0 a1 b0 b1
  replace K7 := Lib.hid (K7.out.below hv)
  replace K8 := Lib.hid (K8.out.below hv)
  replace HO := Lib.hid (HO.out.below hv)
  replace K16 := Lib.hid (K16.out.below hv)
  replace HG := Lib.hid (HG.out.below hv)
  replace K17 := Lib.hid (K17.out.below hv)
  replace H2 := Lib.hid (H2.out.below hv)
  replace K18 := Lib.hid (K18.out.below hv)
  replace H3 := Lib.hid (H3.out.below hv)
  replace K20 := Lib.hid (K20.out.below hv)
  replace HB := Lib.hid (HB.out.trans (hv.mono HB.out.size))
  clear hv
  have a0 := K7.out.t0
  have a1 := K7.out.t1
  have b0 := K8.out.r_0
  have b1 := K8.out.r_1
  go_wp2_with fail
  refine (refsee_any A B n a m b t D N d c T x k (by omega) (by omega) w10 (HT.out.below HB.out) (HR.out.below HB.out)).mono ?_
  rintro e w11 ⟨rfl, hv⟩
  clear a0 a1 b0 b1
  replace K7 := Lib.hid (K7.out.below hv)
  replace K8 := Lib.hid (K8.out.below hv)
  replace HO := Lib.hid (HO.out.below hv)
  replace K16 := Lib.hid (K16.out.below hv)
  replace HG := Lib.hid (HG.out.below hv)
  replace K17 := Lib.hid (K17.out.below hv)
  replace H2 := Lib.hid (H2.out.below hv)
  replace K18 := Lib.hid (K18.out.below hv)
  replace H3 := Lib.hid (H3.out.below hv)
  replace K20 := Lib.hid (K20.out.below hv)
  replace HB := Lib.hid (HB.out.trans (hv.mono HB.out.size))
  clear hv
  obtain rfl : n3 = n2 := H3.out.cl.symm.trans H2.out.tb.cl
  obtain rfl : m3 = m2 := H3.out.pl.symm.trans H2.out.tb.pl
  have HLA := Lib.hid (show n3 ≤ 3000 ∧ m3 ≤ 3000 from by
    have h1 := H3.out.cl
    have h2 := H3.out.pl
    unfold Tb.addT at h1 h2
    split at h1
    · rename_i h0
      rw [if_pos h0] at h2
      have h3 := withL_len1 t.P ⟨k, x, max z 0, min z 0⟩
      have h4 := HT.out.cl
      have h5 := HT.out.pl
      simp only at h1 h2
      omega
    · rename_i h0
      rw [if_neg h0] at h2
      simp at h1 h2
      omega)
  generalize t.addT T x k z = ta at *
  generalize t.addE T x k z = ea at *
  generalize t.seeV T x k = sv at *
  generalize t.seeE T x k = se at *
  go_upto_region 10 with fail
  have q1 : (ea != ea) = false := by simp
  have q2 : (sv != sv) = false := by simp
  have q3 : (se != se) = false := by simp
  have X0 : ∀ V, Since w11 V → V.cell? ⟨g18, 0, none⟩ = some (.slice A2 n3 a2) := fun V hV => (K18.out.below hV).t0
  have X1 : ∀ V, Since w11 V → V.cell? ⟨g18, 1, none⟩ = some (.slice B2 m3 b2) := fun V hV => (K18.out.below hV).t1
  have X2 : ∀ V, Since w11 V → V.cell? ⟨g20, 0, none⟩ = some (.slice A3 n3 a3) := fun V hV => (K20.out.below hV).t0
  have X3 : ∀ V, Since w11 V → V.cell? ⟨g20, 1, none⟩ = some (.slice B3 m3 b3) := fun V hV => (K20.out.below hV).t1
  have X4 : ∀ V, Since w11 V → V.cell? ⟨g16, 0, none⟩ = some (.slice A1 n a1') := fun V hV => (K16.out.below hV).t0
  have X5 : ∀ V, Since w11 V → V.cell? ⟨g16, 1, none⟩ = some (.slice B1 m b1') := fun V hV => (K16.out.below hV).t1
  have X6 : ∀ V, Since w11 V → V.cell? ⟨w.heap.size, 0, none⟩ = some (.slice A n a) := fun V hV => (K7.out.below hV).t0
  have X7 : ∀ V, Since w11 V → V.cell? ⟨w.heap.size, 1, none⟩ = some (.slice B m b) := fun V hV => (K7.out.below hV).t1
  have HSN := Lib.hid (fun V (hV : Since w11 V) => psane_any A1 B1 n a1' m b1' t (by omega) HO.out.mb HO.out.sb V (HO.out.tb.below hV))
  have HRS := Lib.hid (fun V (hV : Since w11 V) => refsane_any A B n a m b t (by omega) V (HT.out.below (HB.out.trans (Below.mono hV HB.out.size))))
  obtain ⟨sn, hsn⟩ : ∃ sn, t.sane = sn := ⟨_, rfl⟩
  rw [hsn] at HSN HRS
  have HSE := Lib.hid hsn
  clear hsn
  cases sn
  · have q4 : ((false : Bool) != false) = false := rfl
    refine wp_region_since (by kernel_rfl) ?_
    have hS : Since w11 (World.drew w11) := (Below.refl _ _).drew
    refine wpAnyH_take (i := 0) (oi := ⟨some 88, _, _, _, _, _⟩) (v := ?_) rfl (by kernel_rfl) (by kernel_rfl) (by kernel_rfl) (fun _ _ _ h => h) (Or.inl ⟨by rfl, ?_⟩) hS ?_
    rotate_left
    · intro W hW; go_simp; with_reducible rfl
    try simp only [Act.put, List.setIfInBounds_toArray, List.set_cons_zero, List.set_cons_succ]
    refine wpAnyH_take (i := 2) (oi := ⟨some 90, _, _, _, _, _⟩) (v := ?_) rfl (by kernel_rfl) (by kernel_rfl) (by kernel_rfl) (fun _ _ _ h => h) (Or.inl ⟨by rfl, ?_⟩) hS ?_
    rotate_left
    · intro W hW; go_simp; with_reducible rfl
    try simp only [Act.put, List.setIfInBounds_toArray, List.set_cons_zero, List.set_cons_succ]
    refine wpAnyH_ready (rs := [1]) (by kernel_rfl) (by simp) ?_
    refine AllReadyH.cons (o := ⟨some 89, _, _, _, _, _⟩) rfl (fun Kr hKr => ?_) AllReadyH.nil
    -- operation 1: a call
    go_simp
    refine (theirs_any A2 B2 n3 a2 m3 b2 ta HLA.out.1 HLA.out.2 _ (H2.out.tb.below hS)).mono ?_
    rintro e V1 ⟨A4, a4, B4, b4, rfl, h4, hx⟩
    have H4 := Lib.hid h4
    clear h4
    show Kr _ _
    refine hKr.out _ _ ?_ (fun _ => ?_)
    · exact since_trans hS hx
    clear hKr Kr
    replace hS : Since w11 V1 := since_trans hS hx
    try simp only [Act.put, List.setIfInBounds_toArray, List.set_cons_zero, List.set_cons_succ]
    refine wpAnyH_ready (rs := [3]) (by kernel_rfl) (by simp) ?_
    refine AllReadyH.cons (o := ⟨some 91, _, _, _, _, _⟩) rfl (fun Kr hKr => ?_) AllReadyH.nil
    -- operation 3: a call
    go_simp
    refine (same13_any A4 B4 A3 B3 n3 a4 m3 b4 a3 b3 ta HLA.out.1 HLA.out.2 _ H4.out (H3.out.below hS)).mono ?_
    rintro e V2 ⟨rfl, hx⟩
    show Kr _ _
    refine hKr.out _ _ ?_ (fun _ => ?_)
    · exact since_trans hS hx
    clear hKr Kr
    replace hS : Since w11 V2 := since_trans hS hx
    try simp only [Act.put, List.setIfInBounds_toArray, List.set_cons_zero, List.set_cons_succ]
    refine wpAnyH_take (i := 4) (oi := ⟨some 92, _, _, _, _, _⟩) (v := ?_) rfl (by kernel_rfl) (by kernel_rfl) (by kernel_rfl) (fun _ _ _ h => h) (Or.inl ⟨by rfl, ?_⟩) hS ?_
    rotate_left
    · intro W hW; go_simp; with_reducible rfl
    try simp only [Act.put, List.setIfInBounds_toArray, List.set_cons_zero, List.set_cons_succ]
    refine wpAnyH_take (i := 5) (oi := ⟨some 93, _, _, _, _, _⟩) (v := ?_) rfl (by kernel_rfl) (by kernel_rfl) (by kernel_rfl) (fun _ _ _ h => h) (Or.inl ⟨by rfl, ?_⟩) hS ?_
    rotate_left
    · intro W hW; go_simp; with_reducible rfl
    try simp only [Act.put, List.setIfInBounds_toArray, List.set_cons_zero, List.set_cons_succ]
    refine wpAnyH_take (i := 6) (oi := ⟨some 94, _, _, _, _, _⟩) (v := ?_) rfl (by kernel_rfl) (by kernel_rfl) (by kernel_rfl) (fun _ _ _ h => h) (Or.inl ⟨by rfl, ?_⟩) hS ?_
    rotate_left
    · intro W hW; go_simp; with_reducible rfl
    try simp only [Act.put, List.setIfInBounds_toArray, List.set_cons_zero, List.set_cons_succ]
    refine wpAnyH_take (i := 7) (oi := ⟨some 95, _, _, _, _, _⟩) (v := ?_) rfl (by kernel_rfl) (by kernel_rfl) (by kernel_rfl) (fun _ _ _ h => h) (Or.inl ⟨by rfl, ?_⟩) hS ?_
    rotate_left
    · intro W hW; go_simp; with_reducible rfl
    try simp only [Act.put, List.setIfInBounds_toArray, List.set_cons_zero, List.set_cons_succ]
    refine wpAnyH_take (i := 8) (oi := ⟨some 96, _, _, _, _, _⟩) (v := ?_) rfl (by kernel_rfl) (by kernel_rfl) (by kernel_rfl) (fun _ _ _ h => h) (Or.inl ⟨by rfl, ?_⟩) hS ?_
    rotate_left
    · intro W hW; go_simp; with_reducible rfl
    try simp only [Act.put, List.setIfInBounds_toArray, List.set_cons_zero, List.set_cons_succ]
    refine wpAnyH_take (i := 9) (oi := ⟨some 97, _, _, _, _, _⟩) (v := ?_) rfl (by kernel_rfl) (by kernel_rfl) (by kernel_rfl) (fun _ _ _ h => h) (Or.inl ⟨by rfl, ?_⟩) hS ?_
    rotate_left
    · intro W hW; go_simp; with_reducible rfl
    try simp only [Act.put, List.setIfInBounds_toArray, List.set_cons_zero, List.set_cons_succ]
    refine wpAnyH_take (i := 10) (oi := ⟨some 98, _, _, _, _, _⟩) (v := ?_) rfl (by kernel_rfl) (by kernel_rfl) (by kernel_rfl) (fun _ _ _ h => h) (Or.inl ⟨by rfl, ?_⟩) hS ?_
    rotate_left
    · intro W hW; go_simp; with_reducible rfl
    try simp only [Act.put, List.setIfInBounds_toArray, List.set_cons_zero, List.set_cons_succ]
    refine wpAnyH_take (i := 11) (oi := ⟨some 99, _, _, _, _, _⟩) (v := ?_) rfl (by kernel_rfl) (by kernel_rfl) (by kernel_rfl) (fun _ _ _ h => h) (Or.inl ⟨by rfl, ?_⟩) hS ?_
    rotate_left
    · intro W hW; go_simp; with_reducible rfl
    try simp only [Act.put, List.setIfInBounds_toArray, List.set_cons_zero, List.set_cons_succ]
    refine wpAnyH_take (i := 12) (oi := ⟨some 100, _, _, _, _, _⟩) (v := ?_) rfl (by kernel_rfl) (by kernel_rfl) (by kernel_rfl) (fun _ _ _ h => h) (Or.inl ⟨by rfl, ?_⟩) hS ?_
    rotate_left
    · intro W hW; go_simp; with_reducible rfl
    try simp only [Act.put, List.setIfInBounds_toArray, List.set_cons_zero, List.set_cons_succ]
    refine wpAnyH_take (i := 13) (oi := ⟨some 101, _, _, _, _, _⟩) (v := ?_) rfl (by kernel_rfl) (by kernel_rfl) (by kernel_rfl) (fun _ _ _ h => h) (Or.inl ⟨by rfl, ?_⟩) hS ?_
    rotate_left
    · intro W hW; go_simp; with_reducible rfl
    try simp only [Act.put, List.setIfInBounds_toArray, List.set_cons_zero, List.set_cons_succ]
    refine wpAnyH_take (i := 14) (oi := ⟨some 102, _, _, _, _, _⟩) (v := ?_) rfl (by kernel_rfl) (by kernel_rfl) (by kernel_rfl) (fun _ _ _ h => h) (Or.inl ⟨by rfl, ?_⟩) hS ?_
    rotate_left
    · intro W hW; go_simp; with_reducible rfl
    try simp only [Act.put, List.setIfInBounds_toArray, List.set_cons_zero, List.set_cons_succ]
    refine wpAnyH_take (i := 15) (oi := ⟨some 103, _, _, _, _, _⟩) (v := ?_) rfl (by kernel_rfl) (by kernel_rfl) (by kernel_rfl) (fun _ _ _ h => h) (Or.inl ⟨by rfl, ?_⟩) hS ?_
    rotate_left
    · intro W hW; go_simp; with_reducible rfl
    try simp only [Act.put, List.setIfInBounds_toArray, List.set_cons_zero, List.set_cons_succ]
    refine wpAnyH_take (i := 16) (oi := ⟨some 104, _, _, _, _, _⟩) (v := ?_) rfl (by kernel_rfl) (by kernel_rfl) (by kernel_rfl) (fun _ _ _ h => h) (Or.inl ⟨by rfl, ?_⟩) hS ?_
    rotate_left
    · intro W hW; go_simp; with_reducible rfl
    try simp only [Act.put, List.setIfInBounds_toArray, List.set_cons_zero, List.set_cons_succ]
    refine wpAnyH_take (i := 17) (oi := ⟨some 105, _, _, _, _, _⟩) (v := ?_) rfl (by kernel_rfl) (by kernel_rfl) (by kernel_rfl) (fun _ _ _ h => h) (Or.inl ⟨by rfl, ?_⟩) hS ?_
    rotate_left
    · intro W hW; go_simp; with_reducible rfl
    try simp only [Act.put, List.setIfInBounds_toArray, List.set_cons_zero, List.set_cons_succ]
    refine wpAnyH_take (i := 18) (oi := ⟨some 106, _, _, _, _, _⟩) (v := ?_) rfl (by kernel_rfl) (by kernel_rfl) (by kernel_rfl) (fun _ _ _ h => h) (Or.inl ⟨by rfl, ?_⟩) hS ?_
    rotate_left
    · intro W hW; go_simp; with_reducible rfl
    try simp only [Act.put, List.setIfInBounds_toArray, List.set_cons_zero, List.set_cons_succ]
    refine wpAnyH_take (i := 19) (oi := ⟨some 107, _, _, _, _, _⟩) (v := ?_) rfl (by kernel_rfl) (by kernel_rfl) (by kernel_rfl) (fun _ _ _ h => h) (Or.inl ⟨by rfl, ?_⟩) hS ?_
    rotate_left
    · intro W hW; go_simp; with_reducible rfl
    try simp only [Act.put, List.setIfInBounds_toArray, List.set_cons_zero, List.set_cons_succ]
    refine wpAnyH_take (i := 20) (oi := ⟨some 108, _, _, _, _, _⟩) (v := ?_) rfl (by kernel_rfl) (by kernel_rfl) (by kernel_rfl) (fun _ _ _ h => h) (Or.inl ⟨by rfl, ?_⟩) hS ?_
    rotate_left
    · intro W hW; go_simp; with_reducible rfl
    try simp only [Act.put, List.setIfInBounds_toArray, List.set_cons_zero, List.set_cons_succ]
    refine wpAnyH_take (i := 21) (oi := ⟨some 109, _, _, _, _, _⟩) (v := ?_) rfl (by kernel_rfl) (by kernel_rfl) (by kernel_rfl) (fun _ _ _ h => h) (Or.inl ⟨by rfl, ?_⟩) hS ?_
    rotate_left
    · intro W hW; go_simp; with_reducible rfl
    try simp only [Act.put, List.setIfInBounds_toArray, List.set_cons_zero, List.set_cons_succ]
    refine wpAnyH_take (i := 23) (oi := ⟨some 111, _, _, _, _, _⟩) (v := ?_) rfl (by kernel_rfl) (by kernel_rfl) (by kernel_rfl) (fun _ _ _ h => h) (Or.inl ⟨by rfl, ?_⟩) hS ?_
    rotate_left
    · intro W hW; go_simp; with_reducible rfl
    try simp only [Act.put, List.setIfInBounds_toArray, List.set_cons_zero, List.set_cons_succ]
    refine wpAnyH_ready (rs := [22]) (by kernel_rfl) (by simp) ?_
    refine AllReadyH.cons (o := ⟨some 110, _, _, _, _, _⟩) rfl (fun Kr hKr => ?_) AllReadyH.nil
    -- operation 22: a call
    go_simp
    refine (HSN.out _ hS).mono ?_
    rintro e V3 ⟨rfl, hx⟩
    show Kr _ _
    refine hKr.out _ _ ?_ (fun _ => ?_)
    · exact since_trans hS hx
    clear hKr Kr
    replace hS : Since w11 V3 := since_trans hS hx
    try simp only [Act.put, List.setIfInBounds_toArray, List.set_cons_zero, List.set_cons_succ]
    refine wpAnyH_ready (rs := [24]) (by kernel_rfl) (by simp) ?_
    refine AllReadyH.cons (o := ⟨some 112, _, _, _, _, _⟩) rfl (fun Kr hKr => ?_) AllReadyH.nil
    -- operation 24: a call
    go_simp
    refine (HRS.out _ hS).mono ?_
    rintro e V4 ⟨rfl, hx⟩
    show Kr _ _
    refine hKr.out _ _ ?_ (fun _ => ?_)
    · exact since_trans hS hx
    clear hKr Kr
    replace hS : Since w11 V4 := since_trans hS hx
    try simp only [Act.put, List.setIfInBounds_toArray, List.set_cons_zero, List.set_cons_succ]
    refine wpAnyH_take (i := 25) (oi := ⟨some 113, _, _, _, _, _⟩) (v := ?_) rfl (by kernel_rfl) (by kernel_rfl) (by kernel_rfl) (fun _ _ _ h => h) (Or.inl ⟨by rfl, ?_⟩) hS ?_
    rotate_left
    · intro W hW; go_simp; with_reducible rfl
    try simp only [Act.put, List.setIfInBounds_toArray, List.set_cons_zero, List.set_cons_succ]
    refine wpAnyH_take (i := 26) (oi := ⟨some 114, _, _, _, _, _⟩) (v := ?_) rfl (by kernel_rfl) (by kernel_rfl) (by kernel_rfl) (fun _ _ _ h => h) (Or.inl ⟨by rfl, ?_⟩) hS ?_
    rotate_left
    · intro W hW; go_simp; with_reducible rfl
    try simp only [Act.put, List.setIfInBounds_toArray, List.set_cons_zero, List.set_cons_succ]
    refine wpAnyH_done (by kernel_rfl) ?_ _
    obtain ⟨w12, hw12⟩ : ∃ w12, w12 = V4 := ⟨_, rfl⟩
    subst hw12
    have HS12 := Lib.hid hS
    have HRS2 := Lib.hid (refsane_any A B n a m b t (by omega) w12 (HT.out.below (HB.out.trans (Below.mono HS12.out HB.out.size))))
    rw [HSE.out] at HRS2
    have a0 := (K7.out.below HS12.out).t0
    have a1 := (K7.out.below HS12.out).t1
    clear X0 X1 X2 X3 X4 X5 X6 X7 HSN HRS
    go_wp2_with fail
    refine HRS2.out.mono ?_
    rintro e w13 ⟨rfl, hv⟩
    have HB13 := Lib.hid (HB.out.trans (Below.mono (since_trans HS12.out hv) HB.out.size))
    clear hv a0 a1 HRS2
    go_wp2_with fail
    go_ret
    exact ⟨rfl, HB13.out⟩
  · have q4 : ((true : Bool) != true) = false := rfl
    refine wp_region_since (by kernel_rfl) ?_
    have hS : Since w11 (World.drew w11) := (Below.refl _ _).drew
    refine wpAnyH_take (i := 0) (oi := ⟨some 88, _, _, _, _, _⟩) (v := ?_) rfl (by kernel_rfl) (by kernel_rfl) (by kernel_rfl) (fun _ _ _ h => h) (Or.inl ⟨by rfl, ?_⟩) hS ?_
    rotate_left
    · intro W hW; go_simp; with_reducible rfl
    try simp only [Act.put, List.setIfInBounds_toArray, List.set_cons_zero, List.set_cons_succ]
    refine wpAnyH_take (i := 2) (oi := ⟨some 90, _, _, _, _, _⟩) (v := ?_) rfl (by kernel_rfl) (by kernel_rfl) (by kernel_rfl) (fun _ _ _ h => h) (Or.inl ⟨by rfl, ?_⟩) hS ?_
    rotate_left
    · intro W hW; go_simp; with_reducible rfl
    try simp only [Act.put, List.setIfInBounds_toArray, List.set_cons_zero, List.set_cons_succ]
    refine wpAnyH_ready (rs := [1]) (by kernel_rfl) (by simp) ?_
    refine AllReadyH.cons (o := ⟨some 89, _, _, _, _, _⟩) rfl (fun Kr hKr => ?_) AllReadyH.nil
    -- operation 1: a call
    go_simp
    refine (theirs_any A2 B2 n3 a2 m3 b2 ta HLA.out.1 HLA.out.2 _ (H2.out.tb.below hS)).mono ?_
    rintro e V1 ⟨A4, a4, B4, b4, rfl, h4, hx⟩
    have H4 := Lib.hid h4
    clear h4
    show Kr _ _
    refine hKr.out _ _ ?_ (fun _ => ?_)
    · exact since_trans hS hx
    clear hKr Kr
    replace hS : Since w11 V1 := since_trans hS hx
    try simp only [Act.put, List.setIfInBounds_toArray, List.set_cons_zero, List.set_cons_succ]
    refine wpAnyH_ready (rs := [3]) (by kernel_rfl) (by simp) ?_
    refine AllReadyH.cons (o := ⟨some 91, _, _, _, _, _⟩) rfl (fun Kr hKr => ?_) AllReadyH.nil
    -- operation 3: a call
    go_simp
    refine (same13_any A4 B4 A3 B3 n3 a4 m3 b4 a3 b3 ta HLA.out.1 HLA.out.2 _ H4.out (H3.out.below hS)).mono ?_
    rintro e V2 ⟨rfl, hx⟩
    show Kr _ _
    refine hKr.out _ _ ?_ (fun _ => ?_)
    · exact since_trans hS hx
    clear hKr Kr
    replace hS : Since w11 V2 := since_trans hS hx
    try simp only [Act.put, List.setIfInBounds_toArray, List.set_cons_zero, List.set_cons_succ]
    refine wpAnyH_take (i := 4) (oi := ⟨some 92, _, _, _, _, _⟩) (v := ?_) rfl (by kernel_rfl) (by kernel_rfl) (by kernel_rfl) (fun _ _ _ h => h) (Or.inl ⟨by rfl, ?_⟩) hS ?_
    rotate_left
    · intro W hW; go_simp; with_reducible rfl
    try simp only [Act.put, List.setIfInBounds_toArray, List.set_cons_zero, List.set_cons_succ]
    refine wpAnyH_take (i := 5) (oi := ⟨some 93, _, _, _, _, _⟩) (v := ?_) rfl (by kernel_rfl) (by kernel_rfl) (by kernel_rfl) (fun _ _ _ h => h) (Or.inl ⟨by rfl, ?_⟩) hS ?_
    rotate_left
    · intro W hW; go_simp; with_reducible rfl
    try simp only [Act.put, List.setIfInBounds_toArray, List.set_cons_zero, List.set_cons_succ]
    refine wpAnyH_take (i := 6) (oi := ⟨some 94, _, _, _, _, _⟩) (v := ?_) rfl (by kernel_rfl) (by kernel_rfl) (by kernel_rfl) (fun _ _ _ h => h) (Or.inl ⟨by rfl, ?_⟩) hS ?_
    rotate_left
    · intro W hW; go_simp; with_reducible rfl
    try simp only [Act.put, List.setIfInBounds_toArray, List.set_cons_zero, List.set_cons_succ]
    refine wpAnyH_take (i := 7) (oi := ⟨some 95, _, _, _, _, _⟩) (v := ?_) rfl (by kernel_rfl) (by kernel_rfl) (by kernel_rfl) (fun _ _ _ h => h) (Or.inl ⟨by rfl, ?_⟩) hS ?_
    rotate_left
    · intro W hW; go_simp; with_reducible rfl
    try simp only [Act.put, List.setIfInBounds_toArray, List.set_cons_zero, List.set_cons_succ]
    refine wpAnyH_take (i := 8) (oi := ⟨some 96, _, _, _, _, _⟩) (v := ?_) rfl (by kernel_rfl) (by kernel_rfl) (by kernel_rfl) (fun _ _ _ h => h) (Or.inl ⟨by rfl, ?_⟩) hS ?_
    rotate_left
    · intro W hW; go_simp; with_reducible rfl
    try simp only [Act.put, List.setIfInBounds_toArray, List.set_cons_zero, List.set_cons_succ]
    refine wpAnyH_take (i := 9) (oi := ⟨some 97, _, _, _, _, _⟩) (v := ?_) rfl (by kernel_rfl) (by kernel_rfl) (by kernel_rfl) (fun _ _ _ h => h) (Or.inl ⟨by rfl, ?_⟩) hS ?_
    rotate_left
    · intro W hW; go_simp; with_reducible rfl
    try simp only [Act.put, List.setIfInBounds_toArray, List.set_cons_zero, List.set_cons_succ]
    refine wpAnyH_take (i := 10) (oi := ⟨some 98, _, _, _, _, _⟩) (v := ?_) rfl (by kernel_rfl) (by kernel_rfl) (by kernel_rfl) (fun _ _ _ h => h) (Or.inl ⟨by rfl, ?_⟩) hS ?_
    rotate_left
    · intro W hW; go_simp; with_reducible rfl
    try simp only [Act.put, List.setIfInBounds_toArray, List.set_cons_zero, List.set_cons_succ]
    refine wpAnyH_take (i := 11) (oi := ⟨some 99, _, _, _, _, _⟩) (v := ?_) rfl (by kernel_rfl) (by kernel_rfl) (by kernel_rfl) (fun _ _ _ h => h) (Or.inl ⟨by rfl, ?_⟩) hS ?_
    rotate_left
    · intro W hW; go_simp; with_reducible rfl
    try simp only [Act.put, List.setIfInBounds_toArray, List.set_cons_zero, List.set_cons_succ]
    refine wpAnyH_take (i := 12) (oi := ⟨some 100, _, _, _, _, _⟩) (v := ?_) rfl (by kernel_rfl) (by kernel_rfl) (by kernel_rfl) (fun _ _ _ h => h) (Or.inl ⟨by rfl, ?_⟩) hS ?_
    rotate_left
    · intro W hW; go_simp; with_reducible rfl
    try simp only [Act.put, List.setIfInBounds_toArray, List.set_cons_zero, List.set_cons_succ]
    refine wpAnyH_take (i := 13) (oi := ⟨some 101, _, _, _, _, _⟩) (v := ?_) rfl (by kernel_rfl) (by kernel_rfl) (by kernel_rfl) (fun _ _ _ h => h) (Or.inl ⟨by rfl, ?_⟩) hS ?_
    rotate_left
    · intro W hW; go_simp; with_reducible rfl
    try simp only [Act.put, List.setIfInBounds_toArray, List.set_cons_zero, List.set_cons_succ]
    refine wpAnyH_take (i := 14) (oi := ⟨some 102, _, _, _, _, _⟩) (v := ?_) rfl (by kernel_rfl) (by kernel_rfl) (by kernel_rfl) (fun _ _ _ h => h) (Or.inl ⟨by rfl, ?_⟩) hS ?_
    rotate_left
    · intro W hW; go_simp; with_reducible rfl
    try simp only [Act.put, List.setIfInBounds_toArray, List.set_cons_zero, List.set_cons_succ]
    refine wpAnyH_take (i := 15) (oi := ⟨some 103, _, _, _, _, _⟩) (v := ?_) rfl (by kernel_rfl) (by kernel_rfl) (by kernel_rfl) (fun _ _ _ h => h) (Or.inl ⟨by rfl, ?_⟩) hS ?_
    rotate_left
    · intro W hW; go_simp; with_reducible rfl
    try simp only [Act.put, List.setIfInBounds_toArray, List.set_cons_zero, List.set_cons_succ]
    refine wpAnyH_take (i := 16) (oi := ⟨some 104, _, _, _, _, _⟩) (v := ?_) rfl (by kernel_rfl) (by kernel_rfl) (by kernel_rfl) (fun _ _ _ h => h) (Or.inl ⟨by rfl, ?_⟩) hS ?_
    rotate_left
    · intro W hW; go_simp; with_reducible rfl
    try simp only [Act.put, List.setIfInBounds_toArray, List.set_cons_zero, List.set_cons_succ]
    refine wpAnyH_take (i := 17) (oi := ⟨some 105, _, _, _, _, _⟩) (v := ?_) rfl (by kernel_rfl) (by kernel_rfl) (by kernel_rfl) (fun _ _ _ h => h) (Or.inl ⟨by rfl, ?_⟩) hS ?_
    rotate_left
    · intro W hW; go_simp; with_reducible rfl
    try simp only [Act.put, List.setIfInBounds_toArray, List.set_cons_zero, List.set_cons_succ]
    refine wpAnyH_take (i := 18) (oi := ⟨some 106, _, _, _, _, _⟩) (v := ?_) rfl (by kernel_rfl) (by kernel_rfl) (by kernel_rfl) (fun _ _ _ h => h) (Or.inl ⟨by rfl, ?_⟩) hS ?_
    rotate_left
    · intro W hW; go_simp; with_reducible rfl
    try simp only [Act.put, List.setIfInBounds_toArray, List.set_cons_zero, List.set_cons_succ]
    refine wpAnyH_take (i := 19) (oi := ⟨some 107, _, _, _, _, _⟩) (v := ?_) rfl (by kernel_rfl) (by kernel_rfl) (by kernel_rfl) (fun _ _ _ h => h) (Or.inl ⟨by rfl, ?_⟩) hS ?_
    rotate_left
    · intro W hW; go_simp; with_reducible rfl
    try simp only [Act.put, List.setIfInBounds_toArray, List.set_cons_zero, List.set_cons_succ]
    refine wpAnyH_take (i := 20) (oi := ⟨some 108, _, _, _, _, _⟩) (v := ?_) rfl (by kernel_rfl) (by kernel_rfl) (by kernel_rfl) (fun _ _ _ h => h) (Or.inl ⟨by rfl, ?_⟩) hS ?_
    rotate_left
    · intro W hW; go_simp; with_reducible rfl
    try simp only [Act.put, List.setIfInBounds_toArray, List.set_cons_zero, List.set_cons_succ]
    refine wpAnyH_take (i := 21) (oi := ⟨some 109, _, _, _, _, _⟩) (v := ?_) rfl (by kernel_rfl) (by kernel_rfl) (by kernel_rfl) (fun _ _ _ h => h) (Or.inl ⟨by rfl, ?_⟩) hS ?_
    rotate_left
    · intro W hW; go_simp; with_reducible rfl
    try simp only [Act.put, List.setIfInBounds_toArray, List.set_cons_zero, List.set_cons_succ]
    refine wpAnyH_take (i := 23) (oi := ⟨some 111, _, _, _, _, _⟩) (v := ?_) rfl (by kernel_rfl) (by kernel_rfl) (by kernel_rfl) (fun _ _ _ h => h) (Or.inl ⟨by rfl, ?_⟩) hS ?_
    rotate_left
    · intro W hW; go_simp; with_reducible rfl
    try simp only [Act.put, List.setIfInBounds_toArray, List.set_cons_zero, List.set_cons_succ]
    refine wpAnyH_ready (rs := [22]) (by kernel_rfl) (by simp) ?_
    refine AllReadyH.cons (o := ⟨some 110, _, _, _, _, _⟩) rfl (fun Kr hKr => ?_) AllReadyH.nil
    -- operation 22: a call
    go_simp
    refine (HSN.out _ hS).mono ?_
    rintro e V3 ⟨rfl, hx⟩
    show Kr _ _
    refine hKr.out _ _ ?_ (fun _ => ?_)
    · exact since_trans hS hx
    clear hKr Kr
    replace hS : Since w11 V3 := since_trans hS hx
    try simp only [Act.put, List.setIfInBounds_toArray, List.set_cons_zero, List.set_cons_succ]
    refine wpAnyH_ready (rs := [24]) (by kernel_rfl) (by simp) ?_
    refine AllReadyH.cons (o := ⟨some 112, _, _, _, _, _⟩) rfl (fun Kr hKr => ?_) AllReadyH.nil
    -- operation 24: a call
    go_simp
    refine (HRS.out _ hS).mono ?_
    rintro e V4 ⟨rfl, hx⟩
    show Kr _ _
    refine hKr.out _ _ ?_ (fun _ => ?_)
    · exact since_trans hS hx
    clear hKr Kr
    replace hS : Since w11 V4 := since_trans hS hx
    try simp only [Act.put, List.setIfInBounds_toArray, List.set_cons_zero, List.set_cons_succ]
    refine wpAnyH_take (i := 25) (oi := ⟨some 113, _, _, _, _, _⟩) (v := ?_) rfl (by kernel_rfl) (by kernel_rfl) (by kernel_rfl) (fun _ _ _ h => h) (Or.inl ⟨by rfl, ?_⟩) hS ?_
    rotate_left
    · intro W hW; go_simp; with_reducible rfl
    try simp only [Act.put, List.setIfInBounds_toArray, List.set_cons_zero, List.set_cons_succ]
    refine wpAnyH_take (i := 26) (oi := ⟨some 114, _, _, _, _, _⟩) (v := ?_) rfl (by kernel_rfl) (by kernel_rfl) (by kernel_rfl) (fun _ _ _ h => h) (Or.inl ⟨by rfl, ?_⟩) hS ?_
    rotate_left
    · intro W hW; go_simp; with_reducible rfl
    try simp only [Act.put, List.setIfInBounds_toArray, List.set_cons_zero, List.set_cons_succ]
    refine wpAnyH_done (by kernel_rfl) ?_ _
    obtain ⟨w12, hw12⟩ : ∃ w12, w12 = V4 := ⟨_, rfl⟩
    subst hw12
    have HS12 := Lib.hid hS
    have HRS2 := Lib.hid (refsane_any A B n a m b t (by omega) w12 (HT.out.below (HB.out.trans (Below.mono HS12.out HB.out.size))))
    rw [HSE.out] at HRS2
    clear X0 X1 X2 X3 X4 X5 X6 X7 HSN HRS H2 H3 K18 K20 q1 q2 q3 q4 hS
    replace K7 := Lib.hid (K7.out.below HS12.out)
    replace K16 := Lib.hid (K16.out.below HS12.out)
    replace HO := Lib.hid (HO.out.below HS12.out)
    replace HB := Lib.hid (HB.out.trans (Below.mono HS12.out HB.out.size))
    have a0 := K7.out.t0
    have a1 := K7.out.t1
    go_wp2_with fail
    refine HRS2.out.mono ?_
    rintro e w13 ⟨rfl, hv⟩
    replace K7 := Lib.hid (K7.out.below hv)
    replace K16 := Lib.hid (K16.out.below hv)
    replace HO := Lib.hid (HO.out.below hv)
    replace HB := Lib.hid (HB.out.trans (hv.mono HB.out.size))
    clear hv a0 a1 HRS2 HS12
    have HS := Lib.hid (Tb.san HSE.out)
    have hn64 : n ≤ 64 := by have := HS.out.n; rw [HT.out.cl] at this; exact this
    have HMY := Lib.hid (show ∀ p ∈ t.P, PdMay n p from fun p hp => by have h := HS.out.may p hp; rw [HT.out.cl] at h; exact h)
    have a0 := K16.out.t0
    have a1 := K16.out.t1
    go_wp2_with fail
    refine (treach_any A1 B1 n a1' m b1' t k (by omega) HO.out.mb HO.out.sb HS.out.up (fun p hp => (HS.out.may p hp).x0) hn64 w13 HO.out.tb).mono ?_
    rintro e w14 ⟨rfl, hv⟩
    replace K7 := Lib.hid (K7.out.below hv)
    replace K16 := Lib.hid (K16.out.below hv)
    replace HO := Lib.hid (HO.out.below hv)
    replace HB := Lib.hid (HB.out.trans (hv.mono HB.out.size))
    clear hv a0 a1
    have HRC := Lib.hid (fun V (hV : Below w.heap.size w V) => reftreach_any A B n a m b t k (by omega) V (HT.out.below hV))
    generalize (t.reach k).1 = rl at *
    generalize (t.reach k).2 = rh at *
    go_upto_region 15 with fail
    obtain ⟨g26, hg26⟩ : ∃ q, q = w14.heap.size := ⟨_, rfl⟩
    obtain ⟨wk, hwk⟩ : ∃ q, q = w14.alloc (.cells (spC rl rh) 53) := ⟨_, rfl⟩
    have hv : Below w14.heap.size w14 wk := by rw [hwk]; exact below_new _ _
    have K26 := Lib.hid (show Bk wk g26 (spC rl rh) 53 by rw [hwk, hg26]; exact Bk.new _ _ _)
    rw [← hg26, ← hwk]
    clear hg26 hwk
    replace K7 := Lib.hid (K7.out.below hv)
    replace K16 := Lib.hid (K16.out.below hv)
    replace HO := Lib.hid (HO.out.below hv)
    replace HB := Lib.hid (HB.out.trans (hv.mono HB.out.size))
    clear hv
    have HTB := Lib.hid (fun V (hV : Since wk V) => HT.out.below (HB.out.trans (Below.mono hV HB.out.size)))
    have HLB := Lib.hid (fun V (hV : Since wk V) => HL.out.below (HB.out.trans (Below.mono hV HB.out.size)))
    have HRC2 := Lib.hid (fun V (hV : Since wk V) => HRC.out V (HB.out.trans (Below.mono hV HB.out.size)))
    have HPL := Lib.hid (show (∀ c ∈ (t.pass x par).C, c.Ok) ∧ (t.pass x par).P.length ≤ 3000 from by
      have h := passAll_ok par HOP.out (ofL t.P x) ⟨t.C, freeL t.P [x]⟩ (fun p hp => HT.out.okP p (ofL_mem hp)) HT.out.okC (fun p hp => HT.out.okP p (freeL_mem hp))
      rw [← Tb.pass_eq] at h
      have h1 := freeL_len t.P [x]
      have h2 := ofL_len t.P x
      have h3 := HT.out.pl
      have h4 := h.2.1
      simp only at h4
      exact ⟨h.2.2.1, by omega⟩)
    have HFL := Lib.hid (show (freeL t.P l).length ≤ 3000 ∧ ∀ p ∈ freeL t.P l, p.Ok from ⟨by have h1 := freeL_len t.P l; have h3 := HT.out.pl; omega, fun p hp => HT.out.okP p (freeL_mem hp)⟩)
    have HOL := Lib.hid (show (ofL t.P x).length ≤ 1000 from by have h1 := ofL_len t.P x; have h3 := HT.out.pl; omega)
    have X0 : ∀ V, Since wk V → V.cell? ⟨g16, 0, none⟩ = some (.slice A1 n a1') := fun V hV => (K16.out.below hV).t0
    have X1 : ∀ V, Since wk V → V.cell? ⟨g16, 1, none⟩ = some (.slice B1 m b1') := fun V hV => (K16.out.below hV).t1
    have X2 : ∀ V, Since wk V → V.cell? ⟨w.heap.size, 0, none⟩ = some (.slice A n a) := fun V hV => (K7.out.below hV).t0
    have X3 : ∀ V, Since wk V → V.cell? ⟨w.heap.size, 1, none⟩ = some (.slice B m b) := fun V hV => (K7.out.below hV).t1
    have X4 : ∀ V, Since wk V → V.cell? ⟨g26, 0, none⟩ = some (.int .i64 rl) := fun V hV => (K26.out.below hV).s0
    have X5 : ∀ V, Since wk V → V.cell? ⟨g26, 1, none⟩ = some (.int .i64 rh) := fun V hV => (K26.out.below hV).s1
    have heq : ∀ V, (binOp .eql 63 (.agg #[.int .i64 rl, .int .i64 rh]) (.agg #[.int .i64 rl, .int .i64 rh])).run Try.prog V = .ok (.bool true) V := fun V => by have h := run_rs_eql rl rh rl rh V; simpa using h
    have hgu := run_rs_guard
    refine wp_region_since (by kernel_rfl) ?_
    have hS : Since wk (World.drew wk) := (Below.refl _ _).drew
    refine wpAnyH_take (i := 0) (oi := ⟨some 122, _, _, _, _, _⟩) (v := ?_) rfl (by kernel_rfl) (by kernel_rfl) (by kernel_rfl) (fun _ _ _ h => h) (Or.inl ⟨by rfl, ?_⟩) hS ?_
    rotate_left
    · intro W hW; go_simp; with_reducible rfl
    try simp only [Act.put, List.setIfInBounds_toArray, List.set_cons_zero, List.set_cons_succ]
    refine wpAnyH_take (i := 1) (oi := ⟨some 123, _, _, _, _, _⟩) (v := ?_) rfl (by kernel_rfl) (by kernel_rfl) (by kernel_rfl) (fun _ _ _ h => h) (Or.inl ⟨by rfl, ?_⟩) hS ?_
    rotate_left
    · intro W hW; go_simp; with_reducible rfl
    try simp only [Act.put, List.setIfInBounds_toArray, List.set_cons_zero, List.set_cons_succ]
    refine wpAnyH_take (i := 2) (oi := ⟨some 124, _, _, _, _, _⟩) (v := ?_) rfl (by kernel_rfl) (by kernel_rfl) (by kernel_rfl) (fun _ _ _ h => h) (Or.inl ⟨by rfl, ?_⟩) hS ?_
    rotate_left
    · intro W hW; go_simp; with_reducible rfl
    try simp only [Act.put, List.setIfInBounds_toArray, List.set_cons_zero, List.set_cons_succ]
    refine wpAnyH_take (i := 3) (oi := ⟨some 125, _, _, _, _, _⟩) (v := ?_) rfl (by kernel_rfl) (by kernel_rfl) (by kernel_rfl) (fun _ _ _ h => h) (Or.inl ⟨by rfl, ?_⟩) hS ?_
    rotate_left
    · intro W hW; go_simp; with_reducible rfl
    try simp only [Act.put, List.setIfInBounds_toArray, List.set_cons_zero, List.set_cons_succ]
    refine wpAnyH_take (i := 4) (oi := ⟨some 126, _, _, _, _, _⟩) (v := ?_) rfl (by kernel_rfl) (by kernel_rfl) (by kernel_rfl) (fun _ _ _ h => h) (Or.inl ⟨by rfl, ?_⟩) hS ?_
    rotate_left
    · intro W hW; go_simp; with_reducible rfl
    try simp only [Act.put, List.setIfInBounds_toArray, List.set_cons_zero, List.set_cons_succ]
    refine wpAnyH_take (i := 7) (oi := ⟨some 129, _, _, _, _, _⟩) (v := ?_) rfl (by kernel_rfl) (by kernel_rfl) (by kernel_rfl) (fun _ _ _ h => h) (Or.inl ⟨by rfl, ?_⟩) hS ?_
    rotate_left
    · intro W hW; go_simp; with_reducible rfl
    try simp only [Act.put, List.setIfInBounds_toArray, List.set_cons_zero, List.set_cons_succ]
    refine wpAnyH_take (i := 8) (oi := ⟨some 130, _, _, _, _, _⟩) (v := ?_) rfl (by kernel_rfl) (by kernel_rfl) (by kernel_rfl) (fun _ _ _ h => h) (Or.inl ⟨by rfl, ?_⟩) hS ?_
    rotate_left
    · intro W hW; go_simp; with_reducible rfl
    try simp only [Act.put, List.setIfInBounds_toArray, List.set_cons_zero, List.set_cons_succ]
    refine wpAnyH_take (i := 9) (oi := ⟨some 131, _, _, _, _, _⟩) (v := ?_) rfl (by kernel_rfl) (by kernel_rfl) (by kernel_rfl) (fun _ _ _ h => h) (Or.inl ⟨by rfl, ?_⟩) hS ?_
    rotate_left
    · intro W hW; go_simp; with_reducible rfl
    try simp only [Act.put, List.setIfInBounds_toArray, List.set_cons_zero, List.set_cons_succ]
    refine wpAnyH_ready (rs := [5]) (by kernel_rfl) (by simp) ?_
    refine AllReadyH.cons (o := ⟨some 127, _, _, _, _, _⟩) rfl (fun Kr hKr => ?_) AllReadyH.nil
    -- operation 5: a call
    go_simp
    refine (ppass_any A1 B1 n a1' m b1' t x par HOX.out HOP.out (by omega) (by omega) HS.out.up HMY.out _ (HO.out.below hS)).mono ?_
    rintro e V1 ⟨A5, a5, B5, m5, b5, rfl, h5, hx⟩
    have H5 := Lib.hid h5
    have HM5 := Lib.hid (show m5 ≤ 3000 from by have h1 := HPL.out.2; have h2 := h5.tb.pl; omega)
    clear h5
    show Kr _ _
    refine hKr.out _ _ ?_ (fun _ => ?_)
    · exact since_trans hS hx
    clear hKr Kr
    replace hS : Since wk V1 := since_trans hS hx
    try simp only [Act.put, List.setIfInBounds_toArray, List.set_cons_zero, List.set_cons_succ]
    refine wpAnyH_ready (rs := [6]) (by kernel_rfl) (by simp) ?_
    refine AllReadyH.cons (o := ⟨some 128, _, _, _, _, _⟩) rfl (fun Kr hKr => ?_) AllReadyH.nil
    -- operation 6: a call
    go_simp
    refine (theirs_any A5 B5 n a5 m5 b5 (t.pass x par) (by omega) HM5.out _ H5.out.tb).mono ?_
    rintro e V2 ⟨A6, a6, B6, b6, rfl, h6, hx⟩
    have H6 := Lib.hid h6
    clear h6
    show Kr _ _
    refine hKr.out _ _ ?_ (fun _ => ?_)
    · exact since_trans hS hx
    clear hKr Kr
    replace hS : Since wk V2 := since_trans hS hx
    try simp only [Act.put, List.setIfInBounds_toArray, List.set_cons_zero, List.set_cons_succ]
    refine wpAnyH_ready (rs := [10]) (by kernel_rfl) (by simp) ?_
    refine AllReadyH.cons (o := ⟨some 132, _, _, _, _, _⟩) rfl (fun Kr hKr => ?_) AllReadyH.nil
    -- operation 10: a call
    go_simp
    refine (refpass_any A B n a m b t x par HOX.out HOP.out (by omega) (by omega) HSP.out (fun p hp => ⟨(HMY.out p hp).c0, (HMY.out p hp).c1⟩) _ (HTB.out _ hS)).mono ?_
    rintro e V3 ⟨A7, a7, B7, m7, b7, rfl, h7, hx⟩
    obtain rfl : m7 = m5 := h7.pl.symm.trans H5.out.tb.pl
    replace H6 := Lib.hid (H6.out.below hx)
    have H7 := Lib.hid h7
    clear h7
    show Kr _ _
    refine hKr.out _ _ ?_ (fun _ => ?_)
    · exact since_trans hS hx
    clear hKr Kr
    replace hS : Since wk V3 := since_trans hS hx
    try simp only [Act.put, List.setIfInBounds_toArray, List.set_cons_zero, List.set_cons_succ]
    refine wpAnyH_ready (rs := [11]) (by kernel_rfl) (by simp) ?_
    refine AllReadyH.cons (o := ⟨some 133, _, _, _, _, _⟩) rfl (fun Kr hKr => ?_) AllReadyH.nil
    -- operation 11: a call
    go_simp
    refine (same13_any A6 B6 A7 B7 n a6 m7 b6 a7 b7 (t.pass x par) (by omega) HM5.out _ H6.out H7.out).mono ?_
    rintro e V4 ⟨rfl, hx⟩
    clear H5 H6 H7 HM5
    show Kr _ _
    refine hKr.out _ _ ?_ (fun _ => ?_)
    · exact since_trans hS hx
    clear hKr Kr
    replace hS : Since wk V4 := since_trans hS hx
    try simp only [Act.put, List.setIfInBounds_toArray, List.set_cons_zero, List.set_cons_succ]
    refine wpAnyH_take (i := 12) (oi := ⟨some 134, _, _, _, _, _⟩) (v := ?_) rfl (by kernel_rfl) (by kernel_rfl) (by kernel_rfl) (fun _ _ _ h => h) (Or.inl ⟨by rfl, ?_⟩) hS ?_
    rotate_left
    · intro W hW; go_simp; with_reducible rfl
    try simp only [Act.put, List.setIfInBounds_toArray, List.set_cons_zero, List.set_cons_succ]
    refine wpAnyH_take (i := 13) (oi := ⟨some 135, _, _, _, _, _⟩) (v := ?_) rfl (by kernel_rfl) (by kernel_rfl) (by kernel_rfl) (fun _ _ _ h => h) (Or.inl ⟨by rfl, ?_⟩) hS ?_
    rotate_left
    · intro W hW; go_simp; with_reducible rfl
    try simp only [Act.put, List.setIfInBounds_toArray, List.set_cons_zero, List.set_cons_succ]
    refine wpAnyH_take (i := 14) (oi := ⟨some 136, _, _, _, _, _⟩) (v := ?_) rfl (by kernel_rfl) (by kernel_rfl) (by kernel_rfl) (fun _ _ _ h => h) (Or.inl ⟨by rfl, ?_⟩) hS ?_
    rotate_left
    · intro W hW; go_simp; with_reducible rfl
    try simp only [Act.put, List.setIfInBounds_toArray, List.set_cons_zero, List.set_cons_succ]
    refine wpAnyH_take (i := 15) (oi := ⟨some 137, _, _, _, _, _⟩) (v := ?_) rfl (by kernel_rfl) (by kernel_rfl) (by kernel_rfl) (fun _ _ _ h => h) (Or.inl ⟨by rfl, ?_⟩) hS ?_
    rotate_left
    · intro W hW; go_simp; with_reducible rfl
    try simp only [Act.put, List.setIfInBounds_toArray, List.set_cons_zero, List.set_cons_succ]
    refine wpAnyH_take (i := 18) (oi := ⟨some 140, _, _, _, _, _⟩) (v := ?_) rfl (by kernel_rfl) (by kernel_rfl) (by kernel_rfl) (fun _ _ _ h => h) (Or.inl ⟨by rfl, ?_⟩) hS ?_
    rotate_left
    · intro W hW; go_simp; with_reducible rfl
    try simp only [Act.put, List.setIfInBounds_toArray, List.set_cons_zero, List.set_cons_succ]
    refine wpAnyH_take (i := 19) (oi := ⟨some 141, _, _, _, _, _⟩) (v := ?_) rfl (by kernel_rfl) (by kernel_rfl) (by kernel_rfl) (fun _ _ _ h => h) (Or.inl ⟨by rfl, ?_⟩) hS ?_
    rotate_left
    · intro W hW; go_simp; with_reducible rfl
    try simp only [Act.put, List.setIfInBounds_toArray, List.set_cons_zero, List.set_cons_succ]
    refine wpAnyH_ready (rs := [16]) (by kernel_rfl) (by simp) ?_
    refine AllReadyH.cons (o := ⟨some 138, _, _, _, _, _⟩) rfl (fun Kr hKr => ?_) AllReadyH.nil
    -- operation 16: a call
    go_simp
    refine (pfree_any A1 B1 n a1' m b1' t E q r l (by omega) (by omega) (by omega) _ (HO.out.below hS) (HLB.out _ hS)).mono ?_
    rintro e V5 ⟨A9, a9, B9, m9, b9, cb9, rfl, _, hc9, hp9, hl9, _, hx⟩
    have H9 := Lib.hid (own_tb (t := ⟨t.C, freeL t.P l⟩) hc9 hp9 HT.out.cl hl9 HT.out.okC HFL.out.2)
    have HM9 := Lib.hid (show m9 ≤ 3000 from by have h1 := HFL.out.1; omega)
    clear hc9 hp9 hl9
    show Kr _ _
    refine hKr.out _ _ ?_ (fun _ => ?_)
    · exact since_trans hS hx
    clear hKr Kr
    replace hS : Since wk V5 := since_trans hS hx
    try simp only [Act.put, List.setIfInBounds_toArray, List.set_cons_zero, List.set_cons_succ]
    refine wpAnyH_ready (rs := [17]) (by kernel_rfl) (by simp) ?_
    refine AllReadyH.cons (o := ⟨some 139, _, _, _, _, _⟩) rfl (fun Kr hKr => ?_) AllReadyH.nil
    -- operation 17: a call
    go_simp
    refine (theirs_any A9 B9 n a9 m9 b9 ⟨t.C, freeL t.P l⟩ (by omega) HM9.out _ H9.out).mono ?_
    rintro e V6 ⟨A10, a10, B10, b10, rfl, h10, hx⟩
    have H10 := Lib.hid h10
    clear h10
    show Kr _ _
    refine hKr.out _ _ ?_ (fun _ => ?_)
    · exact since_trans hS hx
    clear hKr Kr
    replace hS : Since wk V6 := since_trans hS hx
    try simp only [Act.put, List.setIfInBounds_toArray, List.set_cons_zero, List.set_cons_succ]
    refine wpAnyH_ready (rs := [20]) (by kernel_rfl) (by simp) ?_
    refine AllReadyH.cons (o := ⟨some 142, _, _, _, _, _⟩) rfl (fun Kr hKr => ?_) AllReadyH.nil
    -- operation 20: a call
    go_simp
    refine (reffree_any A B n a m b t E q r l (by omega) (by omega) (by omega) HSP.out _ (HTB.out _ hS) (HLB.out _ hS)).mono ?_
    rintro e V7 ⟨cv11, pv11, g11, rfl, h11, hx⟩
    obtain ⟨A11, a11, rfl⟩ := own_slice rc_okr h11.c HT.out.cl
    obtain ⟨B11, b11, rfl⟩ := own_slice rp_okr h11.p (H9.out.pl)
    have H11 := Lib.hid (show TbAt V7 A11 n B11 m9 ⟨t.C, freeL t.P l⟩ from ⟨HT.out.cl, H9.out.pl, HT.out.okC, HFL.out.2, (own_parts rc_okr h11.c HT.out.cl).1, (own_parts rp_okr h11.p H9.out.pl).1⟩)
    replace H10 := Lib.hid (H10.out.below hx)
    clear h11
    show Kr _ _
    refine hKr.out _ _ ?_ (fun _ => ?_)
    · exact since_trans hS hx
    clear hKr Kr
    replace hS : Since wk V7 := since_trans hS hx
    try simp only [Act.put, List.setIfInBounds_toArray, List.set_cons_zero, List.set_cons_succ]
    refine wpAnyH_ready (rs := [21]) (by kernel_rfl) (by simp) ?_
    refine AllReadyH.cons (o := ⟨some 143, _, _, _, _, _⟩) rfl (fun Kr hKr => ?_) AllReadyH.nil
    -- operation 21: a call
    go_simp
    refine (same13_any A10 B10 A11 B11 n a10 m9 b10 a11 b11 ⟨t.C, freeL t.P l⟩ (by omega) HM9.out _ H10.out H11.out).mono ?_
    rintro e V8 ⟨rfl, hx⟩
    clear H9 H10 H11
    show Kr _ _
    refine hKr.out _ _ ?_ (fun _ => ?_)
    · exact since_trans hS hx
    clear hKr Kr
    replace hS : Since wk V8 := since_trans hS hx
    try simp only [Act.put, List.setIfInBounds_toArray, List.set_cons_zero, List.set_cons_succ]
    refine wpAnyH_take (i := 22) (oi := ⟨some 144, _, _, _, _, _⟩) (v := ?_) rfl (by kernel_rfl) (by kernel_rfl) (by kernel_rfl) (fun _ _ _ h => h) (Or.inl ⟨by rfl, ?_⟩) hS ?_
    rotate_left
    · intro W hW; go_simp; with_reducible rfl
    try simp only [Act.put, List.setIfInBounds_toArray, List.set_cons_zero, List.set_cons_succ]
    refine wpAnyH_take (i := 23) (oi := ⟨some 145, _, _, _, _, _⟩) (v := ?_) rfl (by kernel_rfl) (by kernel_rfl) (by kernel_rfl) (fun _ _ _ h => h) (Or.inl ⟨by rfl, ?_⟩) hS ?_
    rotate_left
    · intro W hW; go_simp; with_reducible rfl
    try simp only [Act.put, List.setIfInBounds_toArray, List.set_cons_zero, List.set_cons_succ]
    refine wpAnyH_take (i := 24) (oi := ⟨some 146, _, _, _, _, _⟩) (v := ?_) rfl (by kernel_rfl) (by kernel_rfl) (by kernel_rfl) (fun _ _ _ h => h) (Or.inl ⟨by rfl, ?_⟩) hS ?_
    rotate_left
    · intro W hW; go_simp; with_reducible rfl
    try simp only [Act.put, List.setIfInBounds_toArray, List.set_cons_zero, List.set_cons_succ]
    refine wpAnyH_take (i := 25) (oi := ⟨some 147, _, _, _, _, _⟩) (v := ?_) rfl (by kernel_rfl) (by kernel_rfl) (by kernel_rfl) (fun _ _ _ h => h) (Or.inl ⟨by rfl, ?_⟩) hS ?_
    rotate_left
    · intro W hW; go_simp; with_reducible rfl
    try simp only [Act.put, List.setIfInBounds_toArray, List.set_cons_zero, List.set_cons_succ]
    refine wpAnyH_take (i := 28) (oi := ⟨some 150, _, _, _, _, _⟩) (v := ?_) rfl (by kernel_rfl) (by kernel_rfl) (by kernel_rfl) (fun _ _ _ h => h) (Or.inl ⟨by rfl, ?_⟩) hS ?_
    rotate_left
    · intro W hW; go_simp; with_reducible rfl
    try simp only [Act.put, List.setIfInBounds_toArray, List.set_cons_zero, List.set_cons_succ]
    refine wpAnyH_take (i := 29) (oi := ⟨some 151, _, _, _, _, _⟩) (v := ?_) rfl (by kernel_rfl) (by kernel_rfl) (by kernel_rfl) (fun _ _ _ h => h) (Or.inl ⟨by rfl, ?_⟩) hS ?_
    rotate_left
    · intro W hW; go_simp; with_reducible rfl
    try simp only [Act.put, List.setIfInBounds_toArray, List.set_cons_zero, List.set_cons_succ]
    refine wpAnyH_ready (rs := [26]) (by kernel_rfl) (by simp) ?_
    refine AllReadyH.cons (o := ⟨some 148, _, _, _, _, _⟩) rfl (fun Kr hKr => ?_) AllReadyH.nil
    -- operation 26: a call
    go_simp
    refine (of_any A1 B1 n a1' m b1' t.P x HO.out.tb.pl (by omega) _ ((HO.out.below hS).tb.atP)).mono ?_
    rintro e V9 ⟨v12, rfl, h12, hx, _⟩
    obtain ⟨q12, hq12⟩ : ∃ q, (ofL t.P x).length = q := ⟨_, rfl⟩
    obtain ⟨A12, a12, rfl⟩ := own_slice rp_oko h12 hq12
    have H12 := Lib.hid (own_parts rp_oko h12 hq12).1
    have HQ12 := Lib.hid hq12
    clear h12 hq12
    show Kr _ _
    refine hKr.out _ _ ?_ (fun _ => ?_)
    · exact since_trans hS hx
    clear hKr Kr
    replace hS : Since wk V9 := since_trans hS hx
    try simp only [Act.put, List.setIfInBounds_toArray, List.set_cons_zero, List.set_cons_succ]
    refine wpAnyH_ready (rs := [27]) (by kernel_rfl) (by simp) ?_
    refine AllReadyH.cons (o := ⟨some 149, _, _, _, _, _⟩) rfl (fun Kr hKr => ?_) AllReadyH.nil
    -- operation 27: a call
    go_simp
    refine (pends_any A12 q12 a12 (ofL t.P x) HQ12.out (by have h1 := HQ12.out; have h2 := HOL.out; omega) _ H12.out).mono ?_
    rintro e V10 ⟨v13, rfl, h13, hx⟩
    obtain ⟨A13, a13, rfl⟩ := own_slice rp_okr h13 HQ12.out
    have H13 := Lib.hid (own_parts rp_okr h13 HQ12.out).1
    clear h13
    show Kr _ _
    refine hKr.out _ _ ?_ (fun _ => ?_)
    · exact since_trans hS hx
    clear hKr Kr
    replace hS : Since wk V10 := since_trans hS hx
    try simp only [Act.put, List.setIfInBounds_toArray, List.set_cons_zero, List.set_cons_succ]
    refine wpAnyH_ready (rs := [30]) (by kernel_rfl) (by simp) ?_
    refine AllReadyH.cons (o := ⟨some 152, _, _, _, _, _⟩) rfl (fun Kr hKr => ?_) AllReadyH.nil
    -- operation 30: a call
    go_simp
    refine (refof13_any A B n a m b t x (by omega) _ (HTB.out _ hS)).mono ?_
    rintro e V11 ⟨v14, rfl, h14, hx, _⟩
    obtain ⟨A14, a14, rfl⟩ := own_slice rp_okr h14 HQ12.out
    have H14 := Lib.hid (own_parts rp_okr h14 HQ12.out).1
    replace H13 := Lib.hid (H13.out.below hx)
    clear h14
    show Kr _ _
    refine hKr.out _ _ ?_ (fun _ => ?_)
    · exact since_trans hS hx
    clear hKr Kr
    replace hS : Since wk V11 := since_trans hS hx
    try simp only [Act.put, List.setIfInBounds_toArray, List.set_cons_zero, List.set_cons_succ]
    refine wpAnyH_ready (rs := [31]) (by kernel_rfl) (by simp) ?_
    refine AllReadyH.cons (o := ⟨some 153, _, _, _, _, _⟩) rfl (fun Kr hKr => ?_) AllReadyH.nil
    -- operation 31: a call
    go_simp
    refine (samep_any A13 A14 q12 a13 a14 (ofL t.P x) HQ12.out (by have h1 := HQ12.out; have h2 := HOL.out; omega) _ H13.out H14.out).mono ?_
    rintro e V12 ⟨rfl, hx⟩
    clear H12 H13 H14
    show Kr _ _
    refine hKr.out _ _ ?_ (fun _ => ?_)
    · exact since_trans hS hx
    clear hKr Kr
    replace hS : Since wk V12 := since_trans hS hx
    try simp only [Act.put, List.setIfInBounds_toArray, List.set_cons_zero, List.set_cons_succ]
    refine wpAnyH_take (i := 32) (oi := ⟨some 154, _, _, _, _, _⟩) (v := ?_) rfl (by kernel_rfl) (by kernel_rfl) (by kernel_rfl) (fun _ _ _ h => h) (Or.inl ⟨by rfl, ?_⟩) hS ?_
    rotate_left
    · intro W hW; go_simp; with_reducible rfl
    try simp only [Act.put, List.setIfInBounds_toArray, List.set_cons_zero, List.set_cons_succ]
    refine wpAnyH_take (i := 33) (oi := ⟨some 155, _, _, _, _, _⟩) (v := ?_) rfl (by kernel_rfl) (by kernel_rfl) (by kernel_rfl) (fun _ _ _ h => h) (Or.inl ⟨by rfl, ?_⟩) hS ?_
    rotate_left
    · intro W hW; go_simp; with_reducible rfl
    try simp only [Act.put, List.setIfInBounds_toArray, List.set_cons_zero, List.set_cons_succ]
    refine wpAnyH_take (i := 34) (oi := ⟨some 156, _, _, _, _, _⟩) (v := ?_) rfl (by kernel_rfl) (by kernel_rfl) (by kernel_rfl) (fun _ _ _ h => h) (Or.inl ⟨by rfl, ?_⟩) hS ?_
    rotate_left
    · intro W hW; go_simp; with_reducible rfl
    try simp only [Act.put, List.setIfInBounds_toArray, List.set_cons_zero, List.set_cons_succ]
    refine wpAnyH_take (i := 35) (oi := ⟨some 157, _, _, _, _, _⟩) (v := ?_) rfl (by kernel_rfl) (by kernel_rfl) (by kernel_rfl) (fun _ _ _ h => h) (Or.inl ⟨by rfl, ?_⟩) hS ?_
    rotate_left
    · intro W hW; go_simp; with_reducible rfl
    try simp only [Act.put, List.setIfInBounds_toArray, List.set_cons_zero, List.set_cons_succ]
    refine wpAnyH_take (i := 36) (oi := ⟨some 158, _, _, _, _, _⟩) (v := ?_) rfl (by kernel_rfl) (by kernel_rfl) (by kernel_rfl) (fun _ _ _ h => h) (Or.inl ⟨by rfl, ?_⟩) hS ?_
    rotate_left
    · intro W hW; go_simp; with_reducible rfl
    try simp only [Act.put, List.setIfInBounds_toArray, List.set_cons_zero, List.set_cons_succ]
    refine wpAnyH_take (i := 37) (oi := ⟨some 159, _, _, _, _, _⟩) (v := ?_) rfl (by kernel_rfl) (by kernel_rfl) (by kernel_rfl) (fun _ _ _ h => h) (Or.inl ⟨by rfl, ?_⟩) hS ?_
    rotate_left
    · intro W hW; go_simp; with_reducible rfl
    try simp only [Act.put, List.setIfInBounds_toArray, List.set_cons_zero, List.set_cons_succ]
    refine wpAnyH_take (i := 38) (oi := ⟨some 160, _, _, _, _, _⟩) (v := ?_) rfl (by kernel_rfl) (by kernel_rfl) (by kernel_rfl) (fun _ _ _ h => h) (Or.inl ⟨by rfl, ?_⟩) hS ?_
    rotate_left
    · intro W hW; go_simp; with_reducible rfl
    try simp only [Act.put, List.setIfInBounds_toArray, List.set_cons_zero, List.set_cons_succ]
    refine wpAnyH_take (i := 39) (oi := ⟨some 161, _, _, _, _, _⟩) (v := ?_) rfl (by kernel_rfl) (by kernel_rfl) (by kernel_rfl) (fun _ _ _ h => h) (Or.inl ⟨by rfl, ?_⟩) hS ?_
    rotate_left
    · intro W hW; go_simp; with_reducible rfl
    try simp only [Act.put, List.setIfInBounds_toArray, List.set_cons_zero, List.set_cons_succ]
    refine wpAnyH_take (i := 40) (oi := ⟨some 162, _, _, _, _, _⟩) (v := ?_) rfl (by kernel_rfl) (by kernel_rfl) (by kernel_rfl) (fun _ _ _ h => h) (Or.inl ⟨by rfl, ?_⟩) hS ?_
    rotate_left
    · intro W hW; go_simp; with_reducible rfl
    try simp only [Act.put, List.setIfInBounds_toArray, List.set_cons_zero, List.set_cons_succ]
    refine wpAnyH_ready (rs := [41]) (by kernel_rfl) (by simp) ?_
    refine AllReadyH.cons (o := ⟨some 163, _, _, _, _, _⟩) rfl (fun Kr hKr => ?_) AllReadyH.nil
    -- operation 41: a call
    go_simp
    refine (HRC2.out _ hS).mono ?_
    rintro e V13 ⟨rfl, hx⟩
    show Kr _ _
    refine hKr.out _ _ ?_ (fun _ => ?_)
    · exact since_trans hS hx
    clear hKr Kr
    replace hS : Since wk V13 := since_trans hS hx
    try simp only [Act.put, List.setIfInBounds_toArray, List.set_cons_zero, List.set_cons_succ]
    refine wpAnyH_take (i := 42) (oi := ⟨some 164, _, _, _, _, _⟩) (v := ?_) rfl (by kernel_rfl) (by kernel_rfl) (by kernel_rfl) (fun _ _ _ h => h) (Or.inl ⟨by rfl, ?_⟩) hS ?_
    rotate_left
    · intro W hW; go_simp; with_reducible rfl
    try simp only [Act.put, List.setIfInBounds_toArray, List.set_cons_zero, List.set_cons_succ]
    refine wpAnyH_take (i := 43) (oi := ⟨some 165, _, _, _, _, _⟩) (v := ?_) rfl (by kernel_rfl) (by kernel_rfl) (by kernel_rfl) (fun _ _ _ h => h) (Or.inl ⟨by rfl, ?_⟩) hS ?_
    rotate_left
    · intro W hW; go_simp; with_reducible rfl
    try simp only [Act.put, List.setIfInBounds_toArray, List.set_cons_zero, List.set_cons_succ]
    refine wpAnyH_take (i := 44) (oi := ⟨some 166, _, _, _, _, _⟩) (v := ?_) rfl (by kernel_rfl) (by kernel_rfl) (by kernel_rfl) (fun _ _ _ h => h) (Or.inl ⟨by rfl, ?_⟩) hS ?_
    rotate_left
    · intro W hW; go_simp; with_reducible rfl
    try simp only [Act.put, List.setIfInBounds_toArray, List.set_cons_zero, List.set_cons_succ]
    refine wpAnyH_take (i := 45) (oi := ⟨some 167, _, _, _, _, _⟩) (v := ?_) rfl (by kernel_rfl) (by kernel_rfl) (by kernel_rfl) (fun _ _ _ h => h) (Or.inl ⟨by rfl, ?_⟩) hS ?_
    rotate_left
    · intro W hW; go_simp; with_reducible rfl
    try simp only [Act.put, List.setIfInBounds_toArray, List.set_cons_zero, List.set_cons_succ]
    refine wpAnyH_take (i := 47) (oi := ⟨some 169, _, _, _, _, _⟩) (v := ?_) rfl (by kernel_rfl) (by kernel_rfl) (by kernel_rfl) (fun _ _ _ h => h) (Or.inl ⟨by rfl, ?_⟩) hS ?_
    rotate_left
    · intro W hW; go_simp; with_reducible rfl
    try simp only [Act.put, List.setIfInBounds_toArray, List.set_cons_zero, List.set_cons_succ]
    refine wpAnyH_ready (rs := [46]) (by kernel_rfl) (by simp) ?_
    refine AllReadyH.cons (o := ⟨some 168, _, _, _, _, _⟩) rfl (fun Kr hKr => ?_) AllReadyH.nil
    -- operation 46: a call
    go_simp
    refine (theirs_any A1 B1 n a1' m b1' t (by omega) (by omega) _ ((HO.out.below hS).tb)).mono ?_
    rintro e V14 ⟨A15, a15, B15, b15, rfl, h15, hx⟩
    have H15 := Lib.hid h15
    clear h15
    show Kr _ _
    refine hKr.out _ _ ?_ (fun _ => ?_)
    · exact since_trans hS hx
    clear hKr Kr
    replace hS : Since wk V14 := since_trans hS hx
    try simp only [Act.put, List.setIfInBounds_toArray, List.set_cons_zero, List.set_cons_succ]
    refine wpAnyH_ready (rs := [48]) (by kernel_rfl) (by simp) ?_
    refine AllReadyH.cons (o := ⟨some 170, _, _, _, _, _⟩) rfl (fun Kr hKr => ?_) AllReadyH.nil
    -- operation 48: a call
    go_simp
    refine (same13_any A15 B15 A B n a15 m b15 a b t (by omega) (by omega) _ H15.out (HTB.out _ hS)).mono ?_
    rintro e V15 ⟨rfl, hx⟩
    show Kr _ _
    refine hKr.out _ _ ?_ (fun _ => ?_)
    · exact since_trans hS hx
    clear hKr Kr
    replace hS : Since wk V15 := since_trans hS hx
    try simp only [Act.put, List.setIfInBounds_toArray, List.set_cons_zero, List.set_cons_succ]
    refine wpAnyH_take (i := 49) (oi := ⟨some 171, _, _, _, _, _⟩) (v := ?_) rfl (by kernel_rfl) (by kernel_rfl) (by kernel_rfl) (fun _ _ _ h => h) (Or.inl ⟨by rfl, ?_⟩) hS ?_
    rotate_left
    · intro W hW; go_simp; with_reducible rfl
    try simp only [Act.put, List.setIfInBounds_toArray, List.set_cons_zero, List.set_cons_succ]
    refine wpAnyH_take (i := 50) (oi := ⟨some 14, _, _, _, _, _⟩) (v := ?_) rfl (by kernel_rfl) (by kernel_rfl) (by kernel_rfl) (fun _ _ _ h => h) (Or.inl ⟨by rfl, ?_⟩) hS ?_
    rotate_left
    · intro W hW; go_simp; with_reducible rfl
    try simp only [Act.put, List.setIfInBounds_toArray, List.set_cons_zero, List.set_cons_succ]
    refine wpAnyH_done (by kernel_rfl) ?_ _
    go_wp2_with fail
    go_ret
    exact ⟨rfl, HB.out.trans (Below.mono hS HB.out.size)⟩
end Go.Proofs.Ytogngghfdcpeaaa
