/-
  EscrowUndo: the statement, out of its walk: for every input the law returns true, and each argument reads as it read. No condition.
-/
import Derived.Test.YtogngghfdcpeaaaKs
import Derived.Test.YtogngghfdcpeaaaKo
import Derived.Test.YtogngghfdcpeaaaRow13
namespace Go.Proofs.Ytogngghfdcpeaaa
set_option maxRecDepth 100000
set_option linter.unusedVariables false
set_option linter.unusedSimpArgs false
open Go.RowKit

theorem and63 (n : Int) : bits .and .i64 n 63 = n % 64 := by
  show IntKind.i64.wrap ((BitVec.ofInt 64 n &&& BitVec.ofInt 64 63).toNat : Int) = _
  have h : ((BitVec.ofInt 64 n).toNat : Int) = n % ((2 : Nat) ^ 64 : Nat) := by
    rw [BitVec.toNat_ofInt]
    have : (0 : Int) ≤ n % ((2 : Nat) ^ 64 : Nat) := Int.emod_nonneg _ (by decide)
    rw [Int.toNat_of_nonneg this]
  rw [BitVec.toNat_and, show (BitVec.ofInt 64 63).toNat = 2 ^ 6 - 1 from rfl, Nat.and_two_pow_sub_one_eq_mod]
  rw [IntKind.wrap_i64]
  omega

theorem may0 : MayBegin T1 0 := ⟨.inr ⟨0, rfl, by decide, rfl⟩, by decide, by
  rw [show (0 : Int) = ((0 : Nat) : Int) from rfl, Tr.way_nat (by decide), wayN_top (by decide)]
  decide⟩
def U2 : Tr := ⟨[⟨-1, 1, 1, 0⟩, ⟨0, 1, 2, 0⟩], 2⟩
def U3 : Tr := ⟨[⟨-1, 1, 1, 0⟩, ⟨0, 1, 2, 0⟩, ⟨-1, 1, 3, 0⟩], 3⟩
theorem goodU2 : Good U2 := good1.begun may0
theorem goodU3 : Good U3 := goodU2.begun (mayb _ (by decide))
theorem kid_any (A : Option Addr) (cap : Nat) (w : World) (hT : TxAt w A T1.l) :
    Calls Try.prog 27 #[.agg #[.slice A 1 cap, .int .i64 1], .int .i64 0] w fun e w' => ∃ A k, e = .returned (.tuple #[.agg #[.slice A 2 k, .int .i64 2], .int .i64 1, .int .i64 0]) ∧ TxAt w' A U2.l ∧ Below w.heap.size w w' := by
  refine (begin_any A T1 1 cap 1 0 rfl good1 rfl (by decide) w hT).mono ?_
  rintro e w1 ⟨hb, ⟨_, A, k, n, hn, rfl, htx⟩ | ⟨_, _, hno, _⟩⟩
  · exact ⟨A, k, by rw [hn]; rfl, htx, hb⟩
  · exact absurd may0 hno

def cU : List Ct := [⟨-1000, 1000, 0⟩]
theorem one0 : One ⟨cU, []⟩ (-1000) 1000 0 := ⟨rfl, by simp, List.Pairwise.nil, by simp, by decide, by decide, by decide, by decide⟩
/-- what is added, with its answer -/
theorem undo_add {P : List Pd} (h : One ⟨cU, P⟩ (-1000) 1000 0) (x z : Int) (hx : 0 ≤ x ∧ x ≤ 2) (hs : (U3.tx x.toNat).s = 1) (hz : -100 ≤ z ∧ z ≤ 100) (hu : sF Pd.u P ≤ 200) (hd : -200 ≤ sF Pd.d P) (hp : ∀ p ∈ P, p.x < x) (hn : P.length ≤ 5) :
    Tb.addE ⟨cU, P⟩ U3 x 0 z = 0 ∧ Tb.addT ⟨cU, P⟩ U3 x 0 z = ⟨cU, P ++ bit x z⟩ ∧ One ⟨cU, P ++ bit x z⟩ (-1000) 1000 0 := by
  have hf := (h.fits z (by omega)).2 ⟨by simp only; omega, by simp only; omega⟩
  have he := h.addE (T := U3) (N := 3) rfl (x := x) (by omega) hs z
  rw [if_pos hf] at he
  obtain ⟨h1, h2⟩ := h.addT (T := U3) (x := x) (z := z) (by omega) (by omega) hp (by simp only; omega) he hf
  exact ⟨he, h1, h2⟩
structure UndoF (a b c : Int) (L : List Pd) : Prop where
  e0 : Tb.addE ⟨cU, []⟩ U3 0 0 a = 0
  t0 : Tb.addT ⟨cU, []⟩ U3 0 0 a = ⟨cU, bit 0 a⟩
  e1 : Tb.addE ⟨cU, bit 0 a⟩ U3 1 0 (-b) = 0
  t1 : Tb.addT ⟨cU, bit 0 a⟩ U3 1 0 (-b) = ⟨cU, bit 0 a ++ bit 1 (-b)⟩
  e2 : Tb.addE ⟨cU, bit 0 a ++ bit 1 (-b)⟩ U3 2 0 c = 0
  t2 : Tb.addT ⟨cU, bit 0 a ++ bit 1 (-b)⟩ U3 2 0 c = ⟨cU, bit 0 a ++ bit 1 (-b) ++ bit 2 c⟩
  o3 : One ⟨cU, bit 0 a ++ bit 1 (-b) ++ bit 2 c⟩ (-1000) 1000 0
  ps : Tb.pass ⟨cU, bit 0 a ++ bit 1 (-b) ++ bit 2 c⟩ 1 0 = ⟨cU, L ++ bit 2 c⟩
  ll : L.length ≤ 1
  of : ofL (L ++ bit 2 c) 1 = []
  fr : freeL (L ++ bit 2 c) [0] = bit 2 c
  o4 : One ⟨cU, bit 2 c⟩ (-1000) 1000 0
  pe : Tb.pass ⟨cU, bit 2 c⟩ 2 (-1) = ⟨[⟨-1000, 1000, c⟩], []⟩
theorem undo_facts (a b c : Int) (ha : 0 ≤ a ∧ a ≤ 63) (hb : 0 ≤ b ∧ b ≤ 63) (hc : 0 ≤ c ∧ c ≤ 63) : ∃ L, UndoF a b c L := by
  obtain ⟨e0, t0, o1⟩ := undo_add one0 0 a (by omega) rfl (by omega) (by decide) (by decide) (by simp) (by simp)
  rw [List.nil_append] at t0 o1
  have b0 := bit_sum 0 a
  have b1 := bit_sum 1 (-b)
  have l0 := bit_len 0 a
  have l1 := bit_len 1 (-b)
  obtain ⟨e1, t1, o2⟩ := undo_add o1 1 (-b) (by omega) rfl (by omega) (by rw [b0.1]; omega) (by rw [b0.2]; omega) (fun p hp => by rw [(bit_mem hp).2]; exact (show (0 : Int) < 1 by decide)) (by omega)
  obtain ⟨e2, t2, o3⟩ := undo_add o2 2 c (by omega) rfl (by omega) (by rw [sF_app, b0.1, b1.1]; omega) (by rw [sF_app, b0.2, b1.2]; omega) (fun p hp => by
    rcases List.mem_append.1 hp with h | h
    · rw [(bit_mem h).2]; exact (show (0 : Int) < 2 by decide)
    · rw [(bit_mem h).2]; exact (show (1 : Int) < 2 by decide)) (by rw [List.length_append]; omega)
  obtain ⟨L, hL, hx, hll⟩ := undo_pass cU a b c hb.1
  have o4 : One ⟨cU, bit 2 c⟩ (-1000) 1000 0 := by
    obtain ⟨c1, c2⟩ := bit_sum 2 c
    refine ⟨rfl, fun p hp => o3.may p (by simp only [List.mem_append]; exact .inr hp), o3.up.sub (List.sublist_append_right _ _), ?_, ?_, ?_, by decide, by decide⟩
    · have := bit_len 2 c; simp only; omega
    · rw [c1]; omega
    · rw [c2]; omega
  refine ⟨L, e0, t0, e1, t1, e2, t2, o3, hL, hll, ?_, ?_, o4, ?_⟩
  · rw [ofL_app, of_none hx (by decide), of_bit]; rfl
  · rw [freeL_app, free_all hx, free_bit]; rfl
  · rw [(o4.pass 2).1]
    obtain ⟨c1, c2⟩ := bit_sum 2 c
    simp only
    rw [of_bit, if_pos rfl, free_bit, if_pos rfl, c1, c2, show (0 : Int) + max c 0 + min c 0 = c by omega]
theorem withm {a b c : Int} {L : List Pd} (h : UndoF a b c L) {m : Nat} (hm : (L ++ bit 2 c).length = m) : m ≤ 1000 := by
  have h1 := h.ll
  have h2 := bit_len 2 c
  rw [List.length_append] at hm
  omega

set_option maxHeartbeats 8000000 in
theorem undo_walk (x y z : Int) (w : World) :
    Calls Try.prog 5 #[.int .i64 x, .int .i64 y, .int .i64 z] w fun e w' => e = .returned (.bool true) ∧ Below w.heap.size w w' := by
  obtain ⟨a, ha⟩ : ∃ a, a = x % 64 := ⟨_, rfl⟩
  obtain ⟨b, hb⟩ : ∃ a, a = y % 64 := ⟨_, rfl⟩
  obtain ⟨c, hc⟩ : ∃ a, a = z % 64 := ⟨_, rfl⟩
  have hna : bits .and .i64 x 63 = a := by rw [and63, ha]
  have hnb : bits .and .i64 y 63 = b := by rw [and63, hb]
  have hnc : bits .and .i64 z 63 = c := by rw [and63, hc]
  have ba : 0 ≤ a ∧ a ≤ 63 := by omega
  have bb : 0 ≤ b ∧ b ≤ 63 := by omega
  have bc : 0 ≤ c ∧ c ≤ 63 := by omega
  obtain ⟨L, hf⟩ := undo_facts a b c ba bb bc
  have HF := Lib.hid hf
  have HBC := Lib.hid bc
  have hng : IntKind.i64.wrap (-b) = -b := by rw [IntKind.wrap_i64]; omega
  have ka := fun A n a' B m b' D d w ht hr => padd_any A B n a' m b' ⟨cU, []⟩ D 3 d 3 U3 0 0 a (by decide) (by unfold okI; omega) (by have := (TbO.tb ht).pl; rw [← this]; decide) w ht hr
  have kb := fun A n a' B m b' D d w ht hr => padd_any A B n a' m b' ⟨cU, bit 0 a⟩ D 3 d 3 U3 1 0 (-b) (by decide) (by unfold okI; omega) (by have := (TbO.tb ht).pl; have := bit_len 0 a; simp only at *; omega) w ht hr
  have kc := fun A n a' B m b' D d w ht hr => padd_any A B n a' m b' ⟨cU, bit 0 a ++ bit 1 (-b)⟩ D 3 d 3 U3 2 0 c (by decide) (by unfold okI; omega) (by have := (TbO.tb ht).pl; have := bit_len 0 a; have := bit_len 1 (-b); simp only [List.length_append] at *; omega) w ht hr
  rw [hf.e0, hf.t0] at ka
  rw [hf.e1, hf.t1] at kb
  rw [hf.e2, hf.t2] at kc
  have kd := fun A a' B m b' w ht => ppass_any A B 1 a' m b' ⟨cU, bit 0 a ++ bit 1 (-b) ++ bit 2 c⟩ 1 0 (by decide) (by decide) (by omega) (by have := (TbO.tb ht).pl; have := hf.o3.n; omega) hf.o3.up hf.o3.may w ht
  rw [hf.ps] at kd
  have ke := fun A a' B m b' w ht => ppass_any A B 1 a' m b' ⟨cU, bit 2 c⟩ 2 (-1) (by decide) (by decide) (by omega) (by have := (TbO.tb ht).pl; have := hf.o4.n; omega) hf.o4.up hf.o4.may w ht
  rw [hf.pe] at ke
  have HKA := Lib.hid ka
  have HKB := Lib.hid kb
  have HKC := Lib.hid kc
  have HKD := Lib.hid kd
  have HKE := Lib.hid ke
  have HAW := Lib.hid awake_any
  have HB1 := Lib.hid (fun w => top_any none ⟨[], 0⟩ 0 0 0 rfl good_nil rfl (by decide) (by decide) 1 1 0 rfl rfl rfl w (.inl ⟨rfl, rfl⟩))
  have HB3 := Lib.hid (fun A k w (h : TxAt w A U2.l) => top_any A U2 2 k 2 rfl goodU2 rfl (by decide) (by decide) 3 3 2 rfl rfl rfl w h)
  have HLB := Lib.hid (show (bit 2 c).length = if c = 0 then 0 else 1 by unfold bit; split <;> rfl)
  clear ka kb kc kd ke hf ha hb hc ba bb bc
  go_enter Try.func5, Try.ntmps5
  go_wp2_with fail
  refine (HAW.out _).mono ?_
  rintro e w0 ⟨rfl, hv0⟩
  have HV0 := Lib.hid hv0
  clear hv0 HAW
  go_wp2_with fail
  refine (HB1.out _).mono ?_
  rintro e w1 ⟨A1, k1, rfl, hx1, hv1⟩
  have HX1 := Lib.hid (show TxAt w1 A1 T1.l from hx1)
  have HV1 := Lib.hid (HV0.out.trans (hv1.mono HV0.out.size))
  clear hx1 hv1 HB1 HV0
  go_upto_region 3 with fail
  obtain ⟨g, hg⟩ : ∃ g, g = w1.heap.size := ⟨_, rfl⟩
  obtain ⟨wa, hwa⟩ : ∃ wa, wa = w1.alloc (.cells (trC A1 1 k1 1) 38) := ⟨_, rfl⟩
  have HKa := Lib.hid (show Bk wa g (trC A1 1 k1 1) 38 by rw [hwa, hg]; exact Bk.new w1 _ _)
  have HXa := Lib.hid (show TxAt wa A1 T1.l by rw [hwa]; exact HX1.out.below (below_new w1 _))
  have HVa := Lib.hid (show Below w.heap.size w wa by rw [hwa]; exact HV1.out.trans ((below_new w1 _).mono HV1.out.size))
  have HG := Lib.hid (show w.heap.size ≤ g by rw [hg]; exact HV1.out.size)
  rw [← hg, ← hwa]
  clear hg hwa HX1 HV1
  have r0 := HKa.out.r_0
  have r1 := HKa.out.r_1
  go_wp2_with fail
  refine (kid_any A1 k1 wa HXa.out).mono ?_
  rintro e w2 ⟨A2, k2, rfl, hx2, hv2⟩
  have HX2 := Lib.hid hx2
  have HV2 := Lib.hid (HVa.out.trans (hv2.mono HVa.out.size))
  have HK2 := Lib.hid (HKa.out.below hv2)
  clear hx2 hv2 HKa HXa HVa r0 r1
  have r0 := HK2.out.r_0
  have r1 := HK2.out.r_1
  have f0 := HK2.out.fr 0
  have f1 := HK2.out.fr 1
  go_upto_region 4 with fail
  have HKb := Lib.hid (HK2.out.two (.slice A2 2 k2) (.int .i64 2))
  have HXb := Lib.hid (tx_put HX2.out HK2.out (.slice A2 2 k2) (.int .i64 2))
  have HVb := Lib.hid (HV2.out.trans ((Turn.two (W := w2) g (.slice A2 2 k2) (.int .i64 2)).below (B := w.heap.size) (fun q h => by have := HG.out; omega) HV2.out.size))
  generalize (w2.setCell ⟨g, 0, none⟩ (.slice A2 2 k2)).setCell ⟨g, 1, none⟩ (.int .i64 2) = wb at *
  clear HK2 HX2 HV2 r0 r1 f0 f1
  have r0 := HKb.out.r_0
  have r1 := HKb.out.r_1
  go_wp2_with fail
  refine (HB3.out A2 k2 wb HXb.out).mono ?_
  rintro e w3 ⟨A3, k3, rfl, hx3, hv3⟩
  have HX3 := Lib.hid (show TxAt w3 A3 U3.l from hx3)
  have HV3 := Lib.hid (HVb.out.trans (hv3.mono HVb.out.size))
  have HK3 := Lib.hid (HKb.out.below hv3)
  clear hx3 hv3 HB3 HKb HXb HVb r0 r1
  have r0 := HK3.out.r_0
  have r1 := HK3.out.r_1
  have f0 := HK3.out.fr 0
  have f1 := HK3.out.fr 1
  go_upto_region 5 with fail
  have HKc := Lib.hid (HK3.out.two (.slice A3 3 k3) (.int .i64 3))
  have HXc := Lib.hid (tx_put HX3.out HK3.out (.slice A3 3 k3) (.int .i64 3))
  have HVc := Lib.hid (HV3.out.trans ((Turn.two (W := w3) g (.slice A3 3 k3) (.int .i64 3)).below (B := w.heap.size) (fun q h => by have := HG.out; omega) HV3.out.size))
  generalize (w3.setCell ⟨g, 0, none⟩ (.slice A3 3 k3)).setCell ⟨g, 1, none⟩ (.int .i64 3) = wc at *
  clear HK3 HX3 HV3 r0 r1 f0 f1
  go_upto_region 6 with fail
  obtain ⟨gc, hgc⟩ : ∃ gc, gc = wc.heap.size := ⟨_, rfl⟩
  obtain ⟨wd, hwd⟩ : ∃ wd, wd = (wc.alloc (.cells #[.int .i64 (-1000), .int .i64 1000, .int .i64 0] 67)).alloc (.cells (tbC (some ⟨gc, 0, none⟩) 1 1 none 0 0) 34) := ⟨_, rfl⟩
  obtain ⟨gt, hgt⟩ : ∃ gt, gt = wc.heap.size + 1 := ⟨_, rfl⟩
  have hbd : Below wc.heap.size wc wd := by rw [hwd]; exact below_two (below_new _ _) (below_new _ _)
  have HKd := Lib.hid (HKc.out.below hbd)
  have HXd := Lib.hid (HXc.out.below hbd)
  have HVd := Lib.hid (HVc.out.trans (hbd.mono HVc.out.size))
  have HGd := Lib.hid (show Bk wd gt (tbC (some ⟨gc, 0, none⟩) 1 1 none 0 0) 34 by
    rw [hwd, hgt]
    have h := Bk.new (wc.alloc (.cells #[.int .i64 (-1000), .int .i64 1000, .int .i64 0] 67)) (tbC (some ⟨gc, 0, none⟩) 1 1 none 0 0) 34
    rw [size_al] at h; exact h)
  have HTd := Lib.hid (show TbO wd (some ⟨gc, 0, none⟩) 1 1 none 0 0 ⟨cU, []⟩ from by
    refine ⟨⟨rfl, rfl, ?_, (fun p hp => by cases hp), ?_, .inl rfl⟩, Nat.le_refl _, .inr (.inr ⟨_, _, rfl⟩), Nat.le_refl _, .inl rfl, fun g o e => by cases e⟩
    · intro c hc
      have : c = ⟨-1000, 1000, 0⟩ := by simpa [cU] using hc
      subst this; exact ⟨by decide, by decide, by decide⟩
    · rw [hwd, hgc]
      exact (Rk.At.new rc_oko wc (⟨-1000, 1000, 0⟩ : Ct) 67).below (below_new _ _))
  have HNE := Lib.hid (show g ≠ gt ∧ w.heap.size ≤ gt by have h1 := HKc.out.lt; have h2 := HVc.out.size; omega)
  have hgt2 : gt = gc + 1 := by rw [hgt, hgc]
  rw [← hgc, ← hgt2, ← hwd]
  clear hgc hwd hgt hgt2 hbd HKc HXc HVc
  have r0 := HKd.out.r_0
  have r1 := HKd.out.r_1
  have t0 := HGd.out.t0
  have t1 := HGd.out.t1
  go_wp2_with fail
  refine (HKA.out (some ⟨gc, 0, none⟩) 1 1 none 0 0 A3 k3 wd HTd.out (tr_rows HXd.out goodU3 (by decide) rfl)).mono ?_
  rintro e w5 ⟨A5, n5, a5, B5, m5, b5, rfl, ht5, hv5⟩
  have HK5 := Lib.hid (HKd.out.below hv5)
  have HX5 := Lib.hid (HXd.out.below hv5)
  have HV5 := Lib.hid (HVd.out.trans (hv5.mono HVd.out.size))
  have HG5 := Lib.hid (HGd.out.below hv5)
  obtain rfl : n5 = 1 := ht5.tb.cl.symm
  have HT5 := Lib.hid ht5
  clear ht5 hv5 HKA HKd HXd HVd HGd HTd r0 r1 t0 t1
  have t0 := HG5.out.t0
  have t1 := HG5.out.t1
  have f0 := HG5.out.fr 0
  have f1 := HG5.out.fr 1
  go_upto_region 7 with fail
  have HGe := Lib.hid (HG5.out.two (.slice A5 1 a5) (.slice B5 m5 b5))
  have HTe := Lib.hid (HT5.out.put HG5.out (.slice A5 1 a5) (.slice B5 m5 b5))
  have hT := Turn.two (W := w5) gt (.slice A5 1 a5) (.slice B5 m5 b5)
  have HKe := Lib.hid (HK5.out.turn hT HNE.out.1)
  have HXe := Lib.hid (HX5.out.turn hT (tx_far HX5.out HG5.out))
  have HVe := Lib.hid (HV5.out.trans (hT.below (B := w.heap.size) (fun q h => by have := HNE.out.2; omega) HV5.out.size))
  generalize (w5.setCell ⟨gt, 0, none⟩ (.slice A5 1 a5)).setCell ⟨gt, 1, none⟩ (.slice B5 m5 b5) = we at *
  clear hT HG5 HT5 HK5 HX5 HV5 t0 t1 f0 f1
  have r0 := HKe.out.r_0
  have r1 := HKe.out.r_1
  have t0 := HGe.out.t0
  have t1 := HGe.out.t1
  go_wp2_with fail
  refine (HKB.out A5 1 a5 B5 m5 b5 A3 k3 we HTe.out (tr_rows HXe.out goodU3 (by decide) rfl)).mono ?_
  rintro e w6 ⟨A6, n6, a6, B6, m6, b6, rfl, ht6, hv6⟩
  have HK6 := Lib.hid (HKe.out.below hv6)
  have HX6 := Lib.hid (HXe.out.below hv6)
  have HV6 := Lib.hid (HVe.out.trans (hv6.mono HVe.out.size))
  have HG6 := Lib.hid (HGe.out.below hv6)
  obtain rfl : n6 = 1 := ht6.tb.cl.symm
  have HT6 := Lib.hid ht6
  clear ht6 hv6 HKB HKe HXe HVe HGe HTe r0 r1 t0 t1
  have t0 := HG6.out.t0
  have t1 := HG6.out.t1
  have f0 := HG6.out.fr 0
  have f1 := HG6.out.fr 1
  go_upto_region 8 with fail
  have HGf := Lib.hid (HG6.out.two (.slice A6 1 a6) (.slice B6 m6 b6))
  have HTf := Lib.hid (HT6.out.put HG6.out (.slice A6 1 a6) (.slice B6 m6 b6))
  have hT := Turn.two (W := w6) gt (.slice A6 1 a6) (.slice B6 m6 b6)
  have HKf := Lib.hid (HK6.out.turn hT HNE.out.1)
  have HXf := Lib.hid (HX6.out.turn hT (tx_far HX6.out HG6.out))
  have HVf := Lib.hid (HV6.out.trans (hT.below (B := w.heap.size) (fun q h => by have := HNE.out.2; omega) HV6.out.size))
  generalize (w6.setCell ⟨gt, 0, none⟩ (.slice A6 1 a6)).setCell ⟨gt, 1, none⟩ (.slice B6 m6 b6) = wf at *
  clear hT HG6 HT6 HK6 HX6 HV6 t0 t1 f0 f1
  have r0 := HKf.out.r_0
  have r1 := HKf.out.r_1
  have t0 := HGf.out.t0
  have t1 := HGf.out.t1
  go_wp2_with fail
  refine (HKC.out A6 1 a6 B6 m6 b6 A3 k3 wf HTf.out (tr_rows HXf.out goodU3 (by decide) rfl)).mono ?_
  rintro e w7 ⟨A7, n7, a7, B7, m7, b7, rfl, ht7, hv7⟩
  have HK7 := Lib.hid (HKf.out.below hv7)
  have HX7 := Lib.hid (HXf.out.below hv7)
  have HV7 := Lib.hid (HVf.out.trans (hv7.mono HVf.out.size))
  have HG7 := Lib.hid (HGf.out.below hv7)
  obtain rfl : n7 = 1 := ht7.tb.cl.symm
  have HT7 := Lib.hid ht7
  clear ht7 hv7 HKC HKf HXf HVf HGf HTf r0 r1 t0 t1
  have t0 := HG7.out.t0
  have t1 := HG7.out.t1
  have f0 := HG7.out.fr 0
  have f1 := HG7.out.fr 1
  go_upto_region 9 with fail
  have HGg := Lib.hid (HG7.out.two (.slice A7 1 a7) (.slice B7 m7 b7))
  have HTg := Lib.hid (HT7.out.put HG7.out (.slice A7 1 a7) (.slice B7 m7 b7))
  have hT := Turn.two (W := w7) gt (.slice A7 1 a7) (.slice B7 m7 b7)
  have HKg := Lib.hid (HK7.out.turn hT HNE.out.1)
  have HXg := Lib.hid (HX7.out.turn hT (tx_far HX7.out HG7.out))
  have HVg := Lib.hid (HV7.out.trans (hT.below (B := w.heap.size) (fun q h => by have := HNE.out.2; omega) HV7.out.size))
  generalize (w7.setCell ⟨gt, 0, none⟩ (.slice A7 1 a7)).setCell ⟨gt, 1, none⟩ (.slice B7 m7 b7) = wg at *
  clear hT HG7 HT7 HK7 HX7 HV7 t0 t1 f0 f1
  have r0 := HKg.out.r_0
  have r1 := HKg.out.r_1
  have t0 := HGg.out.t0
  have t1 := HGg.out.t1
  clear r0 r1 HKg HXg
  go_wp2_with fail
  refine (HKD.out A7 a7 B7 m7 b7 wg HTg.out).mono ?_
  rintro e w8 ⟨A8, a8, B8, m8, b8, rfl, ht8, hv8⟩
  have HV8 := Lib.hid (HVg.out.trans (hv8.mono HVg.out.size))
  have HT8 := Lib.hid ht8
  clear ht8 hv8 HKD HVg HGg HTg t0 t1 HNE HG
  go_upto_region 12 with fail
  obtain ⟨gu, hgu⟩ : ∃ g, g = w8.heap.size := ⟨_, rfl⟩
  obtain ⟨wh, hwh⟩ : ∃ q, q = w8.alloc (.cells (tbC A8 1 a8 B8 m8 b8) 34) := ⟨_, rfl⟩
  have hbh : Below w8.heap.size w8 wh := by rw [hwh]; exact below_new _ _
  have HUh := Lib.hid (show Bk wh gu (tbC A8 1 a8 B8 m8 b8) 34 by rw [hwh, hgu]; exact Bk.new w8 _ _)
  have HTh := Lib.hid (HT8.out.below hbh)
  have HVh := Lib.hid (HV8.out.trans (hbh.mono HV8.out.size))
  rw [← hgu, ← hwh]
  clear hgu hwh hbh HV8 HT8
  have t0 := HUh.out.t0
  have t1 := HUh.out.t1
  have hl0 : Ls (wh.alloc (.cells #[.int .i64 0] 3)) (some ⟨wh.heap.size, 0, none⟩) 1 [0] := Ls.new wh [0] (by intro y hy; simp at hy; subst hy; decide)
  have HL0 := Lib.hid hl0
  have x0 := (HUh.out.al (.cells #[.int .i64 0] 3)).t0
  have x1 := (HUh.out.al (.cells #[.int .i64 0] 3)).t1
  have HUi := Lib.hid (HUh.out.al (.cells #[.int .i64 0] 3))
  have HTi := Lib.hid (HTh.out.below (below_new wh (.cells #[.int .i64 0] 3)))
  have HVi := Lib.hid (HVh.out.trans ((below_new wh (.cells #[.int .i64 0] 3)).mono HVh.out.size))
  clear hl0
  go_wp2_with fail
  refine (pfree_any A8 B8 1 a8 m8 b8 ⟨cU, L ++ bit 2 c⟩ _ 1 1 [0] (by omega) (by have := HTi.out.tb.pl; have := HTi.out.mb; have := HF.out.o3.n; have := withm HF.out HTi.out.tb.pl; omega) (by omega) _ HTi.out HL0.out).mono ?_
  rintro e w9 ⟨A9, a9, B9, m9, b9, cb, rfl, hcb, hC, hP, hm9, hPC, hv9⟩
  have HU9 := Lib.hid (HUi.out.below hv9)
  have HT9 := Lib.hid (HTi.out.below hv9)
  have HV9 := Lib.hid (HVi.out.trans (hv9.mono HVi.out.size))
  have HM9 := Lib.hid hm9
  obtain ⟨p1, p2, p3, p4⟩ := own_parts rp_oko hP hm9
  obtain ⟨p5, p6, p7, p8⟩ := own_parts rc_oko hC (n := 1) rfl
  have HT9v := Lib.hid (show TbO w9 A9 1 a9 B9 m9 b9 ⟨cU, bit 2 c⟩ from by
    have hfr := HF.out.fr
    rw [hfr] at p1 hm9
    exact ⟨⟨rfl, hm9, HTi.out.tb.okC, fun p hp => HTi.out.tb.okP p (by show p ∈ L ++ bit 2 c; rw [List.mem_append]; exact .inr hp), p5, p1⟩, p6, .inr p7, p2, .inr p3, fun b o e => (p4 b o e).2⟩)
  clear hcb hC hP hm9 hPC hv9 p1 p2 p3 p4 p5 p6 p7 p8 t0 t1 x0 x1 HUh HTh HVh HL0 HUi HTi HVi HM9
  go_upto_region 13 with fail
  obtain ⟨gv, hgv⟩ : ∃ g, g = w9.heap.size := ⟨_, rfl⟩
  obtain ⟨wj, hwj⟩ : ∃ q, q = w9.alloc (.cells (tbC A9 1 a9 B9 m9 b9) 34) := ⟨_, rfl⟩
  have hbj : Below w9.heap.size w9 wj := by rw [hwj]; exact below_new _ _
  have HWj := Lib.hid (show Bk wj gv (tbC A9 1 a9 B9 m9 b9) 34 by rw [hwj, hgv]; exact Bk.new w9 _ _)
  have HUj := Lib.hid (HU9.out.below hbj)
  have HTj := Lib.hid (HT9.out.below hbj)
  have HTjv := Lib.hid (HT9v.out.below hbj)
  have HVj := Lib.hid (HV9.out.trans (hbj.mono HV9.out.size))
  rw [← hgv, ← hwj]
  clear hgv hwj hbj HU9 HT9 HT9v HV9
  have t0 := HWj.out.t0
  have t1 := HWj.out.t1
  go_wp2_with fail
  refine (HKE.out A9 a9 B9 m9 b9 wj HTjv.out).mono ?_
  rintro e wk ⟨Ak, ak, Bk', mk, bk, rfl, htk, hvk⟩
  have HUk := Lib.hid (HUj.out.below hvk)
  have HTk := Lib.hid (HTj.out.below hvk)
  have HWk := Lib.hid (HWj.out.below hvk)
  have HTw := Lib.hid htk
  have HVk := Lib.hid (HVj.out.trans (hvk.mono HVj.out.size))
  have HMV := Lib.hid (show m9 = if c = 0 then 0 else 1 by rw [← HLB.out, ← HTjv.out.tb.pl])
  clear htk hvk HKE HUj HTj HTjv HVj HWj t0 t1 HLB
  go_upto_region 14 with fail
  obtain ⟨gw, hgw⟩ : ∃ g, g = wk.heap.size := ⟨_, rfl⟩
  obtain ⟨wl, hwl⟩ : ∃ q, q = wk.alloc (.cells (tbC Ak 1 ak Bk' mk bk) 34) := ⟨_, rfl⟩
  have hbl : Below wk.heap.size wk wl := by rw [hwl]; exact below_new _ _
  have HQl := Lib.hid (show Bk wl gw (tbC Ak 1 ak Bk' mk bk) 34 by rw [hwl, hgw]; exact Bk.new wk _ _)
  have HUl := Lib.hid (HUk.out.below hbl)
  have HWl := Lib.hid (HWk.out.below hbl)
  have HTl := Lib.hid (HTk.out.below hbl)
  have HTwl := Lib.hid (HTw.out.below hbl)
  have HVl := Lib.hid (HVk.out.trans (hbl.mono HVk.out.size))
  rw [← hgw, ← hwl]
  clear hgw hwl hbl HUk HTk HWk HTw HVk
  have t0 := HUl.out.t0
  have t1 := HUl.out.t1
  go_wp2_with fail
  refine (of_any A8 B8 1 a8 m8 b8 (L ++ bit 2 c) 1 HTl.out.tb.pl (by have := withm HF.out HTl.out.tb.pl; omega) wl HTl.out.tb.atP).mono ?_
  rintro e wm ⟨v, rfl, hO, hvm, _⟩
  rw [HF.out.of] at hO
  obtain ⟨Av, cv, rfl⟩ := own_slice rp_oko hO (n := 0) rfl
  have HWm := Lib.hid (HWl.out.below hvm)
  have HQm := Lib.hid (HQl.out.below hvm)
  have HTm := Lib.hid (HTwl.out.below hvm)
  have HVm := Lib.hid (HVl.out.trans (hvm.mono HVl.out.size))
  clear hO hvm HUl HTl HVl HWl HQl HTwl t0 t1
  have u1 := HWm.out.t1
  have q0 := HQm.out.t0
  have q1 := HQm.out.t1
  obtain ⟨bw, ow, hAk, hbw, hcc⟩ := HTm.out.tb.atC.get rc_oko (i := 0) (x := ⟨-1000, 1000, c⟩) rfl
  have c2 := hcc 2 _ rfl
  clear hcc
  subst hAk
  obtain rfl : mk = 0 := HTm.out.tb.pl.symm
  have c2' : wm.cell? ⟨bw, ow + 2, none⟩ = some (.int .i64 c) := by simpa using c2
  have hmin : min c 1 = (m9 : Int) := by rw [HMV.out]; have := HBC.out; split <;> omega
  clear c2 HMV
  go_wp2_with fail
  go_ret
  exact ⟨by simp [hmin], HVm.out⟩
end Go.Proofs.Ytogngghfdcpeaaa

namespace Go.Proofs.Ytogngghfdcpeaaa.escrowUndo
open Go.ChangeShapes Go.WideShapes Go.ChangeAt Go.RowKit
set_option linter.unusedVariables false

set_option maxRecDepth 100000 in
theorem lifted (os : Os) (started : os.Started) (H : Type) (enc : TypeId × Value → H) :
    ReturnsInHanded {} Try.checked os 5 .any (Rows.escrowUndoSpec.pre6 enc Try.prog Try.f5 Rows.escrowUndoRow.domain false) (Rows.escrowUndoSpec.post enc Try.prog Try.f5 false true false false) := by
  refine returnsInHanded_of_change_sized (C := Try.checked) rowOwn started (by kernel_rfl) Try.func5
    (ChangeSpec.witness6 (enc := enc) (C := Try.checked) false ⟨#[], #[.int .i64 0, .int .i64 0, .int .i64 0], []⟩ 8 (by kernel_rfl) (by kernel_rfl) (by kernel_rfl) (by kernel_rfl)) ?_
  intro W base args ds gs before hval0 hW _ hsz0 _
  have hval : ∀ (j : Nat) t v, Try.f5.params[j]? = some t → args[j]? = some v → Value.okWide Try.prog W .any base t v := hval0
  clear hsz0
  have hW' := hW
  obtain ⟨p, q, hA0, hV, rfl, hfz, hnd⟩ := hW
  have hA : DataW.TrodAll enc Try.prog W 0 (fun _ => true) true Try.f5.params.toList args.toList ds p := hA0
  rw [Try.params5] at hA hval
  obtain ⟨v0, vs0, d0, ds0, p0, q0, hargs, rfl, rfl, h0, r_0⟩ := trodAll_cons hA
  obtain ⟨v1, vs1, d1, ds1, p1, q1, rfl, rfl, rfl, h1, r_1⟩ := trodAll_cons r_0
  obtain ⟨v2, vs2, d2, ds2, p2, q2, rfl, rfl, rfl, h2, r_2⟩ := trodAll_cons r_1
  obtain ⟨rfl, rfl, rfl⟩ := trodAll_nil r_2
  obtain rfl : args = #[v0, v1, v2] := by cases args; simp_all
  obtain ⟨rfl, rfl⟩ := trodVars_none hV
  obtain ⟨a0, rfl, rfl, rfl, w0⟩ := open_int Try.underlying3 (hval 0 3 v0 rfl rfl) h0
  have h0 : -9223372036854775808 ≤ a0 ∧ a0 ≤ 9223372036854775807 := bounds_i64 w0
  obtain ⟨a1, rfl, rfl, rfl, w1⟩ := open_int Try.underlying3 (hval 1 3 v1 rfl rfl) h1
  have h1 : -9223372036854775808 ≤ a1 ∧ a1 ≤ 9223372036854775807 := bounds_i64 w1
  obtain ⟨a2, rfl, rfl, rfl, w2⟩ := open_int Try.underlying3 (hval 2 3 v2 rfl rfl) h2
  have h2 : -9223372036854775808 ≤ a2 ∧ a2 ≤ 9223372036854775807 := bounds_i64 w2
  clear hA0 hval0
  refine (undo_walk a0 a1 a2 W).mono fun e W' ⟨he, bel⟩ => ?_
  subst he
  exact ⟨_, rfl, _, _, _, [], _, [], hW', trodAll_mk1 (shut_bool Try.underlying4 _), (trodAll_cons_mk (shut_int Try.underlying3 w0) (trodAll_cons_mk (shut_int Try.underlying3 w1) (trodAll_cons_mk (shut_int Try.underlying3 w2) trodAll_mk0))), rfl, bel.frame _, fun h => by cases h⟩

theorem over : Rows.escrowUndoRow.holds Try.pinned (OpenSpec.ofChange Rows.escrowUndoSpec) :=
  OpenClaim.holds_of_wide 5 Try.f5 rfl rfl rfl rfl rfl rfl rfl ⟨rfl, rfl, rfl, rfl, rfl⟩ rfl rfl rfl rfl rfl (by kernel_rfl) Try.func5 (by kernel_rfl)
    (of_decide_eq_true (by kernel_rfl)) (by unfold Func.isWrapper; first | (rw [if_pos (by decide +kernel)]; kernel_rfl) | (rw [if_neg (by decide +kernel)]; exact ⟨rfl, rfl⟩))
    (fun os started H enc _ => lifted os started H enc)

/-- the statement -/
theorem proved : Rows.EscrowUndoSaid := over
#print axioms proved
end Go.Proofs.Ytogngghfdcpeaaa.escrowUndo
