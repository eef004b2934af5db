/-
  VersionLast: of writes to one block the last one is read.
-/
import Derived.Test.YtmhnjmfcenbogaaTp
import Derived.Test.YtmhnjmfcenbogaaGr
namespace Go.Proofs.Ytmhnjmfcenbogaa
set_option maxRecDepth 100000
set_option linter.unusedVariables false
set_option linter.unusedSimpArgs false
open Go.RowKit Go.Shelf

def wantB (k : Nat) (c : Nat → UInt8) : List UInt8 := (List.range k).map c
theorem wantB_len (k : Nat) (c : Nat → UInt8) : (wantB k c).length = k := by simp [wantB]
theorem wantB_get {k : Nat} {c : Nat → UInt8} {j : Nat} (h : j < k) : (wantB k c)[j]? = some (c j) := by
  unfold wantB
  rw [List.getElem?_map, List.getElem?_range h]; rfl
theorem wantB_set (k : Nat) (c : Nat → UInt8) (j : Nat) (e : UInt8) : (wantB k c).set j e = wantB k (fun i => if i = j then e else c i) := by
  refine List.ext_getElem? fun i => ?_
  rcases Nat.lt_or_ge i k with h | h
  · rw [wantB_get h, List.getElem?_set]
    by_cases e1 : j = i
    · rw [if_pos e1, if_pos (by rw [wantB_len]; omega), if_pos e1.symm]
    · rw [if_neg e1, wantB_get h, if_neg (fun e => e1 e.symm)]
  · rw [List.getElem?_eq_none (by rw [List.length_set, wantB_len]; exact h), List.getElem?_eq_none (by rw [wantB_len]; exact h)]
theorem wantB_zero (k : Nat) : wantB k (fun _ => 0) = List.replicate k 0 := by
  unfold wantB
  rw [List.map_const', List.length_range]
theorem dat_get {W : World} {A : Option Addr} {n c : Nat} {d : List UInt8} (h : DatAt W ⟨A, n, c⟩ d) {j : Nat} (hj : j < n) : ∃ b o, A = some ⟨b, o, none⟩ ∧ b < W.heap.size ∧ W.cell? ⟨b, o + j, none⟩ = some (byV (d.getD j 0)) := by
  have hl : j < d.length := by rw [h.n]; exact hj
  obtain ⟨b, o, e, hb, hc⟩ := h.get (i := j) (x := d.getD j 0) (by rw [List.getD_eq_getElem?_getD, List.getElem?_eq_getElem hl]; rfl)
  exact ⟨b, o, e, hb, hc⟩

theorem VtNew.mono {lo lo' : Nat} {W : World} {A B : Option Addr} {n a m b : Nat} {t : Vt} (h : VtNew lo W A n a B m b t) (hl : lo' ≤ lo) : VtNew lo' W A n a B m b t := by
  obtain ⟨ss, h1, k1⟩ := h.base
  obtain ⟨vs, h2, k2⟩ := h.vers
  exact ⟨⟨ss, h1, fun s hs q o e => Nat.le_trans hl (k1 s hs q o e)⟩, ⟨vs, h2, fun r hr q o e => Nat.le_trans hl (k2 r hr q o e)⟩, h.na, h.sa, h.mb, h.sb⟩
theorem last_ask {t : Vt} {K m : Nat} {c : Nat → UInt8} (h : LastF t K m c) {j : Nat} (hj : j < K) {k : Int} (hk : 0 ≤ k ∧ k < 2) : askV t (topT K) (j : Int) k = 0 :=
  askV_ok (by rw [h.B]; exact hk) (by rw [top_len']; omega) (by rw [Int.toNat_natCast]; exact (top_tx K j hj).2)

set_option maxHeartbeats 8000000 in
theorem last_walk (E : Option Addr) (len cap : Nat) (l : List UInt8) (nn : Int) (w : World) (hl : DatAt w ⟨E, len, cap⟩ l) :
    Calls Try.prog 7 #[.slice E len cap, .int .i64 nn] w fun e w' => e = .returned (.bool true) ∧ Below w.heap.size w w' := by
  have HL := Lib.hid hl
  obtain ⟨x, hx, hand⟩ := low nn 3 2 (by decide) (by omega)
  have hx4 : x < 4 := hx
  obtain ⟨K, hK⟩ : ∃ K : Nat, K = 1 + x := ⟨_, rfl⟩
  have hone : IntKind.i64.wrap (1 + (x : Int)) = (K : Int) := by rw [IntKind.wrap_i64]; omega
  have HK := Lib.hid (show 1 ≤ K ∧ K ≤ 4 by omega)
  clear hl hK hx hx4
  go_enter Try.func7, Try.ntmps7
  go_wp2_with fail
  refine (awake_any _).mono ?_
  rintro e w0 ⟨rfl, hv0⟩
  have HV0 := Lib.hid hv0
  clear hv0
  rcases Nat.lt_or_ge 60 len with hbig | hsm
  · have d1 : decide ((len : Int) > 60) = true := decide_eq_true (by omega)
    have d2 : decide ((60 : Int) < (len : Int)) = true := decide_eq_true (by omega)
    have d3 : decide (60 < len) = true := decide_eq_true hbig
    go_wp2_with fail
    go_ret
    exact ⟨rfl, HV0.out⟩
  have d1 : decide ((len : Int) > 60) = false := decide_eq_false (by omega)
  have d2 : decide ((60 : Int) < (len : Int)) = false := decide_eq_false (by omega)
  have d3 : decide (60 < len) = false := decide_eq_false (by omega)
  go_upto_region 6 with fail
  obtain ⟨g, hg⟩ : ∃ g, g = w0.heap.size := ⟨_, rfl⟩
  obtain ⟨wa, hwa⟩ : ∃ wa, wa = w0.alloc (.cells (txC2 none 0 0 0) 26) := ⟨_, rfl⟩
  have HKa := Lib.hid (show Bk wa g (txC2 none 0 0 0) 26 by rw [hwa, hg]; exact Bk.new w0 _ _)
  have HVa := Lib.hid (show Below w.heap.size w wa by rw [hwa]; exact HV0.out.trans ((below_new w0 _).mono HV0.out.size))
  have HG := Lib.hid (show w.heap.size ≤ g by rw [hg]; exact HV0.out.size)
  rw [← hg, ← hwa]
  clear hg hwa HV0 hand hone d1 d2 d3
  go_wp2_with fail
  go_loopw [8] (fun iv wr => ∃ (i : Nat) (A : Option Addr) (k : Nat), iv = .int .i64 (i : Int) ∧ i ≤ K ∧ Hid (TxAt wr A (topT i).l) ∧ Hid (Bk wr g (txC2 A i k (i : Int)) 26) ∧ Hid (i ≤ k) ∧ Hid (Below w.heap.size w wr)) (fun iv _ => K - (intOf iv).toNat)
  case atStart => exact ⟨0, none, 0, rfl, Nat.zero_le _, Lib.hid (.inl ⟨rfl, rfl⟩), HKa, Lib.hid (Nat.le_refl _), HVa⟩
  case round =>
    obtain ⟨i, A, k, rfl, hi, HX, HB, HKK, HV⟩ := hrel
    rcases Nat.lt_or_ge i K with hlt | hge
    · have hd4 : decide ((i : Int) < (K : Int)) = true := decide_eq_true (by omega)
      have hd5 : decide (i < K) = true := decide_eq_true hlt
      have hi4 : K ≤ 4 := HK.out.2
      have r0 : wr.cell? ⟨g, 0, none⟩ = some (.slice A i k) := HB.out.c 0 _ rfl
      have r1 : wr.cell? ⟨g, 1, none⟩ = some (.int .i64 (i : Int)) := HB.out.c 1 _ rfl
      have HBG := Lib.hid (top_begin A i k (by omega) wr HX.out)
      go_wp2_with fail
      refine HBG.out.mono ?_
      rintro e w1 ⟨A2, k2, rfl, hx1, hk1, hv1⟩
      have HX1 := Lib.hid hx1
      have HK1 := Lib.hid hk1
      have HV1 := Lib.hid (HV.out.trans (hv1.mono HV.out.size))
      have HB1 := Lib.hid (HB.out.below hv1)
      clear hx1 hk1 hv1 HBG HX HB HV r0 r1
      go_upto_region 12 with fail
      obtain ⟨ga, hga⟩ : ∃ g, g = w1.heap.size := ⟨_, rfl⟩
      obtain ⟨we, hwe⟩ : ∃ q, q = w1.alloc (.cells (txC2 A2 (i + 1) k2 ((i : Int) + 1)) 26) := ⟨_, rfl⟩
      have hbe : Below w1.heap.size w1 we := by rw [hwe]; exact below_new _ _
      have HAe := Lib.hid (show Bk we ga (txC2 A2 (i + 1) k2 ((i : Int) + 1)) 26 by rw [hwe, hga]; exact Bk.new w1 _ _)
      have HXe := Lib.hid (HX1.out.below hbe)
      have HVe := Lib.hid (HV1.out.trans (hbe.mono HV1.out.size))
      have HBe := Lib.hid (HB1.out.below hbe)
      rw [← hga, ← hwe]
      clear hga hwe hbe HX1 HV1 HB1
      have r0 : we.cell? ⟨ga, 0, none⟩ = some (.slice A2 (i + 1) k2) := HAe.out.c 0 _ rfl
      have r1 : we.cell? ⟨ga, 1, none⟩ = some (.int .i64 ((i : Int) + 1)) := HAe.out.c 1 _ rfl
      have f0 := HBe.out.fr 0
      have f1 := HBe.out.fr 1
      have q0 : we.cell? ⟨g, 0, none⟩ = some (.slice A i k) := HBe.out.c 0 _ rfl
      have q1 : we.cell? ⟨g, 1, none⟩ = some (.int .i64 (i : Int)) := HBe.out.c 1 _ rfl
      go_wp2_with fail
      have hT := Turn.two (W := we) g (.slice A2 (i + 1) k2) (.int .i64 ((i : Int) + 1))
      exact ⟨⟨i + 1, A2, k2, by simp, hlt, Lib.hid (tx_put HXe.out HBe.out _ _), Lib.hid (HBe.out.two _ _), HK1, Lib.hid (HVe.out.trans (hT.below (B := w.heap.size) (fun q h => by have := HG.out; omega) HVe.out.size))⟩, by simp [intOf]; omega⟩
    · obtain rfl : i = K := by omega
      have hd4 : decide ((i : Int) < (i : Int)) = false := decide_eq_false (by omega)
      have hd5 : decide (i < i) = false := decide_eq_false (by omega)
      obtain ⟨w1, hw1⟩ : ∃ w1, w1 = wr := ⟨_, rfl⟩
      subst hw1
      go_wp2_with fail
      refine (blank_any 2 (by omega) w1).mono ?_
      rintro e wb ⟨A1, a1, rfl, ht1, hab, hvb⟩
      have HTb := Lib.hid (show VtAt RVo wb A1 2 a1 none 0 0 ⟨[zV, zV], []⟩ from ht1)
      have HXb := Lib.hid (HX.out.below hvb)
      have HBb := Lib.hid (HB.out.below hvb)
      have HVb := Lib.hid (HV.out.trans (hvb.mono HV.out.size))
      have HAb := Lib.hid (show ∀ b o, A1 = some ⟨b, o, none⟩ → g < b ∧ b < wb.heap.size from fun b o e => ⟨by have h1 := hab b o e; have h2 := HB.out.lt; omega, by
        obtain ⟨ss, hss⟩ := ht1.base
        rcases hss.at_.lt b o e with h | h
        · have := hss.l; rw [h] at this; simp at this
        · exact h⟩)
      clear ht1 hab hvb hd4 hd5 HX HB HV
      go_upto_region 14 with fail
      obtain ⟨gt, hgt⟩ : ∃ g, g = wb.heap.size := ⟨_, rfl⟩
      have HXL := Lib.hid (show ∀ b o, A = some ⟨b, o, none⟩ → b < gt from fun b o e => by
        rcases HXb.out with ⟨h2, _⟩ | ⟨b', h2, h3, _⟩
        · rw [h2] at e; cases e
        · rw [h2] at e; injection e with e; injection e with e _; omega)
      obtain ⟨wd, hwd⟩ : ∃ q, q = wb.alloc (.cells (vtC A1 2 a1 none 0 0) 30) := ⟨_, rfl⟩
      have hbd : Below wb.heap.size wb wd := by rw [hwd]; exact below_new _ _
      have hsd : wd.heap.size = wb.heap.size + 1 := by rw [hwd]; simp
      have HGT := Lib.hid (show Bk wd gt (vtC A1 2 a1 none 0 0) 30 by rw [hwd, hgt]; exact Bk.new _ _ _)
      have HTd := Lib.hid (HTb.out.below hbd)
      have HXd := Lib.hid (HXb.out.below hbd)
      have HBd := Lib.hid (HBb.out.below hbd)
      have HVd := Lib.hid (HVb.out.trans (hbd.mono HVb.out.size))
      have HYd := Lib.hid (show Away A1 none gt ∧ Away A1 none wd.heap.size from ⟨⟨fun b o e => by have := (HAb.out b o e).2; omega, fun b o e => by cases e⟩, ⟨fun b o e => by have := (HAb.out b o e).2; omega, fun b o e => by cases e⟩⟩)
      have HNN := Lib.hid (show g < gt ∧ gt < wd.heap.size ∧ w.heap.size ≤ g from ⟨by rw [hgt]; exact HBb.out.lt, HGT.out.lt, HG.out⟩)
      rw [← hgt, ← hwd]
      clear hgt hwd hbd hsd HTb HXb HBb HVb HAb
      have hi4 : i ≤ 4 := HK.out.2
      have hi1' : 1 ≤ i := HK.out.1
      obtain ⟨we, hmk, hoe, hbe⟩ := run_zeros wd i (by omega)
      have HMK := Lib.hid hmk
      obtain ⟨gW, hgW⟩ : ∃ q, q = wd.heap.size := ⟨_, rfl⟩
      rw [← hgW] at HMK hoe
      have HOe := Lib.hid (show RY.Own we gW (.slice (some ⟨gW, 0, none⟩) i i) (wantB i (fun _ => 0)) by rw [wantB_zero]; exact hoe)
      have HXe := Lib.hid (HXd.out.below hbe)
      have HBe := Lib.hid (HBd.out.below hbe)
      have HVe := Lib.hid (HVd.out.trans (hbe.mono HVd.out.size))
      have HGe := Lib.hid (HGT.out.below hbe)
      have HTe := Lib.hid (show ∀ V, Turn (fun q => q = gW) we V → VtAt RVo V A1 2 a1 none 0 0 ⟨[zV, zV], []⟩ from fun V hV => HTd.out.below (hbe.trans (hV.below (B := wd.heap.size) (fun q h => by omega) hbe.size)))
      have HYe := Lib.hid (show Away A1 none gt ∧ Away A1 none gW by rw [hgW]; exact HYd.out)
      have HNe := Lib.hid (show (g < gt ∧ gt < gW ∧ w.heap.size ≤ g) ∧ gW < we.heap.size from ⟨by rw [hgW]; exact HNN.out, (hoe.lt gW rfl).2⟩)
      have HXG := Lib.hid (show ∀ V, Turn (fun q => q = gt ∨ q = gW) we V → TxAt V A (topT i).l from fun V hV => HXe.out.turn hV (fun b o e => .inr fun h => by
        have h1 := HXL.out b o e
        have h2 := HNe.out
        omega))
      clear hmk hoe hbe hgW HXd HBd HVd HGT HTd HYd HNN
      go_wp2_with (first
        | (at_make; refine wpList_make_run rfl 36 _ _ rfl rfl rfl HMK.out ?_)
        | fail)
      clear HMK
      go_loopw [14, 15] (fun mv iv wr => ∃ (j mt : Nat) (t : Vt) (c : Nat → UInt8) (A1 : Option Addr) (n1 a1 : Nat) (B1 : Option Addr) (m1 b1 : Nat), mv = .int .i64 (mt : Int) ∧ iv = .int .i64 (j : Int) ∧ j ≤ len ∧ Hid (mt = min j i) ∧ Hid (LastF t i j c) ∧ Hid (Bk wr gt (vtC A1 n1 a1 B1 m1 b1) 30) ∧ Hid (∀ V, Turn (fun q => q = gW) wr V → VtAt RVo V A1 n1 a1 B1 m1 b1 t) ∧ Hid (Away A1 B1 gt ∧ Away A1 B1 gW) ∧ Hid (RY.Own wr gW (.slice (some ⟨gW, 0, none⟩) i i) (wantB i c)) ∧ Hid (Turn (fun q => q = gt ∨ q = gW) we wr)) (fun _ iv _ => len - (intOf iv).toNat)
      case atStart => exact ⟨0, 0, _, _, A1, 2, a1, none, 0, 0, rfl, rfl, Nat.zero_le _, Lib.hid (by omega), Lib.hid (last0 i), HGe, HTe, HYe, HOe, Lib.hid (Turn.refl _ _)⟩
      case round =>
        obtain ⟨j, mt, t, c, A1, n1, a1, B1, m1, b1, rfl, rfl, hj, HMT, HLF, HGj, HTj, HYj, HOj, HUj⟩ := hrel
        clear HGe HTe HYe HOe
        have HVj := Lib.hid (show Below w.heap.size w wr from HVe.out.trans (HUj.out.below (B := w.heap.size) (fun q h => by have := HNe.out; omega) HVe.out.size))
        have HBj := Lib.hid (HBe.out.turn HUj.out (by have := HNe.out; omega))
        have HXj := Lib.hid (HXG.out wr HUj.out)
        have HTr := Lib.hid (HTj.out wr (Turn.refl _ _))
        rcases Nat.lt_or_ge j len with hlt | hge
        · obtain ⟨be, oe, hE, hbl, hby⟩ := dat_get HL.out hlt
          subst hE
          have cby := (HVj.out.cell (p := ⟨be, oe + j, none⟩) hbl).trans hby
          obtain ⟨z, hz⟩ : ∃ z, l.getD j 0 = z := ⟨_, rfl⟩
          rw [hz] at cby hby
          obtain ⟨y, hy⟩ : ∃ y, y = j % i := ⟨_, rfl⟩
          have hyi : y < i := by rw [hy]; exact Nat.mod_lt _ (by omega)
          have hmod : (j : Int) % (i : Int) = (y : Int) := by rw [hy]; simp
          have hmod2 : Int.tmod (j : Int) (i : Int) = (y : Int) := by rw [Int.tmod_eq_emod_of_nonneg (by omega)]; exact hmod
          have hw3 : IntKind.i64.wrap (y : Int) = (y : Int) := by rw [IntKind.wrap_i64]; omega
          have hnz : ((i : Int) == 0) = false := by simp; omega
          have hnz2 : ¬ (i : Int) = 0 := by omega
          have hnz3 : ¬ i = 0 := by omega
          have HST := Lib.hid (show LastF ⟨t.B, putV ⟨1, (y : Int), padV [z]⟩ t.L⟩ i (j + 1) (fun q => if q = y then z else c q) by
            have h := HLF.out.step ⟨by omega, by omega⟩ z
            rw [← hy] at h; exact h)
          have HAS := Lib.hid (last_ask HLF.out hyi (k := 1) (by omega))
          have HTL := Lib.hid (show t.L.length ≤ 1000 by have := HLF.out.n; omega)
          have hd4 : decide ((j : Int) < (len : Int)) = true := decide_eq_true (by omega)
          have hd5 : decide (j < len) = true := decide_eq_true hlt
          have hi1 : (j : Int) < (len : Int) := by omega
          have hi2 : j < len := hlt
          obtain ⟨m2, hm2⟩ : ∃ m2 : Nat, m2 = min (j + 1) i := ⟨_, rfl⟩
          have hmin : min ((j : Int) + 1) (i : Int) = (m2 : Int) := by omega
          have HM2 := Lib.hid hm2
          have HYI := Lib.hid hyi
          have HBL := Lib.hid (show be < w.heap.size from hbl)
          have HSL := Lib.hid (show (some (⟨be, oe, none⟩ : Addr)) = some ⟨be, oe, none⟩ from rfl)
          clear hz hy hbl hm2
          have t0 : ∀ V, Since wr V → V.cell? ⟨gt, 0, none⟩ = some (.slice A1 n1 a1) := fun V hV => (HGj.out.below hV).v0
          have t1 : ∀ V, Since wr V → V.cell? ⟨gt, 1, none⟩ = some (.slice B1 m1 b1) := fun V hV => (HGj.out.below hV).v1
          have k0 : ∀ V, Since wr V → V.cell? ⟨g, 0, none⟩ = some (.slice A i k) := fun V hV => (HBj.out.below hV).c 0 _ rfl
          have k1 : ∀ V, Since wr V → V.cell? ⟨g, 1, none⟩ = some (.int .i64 (i : Int)) := fun V hV => (HBj.out.below hV).c 1 _ rfl
          have e0 : ∀ V, Since wr V → V.cell? ⟨be, oe + j, none⟩ = some (byV z) := fun V hV => (Below.cell hV (p := ⟨be, oe + j, none⟩) (Nat.lt_of_lt_of_le HBL.out HVj.out.size)).trans cby
          clear cby
          go_upto_region 19 with fail
          go_cut [16, 17] from 55 to 84 (fun pv ev wc => ∃ (g6 : Nat) (A6 : Option Addr) (n6 a6 : Nat) (B6 : Option Addr) (m6 b6 : Nat), pv = .pointer (some ⟨g6, 0, none⟩) ∧ ev = .int .i64 0 ∧ Hid (Bk wc g6 (vtC A6 n6 a6 B6 m6 b6) 30) ∧ Hid (VtNew wr.heap.size wc A6 n6 a6 B6 m6 b6 ⟨t.B, putV ⟨1, (y : Int), padV [z]⟩ t.L⟩) ∧ Hid (∀ q, q < wr.heap.size → Away A6 B6 q) ∧ Hid (Since wr wc))
          case first =>
            have HZ0 := Lib.hid (show (World.drew wr).heap.size = wr.heap.size from rfl)
            refine wp_region_since (by kernel_rfl) ?_
            have hS : Since wr (World.drew wr) := (Below.refl _ _).drew
            refine wpAnyH_take (i := 0) (oi := ⟨some 56, _, _, _, _, _⟩) (v := ?_) rfl (by kernel_rfl) (by kernel_rfl) (by kernel_rfl) (fun _ _ _ h => h) (Or.inl ⟨by rfl, ?_⟩) hS ?_
            rotate_left
            · intro W hW; go_simp; with_reducible rfl
            try simp only [Act.put, List.setIfInBounds_toArray, List.set_cons_zero, List.set_cons_succ]
            refine wpAnyH_take (i := 1) (oi := ⟨some 57, _, _, _, _, _⟩) (v := ?_) rfl (by kernel_rfl) (by kernel_rfl) (by kernel_rfl) (fun _ _ _ h => h) (Or.inl ⟨by rfl, ?_⟩) hS ?_
            rotate_left
            · intro W hW; go_simp; with_reducible rfl
            try simp only [Act.put, List.setIfInBounds_toArray, List.set_cons_zero, List.set_cons_succ]
            refine wpAnyH_take (i := 2) (oi := ⟨some 58, _, _, _, _, _⟩) (v := ?_) rfl (by kernel_rfl) (by kernel_rfl) (by kernel_rfl) (fun _ _ _ h => h) (Or.inl ⟨by rfl, ?_⟩) hS ?_
            rotate_left
            · intro W hW; go_simp; with_reducible rfl
            try simp only [Act.put, List.setIfInBounds_toArray, List.set_cons_zero, List.set_cons_succ]
            refine wpAnyH_take (i := 3) (oi := ⟨some 59, _, _, _, _, _⟩) (v := ?_) rfl (by kernel_rfl) (by kernel_rfl) (by kernel_rfl) (fun _ _ _ h => h) (Or.inl ⟨by rfl, ?_⟩) hS ?_
            rotate_left
            · intro W hW; go_simp; with_reducible rfl
            try simp only [Act.put, List.setIfInBounds_toArray, List.set_cons_zero, List.set_cons_succ]
            refine wpAnyH_take (i := 4) (oi := ⟨some 60, _, _, _, _, _⟩) (v := ?_) rfl (by kernel_rfl) (by kernel_rfl) (by kernel_rfl) (fun _ _ _ h => h) (Or.inl ⟨by rfl, ?_⟩) hS ?_
            rotate_left
            · intro W hW; go_simp; with_reducible rfl
            try simp only [Act.put, List.setIfInBounds_toArray, List.set_cons_zero, List.set_cons_succ]
            refine wpAnyH_take (i := 5) (oi := ⟨some 61, _, _, _, _, _⟩) (v := ?_) rfl (by kernel_rfl) (by kernel_rfl) (by kernel_rfl) (fun _ _ _ h => h) (Or.inl ⟨by rfl, ?_⟩) hS ?_
            rotate_left
            · intro W hW; go_simp; with_reducible rfl
            try simp only [Act.put, List.setIfInBounds_toArray, List.set_cons_zero, List.set_cons_succ]
            refine wpAnyH_take (i := 6) (oi := ⟨some 62, _, _, _, _, _⟩) (v := ?_) rfl (by kernel_rfl) (by kernel_rfl) (by kernel_rfl) (fun _ _ _ h => h) (Or.inl ⟨by rfl, ?_⟩) hS ?_
            rotate_left
            · intro W hW; go_simp; with_reducible rfl
            try simp only [Act.put, List.setIfInBounds_toArray, List.set_cons_zero, List.set_cons_succ]
            refine wpAnyH_take (i := 7) (oi := ⟨some 63, _, _, _, _, _⟩) (v := ?_) rfl (by kernel_rfl) (by kernel_rfl) (by kernel_rfl) (fun _ _ _ h => h) (Or.inl ⟨by rfl, ?_⟩) hS ?_
            rotate_left
            · intro W hW; go_simp; with_reducible rfl
            try simp only [Act.put, List.setIfInBounds_toArray, List.set_cons_zero, List.set_cons_succ]
            refine wpAnyH_take (i := 8) (oi := ⟨some 64, _, _, _, _, _⟩) (v := ?_) rfl (by kernel_rfl) (by kernel_rfl) (by kernel_rfl) (fun _ _ _ h => h) (Or.inl ⟨by rfl, ?_⟩) hS ?_
            rotate_left
            · intro W hW; go_simp; with_reducible rfl
            try simp only [Act.put, List.setIfInBounds_toArray, List.set_cons_zero, List.set_cons_succ]
            refine wpAnyH_ready (rs := [9, 14]) (by kernel_rfl) (by simp) ?_
            refine AllReadyH.cons (o := ⟨some 65, _, _, _, _, _⟩) rfl (fun Kr hKr => ?_) (AllReadyH.cons (o := ⟨some 16, _, _, _, _, _⟩) rfl (fun Kr hKr => ?_) AllReadyH.nil)
            · skip
              -- operation 9: a step
              refine wp_build_u8 (n := z) _ rfl rfl ?_
              intro wu gu hgu hdu hvu
              have HDU := Lib.hid hdu
              have HZU := Lib.hid (show _ ≤ _ from hvu.size)
              try replace HK6 := Lib.hid (Bk.below HK6.out hvu)
              clear hgu hdu
              show Kr _ _
              refine hKr.out _ _ ?_ (fun _ => ?_)
              · exact since_trans hS hvu
              clear hKr Kr
              replace hS : Since wr wu := since_trans hS hvu
              try simp only [Act.put, List.setIfInBounds_toArray, List.set_cons_zero, List.set_cons_succ]
              refine wpAnyH_ready (rs := [10, 14]) (by kernel_rfl) (by simp) ?_
              refine AllReadyH.cons (o := ⟨some 66, _, _, _, _, _⟩) rfl (fun Kr hKr => ?_) (AllReadyH.cons (o := ⟨some 16, _, _, _, _, _⟩) rfl (fun Kr hKr => ?_) AllReadyH.nil)
              · skip
                -- operation 10: a call
                go_simp
                have HSW := Lib.hid (Below.size hS)
                refine (write_new A1 B1 n1 a1 m1 b1 t A i k (i : Int) (topT i) (y : Int) 1 ⟨some ⟨gu, 0, none⟩, 1, 1⟩ [z] _ (HTr.out.below hS) HLF.out.s HTL.out (HXj.out.below hS) (top_good i (by omega)) (top_c i) (by omega) (top_len' i) HKK.out (by unfold okI; omega) (by unfold okI; omega) HDU.out (by simp)).mono ?_
                rintro e ww ⟨hvw, ⟨has, A6, n6, a6, B6, m6, b6, haw, rfl, htw⟩ | ⟨hno, _⟩⟩
                rotate_left
                · exact absurd HAS.out hno
                have HTW := Lib.hid htw
                have HAW := Lib.hid haw
                have HZW := Lib.hid (show _ ≤ _ from hvw.size)
                try replace HK6 := Lib.hid (Bk.below HK6.out hvw)
                clear htw haw has
                show Kr _ _
                refine hKr.out _ _ ?_ (fun _ => ?_)
                · exact since_trans hS hvw
                clear hKr Kr
                replace hS : Since wr ww := since_trans hS hvw
                try simp only [Act.put, List.setIfInBounds_toArray, List.set_cons_zero, List.set_cons_succ]
                refine wpAnyH_take (i := 11) (oi := ⟨some 55, _, _, _, _, _⟩) (v := ?_) rfl (by kernel_rfl) (by kernel_rfl) (by kernel_rfl) (fun _ _ _ h => h) (Or.inl ⟨by rfl, ?_⟩) hS ?_
                rotate_left
                · intro W hW; go_simp; with_reducible rfl
                try simp only [Act.put, List.setIfInBounds_toArray, List.set_cons_zero, List.set_cons_succ]
                refine wpAnyH_take (i := 12) (oi := ⟨some 67, _, _, _, _, _⟩) (v := ?_) rfl (by kernel_rfl) (by kernel_rfl) (by kernel_rfl) (fun _ _ _ h => h) (Or.inl ⟨by rfl, ?_⟩) hS ?_
                rotate_left
                · intro W hW; go_simp; with_reducible rfl
                try simp only [Act.put, List.setIfInBounds_toArray, List.set_cons_zero, List.set_cons_succ]
                refine wpAnyH_take (i := 13) (oi := ⟨some 68, _, _, _, _, _⟩) (v := ?_) rfl (by kernel_rfl) (by kernel_rfl) (by kernel_rfl) (fun _ _ _ h => h) (Or.inl ⟨by rfl, ?_⟩) hS ?_
                rotate_left
                · intro W hW; go_simp; with_reducible rfl
                try simp only [Act.put, List.setIfInBounds_toArray, List.set_cons_zero, List.set_cons_succ]
                refine wpAnyH_ready (rs := [14]) (by kernel_rfl) (by simp) ?_
                refine AllReadyH.cons (o := ⟨some 16, _, _, _, _, _⟩) rfl (fun Kr hKr => ?_) AllReadyH.nil
                -- operation 14: a step
                refine wp_alloc_bk 30 rfl #[.slice none 0 0, .slice none 0 0] (by kernel_rfl) ?_
                intro wK g6 hk6 hbK hgK
                have HZK := Lib.hid (And.intro hgK (And.intro (Bk.lt hk6) hbK.size))
                have HK6 := Lib.hid (show Bk wK g6 (vtC none 0 0 none 0 0) 30 from hk6)
                try replace HDU := Lib.hid (HDU.out.below hbK)
                try replace HTW := Lib.hid (HTW.out.below hbK)
                clear hgK hk6
                show Kr _ _
                refine hKr.out _ _ ?_ (fun _ => ?_)
                · exact since_trans hS hbK
                clear hKr Kr
                replace hS : Since wr wK := since_trans hS hbK
                try simp only [Act.put, List.setIfInBounds_toArray, List.set_cons_zero, List.set_cons_succ]
                refine wpAnyH_ready (rs := [15]) (by kernel_rfl) (by simp) ?_
                refine AllReadyH.cons (o := ⟨none, _, _, _, _, _⟩) rfl (fun Kr hKr => ?_) AllReadyH.nil
                -- operation 15: a step
                have haw6 : Away A6 B6 g6 := HAW.out g6 (by have h2 := HZK.out; have h3 := HZU.out; have h4 := HZW.out; have h5 := HZ0.out; omega)
                refine wp_store_bk 30 (.tmp 16) (.tmp 67) rfl g6 (vtC A6 n6 a6 B6 m6 b6) rfl rfl 30 _ HK6.out (by kernel_rfl) rfl vt_one ?_
                intro wS hkS hgS
                have HKS := Lib.hid (show Bk wS g6 (vtC A6 n6 a6 B6 m6 b6) 30 from hkS)
                have HTS := Lib.hid ((HTW.out.off HK6.out vtc_by haw6 ((Turn.refl (fun q => q = g6) _).grown hgS (fun q e => .inl (by injection e with e; exact e.symm)))).mono HSW.out)
                have HSZ := Lib.hid (show wr.heap.size ≤ g6 by have h2 := HZK.out; have h3 := HZU.out; have h4 := HZW.out; have h5 := HZ0.out; omega)
                clear haw6 hkS
                show Kr _ _
                refine hKr.out _ _ ?_ (fun _ => ?_)
                · exact Below.grown hS hgS hS.size (fun q e => by injection e with e; have := HSZ.out; omega)
                clear hKr Kr
                replace hS : Since wr wS := Below.grown hS hgS hS.size (fun q e => by injection e with e; have := HSZ.out; omega)
                try simp only [Act.put, List.setIfInBounds_toArray, List.set_cons_zero, List.set_cons_succ]
                refine wpAnyH_take (i := 16) (oi := ⟨some 17, _, _, _, _, _⟩) (v := ?_) rfl (by kernel_rfl) (by kernel_rfl) (by kernel_rfl) (fun _ _ _ h => h) (Or.inl ⟨by rfl, ?_⟩) hS ?_
                rotate_left
                · intro W hW; go_simp; with_reducible rfl
                try simp only [Act.put, List.setIfInBounds_toArray, List.set_cons_zero, List.set_cons_succ]
                refine wpAnyH_done (by kernel_rfl) ?_ _
                have HSS := Lib.hid hS
                clear hS
                go_wp2_with fail
                go_meet
                case rel => exact ⟨g6, A6, n6, a6, B6, m6, b6, rfl, rfl, HKS, HTS, Lib.hid (fun q hq => HAW.out q (.inl (by have := HSW.out; omega))), HSS⟩
              · skip
                -- operation 14: a step
                refine wp_alloc_bk 30 rfl #[.slice none 0 0, .slice none 0 0] (by kernel_rfl) ?_
                intro wK g6 hk6 hbK hgK
                have HZK := Lib.hid (And.intro hgK (And.intro (Bk.lt hk6) hbK.size))
                have HK6 := Lib.hid (show Bk wK g6 (vtC none 0 0 none 0 0) 30 from hk6)
                try replace HDU := Lib.hid (HDU.out.below hbK)
                try replace HTW := Lib.hid (HTW.out.below hbK)
                clear hgK hk6
                show Kr _ _
                refine hKr.out _ _ ?_ (fun _ => ?_)
                · exact since_trans hS hbK
                clear hKr Kr
                replace hS : Since wr wK := since_trans hS hbK
                try simp only [Act.put, List.setIfInBounds_toArray, List.set_cons_zero, List.set_cons_succ]
                refine wpAnyH_ready (rs := [10]) (by kernel_rfl) (by simp) ?_
                refine AllReadyH.cons (o := ⟨some 66, _, _, _, _, _⟩) rfl (fun Kr hKr => ?_) AllReadyH.nil
                -- operation 10: a call
                go_simp
                have HSW := Lib.hid (Below.size hS)
                refine (write_new A1 B1 n1 a1 m1 b1 t A i k (i : Int) (topT i) (y : Int) 1 ⟨some ⟨gu, 0, none⟩, 1, 1⟩ [z] _ (HTr.out.below hS) HLF.out.s HTL.out (HXj.out.below hS) (top_good i (by omega)) (top_c i) (by omega) (top_len' i) HKK.out (by unfold okI; omega) (by unfold okI; omega) HDU.out (by simp)).mono ?_
                rintro e ww ⟨hvw, ⟨has, A6, n6, a6, B6, m6, b6, haw, rfl, htw⟩ | ⟨hno, _⟩⟩
                rotate_left
                · exact absurd HAS.out hno
                have HTW := Lib.hid htw
                have HAW := Lib.hid haw
                have HZW := Lib.hid (show _ ≤ _ from hvw.size)
                try replace HK6 := Lib.hid (Bk.below HK6.out hvw)
                clear htw haw has
                show Kr _ _
                refine hKr.out _ _ ?_ (fun _ => ?_)
                · exact since_trans hS hvw
                clear hKr Kr
                replace hS : Since wr ww := since_trans hS hvw
                try simp only [Act.put, List.setIfInBounds_toArray, List.set_cons_zero, List.set_cons_succ]
                refine wpAnyH_take (i := 11) (oi := ⟨some 55, _, _, _, _, _⟩) (v := ?_) rfl (by kernel_rfl) (by kernel_rfl) (by kernel_rfl) (fun _ _ _ h => h) (Or.inl ⟨by rfl, ?_⟩) hS ?_
                rotate_left
                · intro W hW; go_simp; with_reducible rfl
                try simp only [Act.put, List.setIfInBounds_toArray, List.set_cons_zero, List.set_cons_succ]
                refine wpAnyH_take (i := 12) (oi := ⟨some 67, _, _, _, _, _⟩) (v := ?_) rfl (by kernel_rfl) (by kernel_rfl) (by kernel_rfl) (fun _ _ _ h => h) (Or.inl ⟨by rfl, ?_⟩) hS ?_
                rotate_left
                · intro W hW; go_simp; with_reducible rfl
                try simp only [Act.put, List.setIfInBounds_toArray, List.set_cons_zero, List.set_cons_succ]
                refine wpAnyH_take (i := 13) (oi := ⟨some 68, _, _, _, _, _⟩) (v := ?_) rfl (by kernel_rfl) (by kernel_rfl) (by kernel_rfl) (fun _ _ _ h => h) (Or.inl ⟨by rfl, ?_⟩) hS ?_
                rotate_left
                · intro W hW; go_simp; with_reducible rfl
                try simp only [Act.put, List.setIfInBounds_toArray, List.set_cons_zero, List.set_cons_succ]
                refine wpAnyH_ready (rs := [15]) (by kernel_rfl) (by simp) ?_
                refine AllReadyH.cons (o := ⟨none, _, _, _, _, _⟩) rfl (fun Kr hKr => ?_) AllReadyH.nil
                -- operation 15: a step
                have haw6 : Away A6 B6 g6 := HAW.out g6 (by have h2 := HZK.out; have h3 := HZU.out; have h4 := HZW.out; have h5 := HZ0.out; omega)
                refine wp_store_bk 30 (.tmp 16) (.tmp 67) rfl g6 (vtC A6 n6 a6 B6 m6 b6) rfl rfl 30 _ HK6.out (by kernel_rfl) rfl vt_one ?_
                intro wS hkS hgS
                have HKS := Lib.hid (show Bk wS g6 (vtC A6 n6 a6 B6 m6 b6) 30 from hkS)
                have HTS := Lib.hid ((HTW.out.off HK6.out vtc_by haw6 ((Turn.refl (fun q => q = g6) _).grown hgS (fun q e => .inl (by injection e with e; exact e.symm)))).mono HSW.out)
                have HSZ := Lib.hid (show wr.heap.size ≤ g6 by have h2 := HZK.out; have h3 := HZU.out; have h4 := HZW.out; have h5 := HZ0.out; omega)
                clear haw6 hkS
                show Kr _ _
                refine hKr.out _ _ ?_ (fun _ => ?_)
                · exact Below.grown hS hgS hS.size (fun q e => by injection e with e; have := HSZ.out; omega)
                clear hKr Kr
                replace hS : Since wr wS := Below.grown hS hgS hS.size (fun q e => by injection e with e; have := HSZ.out; omega)
                try simp only [Act.put, List.setIfInBounds_toArray, List.set_cons_zero, List.set_cons_succ]
                refine wpAnyH_take (i := 16) (oi := ⟨some 17, _, _, _, _, _⟩) (v := ?_) rfl (by kernel_rfl) (by kernel_rfl) (by kernel_rfl) (fun _ _ _ h => h) (Or.inl ⟨by rfl, ?_⟩) hS ?_
                rotate_left
                · intro W hW; go_simp; with_reducible rfl
                try simp only [Act.put, List.setIfInBounds_toArray, List.set_cons_zero, List.set_cons_succ]
                refine wpAnyH_done (by kernel_rfl) ?_ _
                have HSS := Lib.hid hS
                clear hS
                go_wp2_with fail
                go_meet
                case rel => exact ⟨g6, A6, n6, a6, B6, m6, b6, rfl, rfl, HKS, HTS, Lib.hid (fun q hq => HAW.out q (.inl (by have := HSW.out; omega))), HSS⟩
            · skip
              -- operation 14: a step
              refine wp_alloc_bk 30 rfl #[.slice none 0 0, .slice none 0 0] (by kernel_rfl) ?_
              intro wK g6 hk6 hbK hgK
              have HZK := Lib.hid (And.intro hgK (And.intro (Bk.lt hk6) hbK.size))
              have HK6 := Lib.hid (show Bk wK g6 (vtC none 0 0 none 0 0) 30 from hk6)
              try replace HDU := Lib.hid (HDU.out.below hbK)
              try replace HTW := Lib.hid (HTW.out.below hbK)
              clear hgK hk6
              show Kr _ _
              refine hKr.out _ _ ?_ (fun _ => ?_)
              · exact since_trans hS hbK
              clear hKr Kr
              replace hS : Since wr wK := since_trans hS hbK
              try simp only [Act.put, List.setIfInBounds_toArray, List.set_cons_zero, List.set_cons_succ]
              refine wpAnyH_ready (rs := [9]) (by kernel_rfl) (by simp) ?_
              refine AllReadyH.cons (o := ⟨some 65, _, _, _, _, _⟩) rfl (fun Kr hKr => ?_) AllReadyH.nil
              -- operation 9: a step
              refine wp_build_u8 (n := z) _ rfl rfl ?_
              intro wu gu hgu hdu hvu
              have HDU := Lib.hid hdu
              have HZU := Lib.hid (show _ ≤ _ from hvu.size)
              try replace HK6 := Lib.hid (Bk.below HK6.out hvu)
              clear hgu hdu
              show Kr _ _
              refine hKr.out _ _ ?_ (fun _ => ?_)
              · exact since_trans hS hvu
              clear hKr Kr
              replace hS : Since wr wu := since_trans hS hvu
              try simp only [Act.put, List.setIfInBounds_toArray, List.set_cons_zero, List.set_cons_succ]
              refine wpAnyH_ready (rs := [10]) (by kernel_rfl) (by simp) ?_
              refine AllReadyH.cons (o := ⟨some 66, _, _, _, _, _⟩) rfl (fun Kr hKr => ?_) AllReadyH.nil
              -- operation 10: a call
              go_simp
              have HSW := Lib.hid (Below.size hS)
              refine (write_new A1 B1 n1 a1 m1 b1 t A i k (i : Int) (topT i) (y : Int) 1 ⟨some ⟨gu, 0, none⟩, 1, 1⟩ [z] _ (HTr.out.below hS) HLF.out.s HTL.out (HXj.out.below hS) (top_good i (by omega)) (top_c i) (by omega) (top_len' i) HKK.out (by unfold okI; omega) (by unfold okI; omega) HDU.out (by simp)).mono ?_
              rintro e ww ⟨hvw, ⟨has, A6, n6, a6, B6, m6, b6, haw, rfl, htw⟩ | ⟨hno, _⟩⟩
              rotate_left
              · exact absurd HAS.out hno
              have HTW := Lib.hid htw
              have HAW := Lib.hid haw
              have HZW := Lib.hid (show _ ≤ _ from hvw.size)
              try replace HK6 := Lib.hid (Bk.below HK6.out hvw)
              clear htw haw has
              show Kr _ _
              refine hKr.out _ _ ?_ (fun _ => ?_)
              · exact since_trans hS hvw
              clear hKr Kr
              replace hS : Since wr ww := since_trans hS hvw
              try simp only [Act.put, List.setIfInBounds_toArray, List.set_cons_zero, List.set_cons_succ]
              refine wpAnyH_take (i := 11) (oi := ⟨some 55, _, _, _, _, _⟩) (v := ?_) rfl (by kernel_rfl) (by kernel_rfl) (by kernel_rfl) (fun _ _ _ h => h) (Or.inl ⟨by rfl, ?_⟩) hS ?_
              rotate_left
              · intro W hW; go_simp; with_reducible rfl
              try simp only [Act.put, List.setIfInBounds_toArray, List.set_cons_zero, List.set_cons_succ]
              refine wpAnyH_take (i := 12) (oi := ⟨some 67, _, _, _, _, _⟩) (v := ?_) rfl (by kernel_rfl) (by kernel_rfl) (by kernel_rfl) (fun _ _ _ h => h) (Or.inl ⟨by rfl, ?_⟩) hS ?_
              rotate_left
              · intro W hW; go_simp; with_reducible rfl
              try simp only [Act.put, List.setIfInBounds_toArray, List.set_cons_zero, List.set_cons_succ]
              refine wpAnyH_take (i := 13) (oi := ⟨some 68, _, _, _, _, _⟩) (v := ?_) rfl (by kernel_rfl) (by kernel_rfl) (by kernel_rfl) (fun _ _ _ h => h) (Or.inl ⟨by rfl, ?_⟩) hS ?_
              rotate_left
              · intro W hW; go_simp; with_reducible rfl
              try simp only [Act.put, List.setIfInBounds_toArray, List.set_cons_zero, List.set_cons_succ]
              refine wpAnyH_ready (rs := [15]) (by kernel_rfl) (by simp) ?_
              refine AllReadyH.cons (o := ⟨none, _, _, _, _, _⟩) rfl (fun Kr hKr => ?_) AllReadyH.nil
              -- operation 15: a step
              have haw6 : Away A6 B6 g6 := HAW.out g6 (by have h2 := HZK.out; have h3 := HZU.out; have h4 := HZW.out; have h5 := HZ0.out; omega)
              refine wp_store_bk 30 (.tmp 16) (.tmp 67) rfl g6 (vtC A6 n6 a6 B6 m6 b6) rfl rfl 30 _ HK6.out (by kernel_rfl) rfl vt_one ?_
              intro wS hkS hgS
              have HKS := Lib.hid (show Bk wS g6 (vtC A6 n6 a6 B6 m6 b6) 30 from hkS)
              have HTS := Lib.hid ((HTW.out.off HK6.out vtc_by haw6 ((Turn.refl (fun q => q = g6) _).grown hgS (fun q e => .inl (by injection e with e; exact e.symm)))).mono HSW.out)
              have HSZ := Lib.hid (show wr.heap.size ≤ g6 by have h2 := HZK.out; have h3 := HZU.out; have h4 := HZW.out; have h5 := HZ0.out; omega)
              clear haw6 hkS
              show Kr _ _
              refine hKr.out _ _ ?_ (fun _ => ?_)
              · exact Below.grown hS hgS hS.size (fun q e => by injection e with e; have := HSZ.out; omega)
              clear hKr Kr
              replace hS : Since wr wS := Below.grown hS hgS hS.size (fun q e => by injection e with e; have := HSZ.out; omega)
              try simp only [Act.put, List.setIfInBounds_toArray, List.set_cons_zero, List.set_cons_succ]
              refine wpAnyH_take (i := 16) (oi := ⟨some 17, _, _, _, _, _⟩) (v := ?_) rfl (by kernel_rfl) (by kernel_rfl) (by kernel_rfl) (fun _ _ _ h => h) (Or.inl ⟨by rfl, ?_⟩) hS ?_
              rotate_left
              · intro W hW; go_simp; with_reducible rfl
              try simp only [Act.put, List.setIfInBounds_toArray, List.set_cons_zero, List.set_cons_succ]
              refine wpAnyH_done (by kernel_rfl) ?_ _
              have HSS := Lib.hid hS
              clear hS
              go_wp2_with fail
              go_meet
              case rel => exact ⟨g6, A6, n6, a6, B6, m6, b6, rfl, rfl, HKS, HTS, Lib.hid (fun q hq => HAW.out q (.inl (by have := HSW.out; omega))), HSS⟩
          case rest =>
            obtain ⟨g6, A6, n6, a6, B6, m6, b6, rfl, rfl, HK6, HT6, HY6, HS6⟩ := hcut
            obtain ⟨w6, hw6⟩ : ∃ w6, w6 = wc := ⟨_, rfl⟩
            subst hw6
            have HG6 := Lib.hid (HGj.out.below HS6.out)
            have HO6 := Lib.hid (HOj.out.below HS6.out)
            have HU6 := Lib.hid (HUj.out.trans (Turn.ofBelow HS6.out))
            have HV6 := Lib.hid (HVj.out.trans (Below.mono HS6.out HVj.out.size))
            have HSZ := Lib.hid (show gW < wr.heap.size by have h1 := HUj.out.size; have h2 := HNe.out; omega)
            have c6 : w6.cell? ⟨be, oe + j, none⟩ = some (byV z) := e0 w6 HS6.out
            clear t0 t1 k0 k1 e0 HGj HOj HTj HBj HXj HTr
            have t0 := HK6.out.v0
            have t1 := HK6.out.v1
            have z0 := HG6.out.v0
            have z1 := HG6.out.v1
            have f0 := HG6.out.fr 0
            have f1 := HG6.out.fr 1
            go_upto_region 23 with fail
            have hT7 := Turn.two (W := w6) gt (.slice A6 n6 a6) (.slice B6 m6 b6)
            have HT7 := Lib.hid (HT6.out.off HG6.out vtc_by (HY6.out gt (by have h1 := HNe.out; have h2 := HSZ.out; omega)) hT7)
            have HG7 := Lib.hid (HG6.out.two (.slice A6 n6 a6) (.slice B6 m6 b6))
            have HO7 := Lib.hid (HO6.out.turn hT7 (fun q e h => by injection e with e; have e : gW = q := e; have := HNe.out; omega))
            have HU7 := Lib.hid (HU6.out.trans (hT7.mono (fun q h => .inl h)))
            have hc7 := hT7.cell (a := ⟨be, oe + j, none⟩) c6 (by have h1 := HBL.out; have h2 := HNe.out; show ¬ be = gt; omega)
            generalize (w6.setCell ⟨gt, 0, none⟩ (.slice A6 n6 a6)).setCell ⟨gt, 1, none⟩ (.slice B6 m6 b6) = w7 at *
            have e0 : ∀ V, Turn (fun q => q = gW) w7 V → V.cell? ⟨be, oe + j, none⟩ = some (byV z) := fun V hV => hV.cell (a := ⟨be, oe + j, none⟩) hc7 (by have h1 := HBL.out; have h2 := HNe.out; show ¬ be = gW; omega)
            clear hT7 hc7 c6 t0 t1 z0 z1 f0 f1 HG6 HO6 HU6 HT6
            have hm1 : y * RY.m = y := Nat.mul_one y
            have hyi : y < i := HYI.out
            have HOd := Lib.hid (HO7.out.below (w' := World.drew w7) ((Below.refl _ _).drew))
            refine wp_region_turn (X := (fun q => q = gW)) (by kernel_rfl) ?_
            have hS : Turn (fun q => q = gW) w7 (World.drew w7) := (Turn.refl _ _).drew
            refine wpAnyH_take (i := 0) (oi := ⟨some 72, _, _, _, _, _⟩) (v := ?_) rfl (by kernel_rfl) (by kernel_rfl) (by kernel_rfl) (fun _ _ _ h => h) (Or.inl ⟨by rfl, ?_⟩) hS ?_
            rotate_left
            · intro W hW; go_simp; with_reducible rfl
            try simp only [Act.put, List.setIfInBounds_toArray, List.set_cons_zero, List.set_cons_succ]
            refine wpAnyH_take (i := 1) (oi := ⟨some 73, _, _, _, _, _⟩) (v := ?_) rfl (by kernel_rfl) (by kernel_rfl) (by kernel_rfl) (fun _ _ _ h => h) (Or.inl ⟨by rfl, ?_⟩) hS ?_
            rotate_left
            · intro W hW; go_simp; with_reducible rfl
            try simp only [Act.put, List.setIfInBounds_toArray, List.set_cons_zero, List.set_cons_succ]
            refine wpAnyH_take (i := 2) (oi := ⟨some 74, _, _, _, _, _⟩) (v := ?_) rfl (by kernel_rfl) (by kernel_rfl) (by kernel_rfl) (fun _ _ _ h => h) (Or.inl ⟨by rfl, ?_⟩) hS ?_
            rotate_left
            · intro W hW; go_simp; with_reducible rfl
            try simp only [Act.put, List.setIfInBounds_toArray, List.set_cons_zero, List.set_cons_succ]
            refine wpAnyH_take (i := 3) (oi := ⟨some 75, _, _, _, _, _⟩) (v := ?_) rfl (by kernel_rfl) (by kernel_rfl) (by kernel_rfl) (fun _ _ _ h => h) (Or.inl ⟨by rfl, ?_⟩) hS ?_
            rotate_left
            · intro W hW; go_simp; with_reducible rfl
            try simp only [Act.put, List.setIfInBounds_toArray, List.set_cons_zero, List.set_cons_succ]
            refine wpAnyH_take (i := 4) (oi := ⟨some 76, _, _, _, _, _⟩) (v := ?_) rfl (by kernel_rfl) (by kernel_rfl) (by kernel_rfl) (fun _ _ _ h => h) (Or.inl ⟨by rfl, ?_⟩) hS ?_
            rotate_left
            · intro W hW; go_simp; with_reducible rfl
            try simp only [Act.put, List.setIfInBounds_toArray, List.set_cons_zero, List.set_cons_succ]
            refine wpAnyH_take (i := 5) (oi := ⟨some 77, _, _, _, _, _⟩) (v := ?_) rfl (by kernel_rfl) (by kernel_rfl) (by kernel_rfl) (fun _ _ _ h => h) (Or.inl ⟨by rfl, ?_⟩) hS ?_
            rotate_left
            · intro W hW; go_simp; with_reducible rfl
            try simp only [Act.put, List.setIfInBounds_toArray, List.set_cons_zero, List.set_cons_succ]
            refine wpAnyH_take (i := 6) (oi := ⟨some 78, _, _, _, _, _⟩) (v := ?_) rfl (by kernel_rfl) (by kernel_rfl) (by kernel_rfl) (fun _ _ _ h => h) (Or.inl ⟨by rfl, ?_⟩) hS ?_
            rotate_left
            · intro W hW; go_simp; with_reducible rfl
            try simp only [Act.put, List.setIfInBounds_toArray, List.set_cons_zero, List.set_cons_succ]
            refine wpAnyH_take (i := 7) (oi := ⟨some 79, _, _, _, _, _⟩) (v := ?_) rfl (by kernel_rfl) (by kernel_rfl) (by kernel_rfl) (fun _ _ _ h => h) (Or.inl ⟨by rfl, ?_⟩) hS ?_
            rotate_left
            · intro W hW; go_simp; with_reducible rfl
            try simp only [Act.put, List.setIfInBounds_toArray, List.set_cons_zero, List.set_cons_succ]
            refine wpAnyH_take (i := 8) (oi := ⟨some 80, _, _, _, _, _⟩) (v := ?_) rfl (by kernel_rfl) (by kernel_rfl) (by kernel_rfl) (fun _ _ _ h => h) (Or.inl ⟨by rfl, ?_⟩) hS ?_
            rotate_left
            · intro W hW; go_simp; with_reducible rfl
            try simp only [Act.put, List.setIfInBounds_toArray, List.set_cons_zero, List.set_cons_succ]
            refine wpAnyH_ready (rs := [9]) (by kernel_rfl) (by simp) ?_
            refine AllReadyH.cons (o := ⟨none, _, _, _, _, _⟩) rfl (fun Kr hKr => ?_) AllReadyH.nil
            -- operation 9: a step
            refine Rk.wp_store_elem ry_ok (.tmp 80) (.tmp 79) rfl (i := y) z (byV z) rfl (by rw [hm1]; rfl) rfl HOd.out (wantB_len i c) hyi ?_
            intro w8 ho8 hg8
            have HO8 := Lib.hid ho8
            clear ho8
            show Kr _ _
            refine hKr.out _ _ ?_ (fun _ => ?_)
            · exact hS.grown hg8 (fun q e => .inl (by injection e with e; exact e.symm))
            clear hKr Kr
            replace hS : Turn (fun q => q = gW) w7 w8 := hS.grown hg8 (fun q e => .inl (by injection e with e; exact e.symm))
            try simp only [Act.put, List.setIfInBounds_toArray, List.set_cons_zero, List.set_cons_succ]
            refine wpAnyH_done (by kernel_rfl) ?_ _
            have HTS := Lib.hid hS
            clear hS
            go_wp2_with fail
            exact ⟨⟨j + 1, m2, _, _, A6, n6, a6, B6, m6, b6, rfl, by simp, hi2, HM2, HST, Lib.hid (HG7.out.turn HTS.out (by have := HNe.out; omega)), Lib.hid (fun V hV => (HT7.out.turn (HTS.out.trans hV) (fun q h => by have h1 := HSZ.out; omega) (fun q h => by rw [h]; exact HY6.out gW HSZ.out)).vt), Lib.hid ⟨HY6.out gt (by have h1 := HNe.out; have h2 := HSZ.out; omega), HY6.out gW HSZ.out⟩, Lib.hid (by rw [← wantB_set]; exact HO8.out), Lib.hid (HU7.out.trans (HTS.out.mono (fun q h => .inr h)))⟩, by simp [intOf]; omega⟩
        · obtain rfl : j = len := by omega
          have hd4 : decide ((j : Int) < (j : Int)) = false := decide_eq_false (by omega)
          have hd5 : decide (j < j) = false := decide_eq_false (by omega)
          obtain ⟨wx, hwx⟩ : ∃ wx, wx = wr := ⟨_, rfl⟩
          subst hwx
          have HTL := Lib.hid (show t.L.length ≤ 1000 by have := HLF.out.n; omega)
          obtain ⟨zz, hzz⟩ : ∃ zz, zz = zV := ⟨_, rfl⟩
          have HZZ := Lib.hid hzz
          clear hzz
          go_wp2_with fail
          go_loopw [18] (fun iv wv => ∃ y : Nat, iv = .int .i64 (y : Int) ∧ y ≤ i ∧ Hid (Below wx.heap.size wx wv)) (fun iv _ => i - (intOf iv).toNat)
          case atStart => exact ⟨0, rfl, Nat.zero_le _, Lib.hid (Below.refl _ _)⟩
          case round =>
            obtain ⟨y, rfl, hy, HBy⟩ := hrel
            rcases Nat.lt_or_ge y i with hlt | hge2
            · have hd6 : decide ((y : Int) < (i : Int)) = true := decide_eq_true (by omega)
              have hd7 : decide (y < i) = true := decide_eq_true hlt
              have hi1 : (y : Int) < (i : Int) := by omega
              obtain ⟨hr1, hr0⟩ := HLF.out.reads hlt
              have hwy := top_way i y hlt
              have HA1 := Lib.hid (last_ask HLF.out hlt (k := 1) (by omega))
              have HA0 := Lib.hid (last_ask HLF.out hlt (k := 0) (by omega))
              rw [← hwy] at hr1 hr0
              have HR1 := Lib.hid hr1
              have HR0 := Lib.hid hr0
              have HYI := Lib.hid hlt
              have HGy := Lib.hid (HGj.out.below HBy.out)
              have HBy2 := Lib.hid (HBj.out.below HBy.out)
              clear hr1 hr0 hwy hlt
              have t0 := HGy.out.v0
              have t1 := HGy.out.v1
              have k0 : wr.cell? ⟨g, 0, none⟩ = some (.slice A i k) := HBy2.out.c 0 _ rfl
              have k1 : wr.cell? ⟨g, 1, none⟩ = some (.int .i64 (i : Int)) := HBy2.out.c 1 _ rfl
              have HRD1 := Lib.hid (read_any A1 B1 n1 a1 m1 b1 t A i k (i : Int) (topT i) (y : Int) 1 wr (HTr.out.below HBy.out) HLF.out.s HTL.out (HXj.out.below HBy.out) (top_good i (by omega)) (top_c i) (by omega) (top_len' i) (by unfold okI; omega) (by unfold okI; omega))
              go_wp2_with fail
              refine HRD1.out.mono ?_
              rintro e w2 ⟨hv2, ⟨_, Ab, cb, rfl, hdb⟩ | ⟨hno, _⟩⟩
              rotate_left
              · exact absurd HA1.out hno
              rw [HR1.out] at hdb
              have HDB := Lib.hid hdb
              have HB2 := Lib.hid (HBy.out.trans (hv2.mono HBy.out.size))
              clear hdb hv2 HRD1 t0 t1 k0 k1 HGy HBy2
              have HGy := Lib.hid (HGj.out.below HB2.out)
              have HBy2 := Lib.hid (HBj.out.below HB2.out)
              have t0 := HGy.out.v0
              have t1 := HGy.out.v1
              have k0 : w2.cell? ⟨g, 0, none⟩ = some (.slice A i k) := HBy2.out.c 0 _ rfl
              have k1 : w2.cell? ⟨g, 1, none⟩ = some (.int .i64 (i : Int)) := HBy2.out.c 1 _ rfl
              have HRD0 := Lib.hid (read_any A1 B1 n1 a1 m1 b1 t A i k (i : Int) (topT i) (y : Int) 0 w2 (HTr.out.below HB2.out) HLF.out.s HTL.out (HXj.out.below HB2.out) (top_good i (by omega)) (top_c i) (by omega) (top_len' i) (by unfold okI; omega) (by unfold okI; omega))
              go_wp2_with fail
              refine HRD0.out.mono ?_
              rintro e w3 ⟨hv3, ⟨_, Ac, cc, rfl, hdc⟩ | ⟨hno, _⟩⟩
              rotate_left
              · exact absurd HA0.out hno
              rw [HR0.out, ← HZZ.out] at hdc
              have HB3 := Lib.hid (HB2.out.trans (hv3.mono HB2.out.size))
              obtain ⟨bb, ob, hAb, hbb, hcb⟩ := dat_first (show DatAt w3 ⟨Ab, 32, cb⟩ (c y :: List.replicate 31 0) from HDB.out.below hv3)
              subst hAb
              have hwant : w3.cell? ⟨gW, y, none⟩ = some (byV (c y)) := by
                have h1 := (HOj.out.below HB3.out).cell0 ry_ok (wantB_get (c := c) HYI.out) 0 _ rfl
                simpa [RY] using h1
              generalize c y = q at *
              have b0 : ∀ V, Since w3 V → V.cell? ⟨bb, ob, none⟩ = some (byV q) := fun V hV => (Below.cell hV (p := ⟨bb, ob, none⟩) hbb).trans hcb
              have q0 : ∀ V, Since w3 V → V.cell? ⟨gW, y, none⟩ = some (byV q) := fun V hV => (Below.cell hV (p := ⟨gW, y, none⟩) (by have h1 := HNe.out; have h2 := HUj.out.size; have h3 := HB3.out.size; show gW < w3.heap.size; omega)).trans hwant
              have s0 : ∀ V, Since w3 V → (convert 36 9 (.slice Ac 32 cc)).run Try.prog V = .ok (.string ⟨zz.toArray⟩) V := fun V hV => (hdc.below hV).conv
              have hyi : y < i := HYI.out
              clear hdc hv3 hcb hbb hwant HRD0 t0 t1 k0 k1 HGy HBy2 HDB
              go_upto_region 30 with fail
              refine wp_region_since (by kernel_rfl) ?_
              have hS : Since w3 (World.drew w3) := (Below.refl _ _).drew
              refine wpAnyH_take (i := 0) (oi := ⟨some 104, _, _, _, _, _⟩) (v := ?_) rfl (by kernel_rfl) (by kernel_rfl) (by kernel_rfl) (fun _ _ _ h => h) (Or.inl ⟨by rfl, ?_⟩) hS ?_
              rotate_left
              · intro W hW; go_simp; with_reducible rfl
              try simp only [Act.put, List.setIfInBounds_toArray, List.set_cons_zero, List.set_cons_succ]
              refine wpAnyH_take (i := 1) (oi := ⟨some 105, _, _, _, _, _⟩) (v := ?_) rfl (by kernel_rfl) (by kernel_rfl) (by kernel_rfl) (fun _ _ _ h => h) (Or.inl ⟨by rfl, ?_⟩) hS ?_
              rotate_left
              · intro W hW; go_simp; with_reducible rfl
              try simp only [Act.put, List.setIfInBounds_toArray, List.set_cons_zero, List.set_cons_succ]
              refine wpAnyH_take (i := 2) (oi := ⟨some 106, _, _, _, _, _⟩) (v := ?_) rfl (by kernel_rfl) (by kernel_rfl) (by kernel_rfl) (fun _ _ _ h => h) (Or.inl ⟨by rfl, ?_⟩) hS ?_
              rotate_left
              · intro W hW; go_simp; with_reducible rfl
              try simp only [Act.put, List.setIfInBounds_toArray, List.set_cons_zero, List.set_cons_succ]
              refine wpAnyH_take (i := 3) (oi := ⟨some 107, _, _, _, _, _⟩) (v := ?_) rfl (by kernel_rfl) (by kernel_rfl) (by kernel_rfl) (fun _ _ _ h => h) (Or.inl ⟨by rfl, ?_⟩) hS ?_
              rotate_left
              · intro W hW; go_simp; with_reducible rfl
              try simp only [Act.put, List.setIfInBounds_toArray, List.set_cons_zero, List.set_cons_succ]
              refine wpAnyH_take (i := 4) (oi := ⟨some 108, _, _, _, _, _⟩) (v := ?_) rfl (by kernel_rfl) (by kernel_rfl) (by kernel_rfl) (fun _ _ _ h => h) (Or.inl ⟨by rfl, ?_⟩) hS ?_
              rotate_left
              · intro W hW; go_simp; with_reducible rfl
              try simp only [Act.put, List.setIfInBounds_toArray, List.set_cons_zero, List.set_cons_succ]
              refine wpAnyH_take (i := 5) (oi := ⟨some 109, _, _, _, _, _⟩) (v := ?_) rfl (by kernel_rfl) (by kernel_rfl) (by kernel_rfl) (fun _ _ _ h => h) (Or.inl ⟨by rfl, ?_⟩) hS ?_
              rotate_left
              · intro W hW; go_simp; with_reducible rfl
              try simp only [Act.put, List.setIfInBounds_toArray, List.set_cons_zero, List.set_cons_succ]
              refine wpAnyH_take (i := 6) (oi := ⟨some 110, _, _, _, _, _⟩) (v := ?_) rfl (by kernel_rfl) (by kernel_rfl) (by kernel_rfl) (fun _ _ _ h => h) (Or.inl ⟨by rfl, ?_⟩) hS ?_
              rotate_left
              · intro W hW; go_simp; with_reducible rfl
              try simp only [Act.put, List.setIfInBounds_toArray, List.set_cons_zero, List.set_cons_succ]
              refine wpAnyH_take (i := 7) (oi := ⟨some 111, _, _, _, _, _⟩) (v := ?_) rfl (by kernel_rfl) (by kernel_rfl) (by kernel_rfl) (fun _ _ _ h => h) (Or.inl ⟨by rfl, ?_⟩) hS ?_
              rotate_left
              · intro W hW; go_simp; with_reducible rfl
              try simp only [Act.put, List.setIfInBounds_toArray, List.set_cons_zero, List.set_cons_succ]
              refine wpAnyH_take (i := 8) (oi := ⟨some 112, _, _, _, _, _⟩) (v := ?_) rfl (by kernel_rfl) (by kernel_rfl) (by kernel_rfl) (fun _ _ _ h => h) (Or.inl ⟨by rfl, ?_⟩) hS ?_
              rotate_left
              · intro W hW; go_simp; with_reducible rfl
              try simp only [Act.put, List.setIfInBounds_toArray, List.set_cons_zero, List.set_cons_succ]
              refine wpAnyH_take (i := 9) (oi := ⟨some 113, _, _, _, _, _⟩) (v := ?_) rfl (by kernel_rfl) (by kernel_rfl) (by kernel_rfl) (fun _ _ _ h => h) (Or.inl ⟨by rfl, ?_⟩) hS ?_
              rotate_left
              · intro W hW; go_simp; with_reducible rfl
              try simp only [Act.put, List.setIfInBounds_toArray, List.set_cons_zero, List.set_cons_succ]
              refine wpAnyH_take (i := 10) (oi := ⟨some 114, _, _, _, _, _⟩) (v := ?_) rfl (by kernel_rfl) (by kernel_rfl) (by kernel_rfl) (fun _ _ _ h => h) (Or.inl ⟨by rfl, ?_⟩) hS ?_
              rotate_left
              · intro W hW; go_simp; with_reducible rfl
              try simp only [Act.put, List.setIfInBounds_toArray, List.set_cons_zero, List.set_cons_succ]
              refine wpAnyH_take (i := 11) (oi := ⟨some 115, _, _, _, _, _⟩) (v := ?_) rfl (by kernel_rfl) (by kernel_rfl) (by kernel_rfl) (fun _ _ _ h => h) (Or.inl ⟨by rfl, ?_⟩) hS ?_
              rotate_left
              · intro W hW; go_simp; with_reducible rfl
              try simp only [Act.put, List.setIfInBounds_toArray, List.set_cons_zero, List.set_cons_succ]
              refine wpAnyH_take (i := 12) (oi := ⟨some 116, _, _, _, _, _⟩) (v := ?_) rfl (by kernel_rfl) (by kernel_rfl) (by kernel_rfl) (fun _ _ _ h => h) (Or.inl ⟨by rfl, ?_⟩) hS ?_
              rotate_left
              · intro W hW; go_simp; with_reducible rfl
              try simp only [Act.put, List.setIfInBounds_toArray, List.set_cons_zero, List.set_cons_succ]
              refine wpAnyH_take (i := 13) (oi := ⟨some 117, _, _, _, _, _⟩) (v := ?_) rfl (by kernel_rfl) (by kernel_rfl) (by kernel_rfl) (fun _ _ _ h => h) (Or.inl ⟨by rfl, ?_⟩) hS ?_
              rotate_left
              · intro W hW; go_simp; with_reducible rfl
              try simp only [Act.put, List.setIfInBounds_toArray, List.set_cons_zero, List.set_cons_succ]
              refine wpAnyH_take (i := 14) (oi := ⟨some 118, _, _, _, _, _⟩) (v := ?_) rfl (by kernel_rfl) (by kernel_rfl) (by kernel_rfl) (fun _ _ _ h => h) (Or.inl ⟨by rfl, ?_⟩) hS ?_
              rotate_left
              · intro W hW; go_simp; with_reducible rfl
              try simp only [Act.put, List.setIfInBounds_toArray, List.set_cons_zero, List.set_cons_succ]
              refine wpAnyH_take (i := 15) (oi := ⟨some 119, _, _, _, _, _⟩) (v := ?_) rfl (by kernel_rfl) (by kernel_rfl) (by kernel_rfl) (fun _ _ _ h => h) (Or.inl ⟨by rfl, ?_⟩) hS ?_
              rotate_left
              · intro W hW; go_simp; with_reducible rfl
              try simp only [Act.put, List.setIfInBounds_toArray, List.set_cons_zero, List.set_cons_succ]
              refine wpAnyH_take (i := 16) (oi := ⟨some 120, _, _, _, _, _⟩) (v := ?_) rfl (by kernel_rfl) (by kernel_rfl) (by kernel_rfl) (fun _ _ _ h => h) (Or.inl ⟨by rfl, ?_⟩) hS ?_
              rotate_left
              · intro W hW; go_simp; with_reducible rfl
              try simp only [Act.put, List.setIfInBounds_toArray, List.set_cons_zero, List.set_cons_succ]
              refine wpAnyH_take (i := 17) (oi := ⟨some 121, _, _, _, _, _⟩) (v := ?_) rfl (by kernel_rfl) (by kernel_rfl) (by kernel_rfl) (fun _ _ _ h => h) (Or.inl ⟨by rfl, ?_⟩) hS ?_
              rotate_left
              · intro W hW; go_simp; with_reducible rfl
              try simp only [Act.put, List.setIfInBounds_toArray, List.set_cons_zero, List.set_cons_succ]
              refine wpAnyH_take (i := 18) (oi := ⟨some 122, _, _, _, _, _⟩) (v := ?_) rfl (by kernel_rfl) (by kernel_rfl) (by kernel_rfl) (fun _ _ _ h => h) (Or.inl ⟨by rfl, ?_⟩) hS ?_
              rotate_left
              · intro W hW; go_simp; with_reducible rfl
              try simp only [Act.put, List.setIfInBounds_toArray, List.set_cons_zero, List.set_cons_succ]
              refine wpAnyH_take (i := 19) (oi := ⟨some 123, _, _, _, _, _⟩) (v := ?_) rfl (by kernel_rfl) (by kernel_rfl) (by kernel_rfl) (fun _ _ _ h => h) (Or.inl ⟨by rfl, ?_⟩) hS ?_
              rotate_left
              · intro W hW; go_simp; with_reducible rfl
              try simp only [Act.put, List.setIfInBounds_toArray, List.set_cons_zero, List.set_cons_succ]
              refine wpAnyH_take (i := 20) (oi := ⟨some 124, _, _, _, _, _⟩) (v := ?_) rfl (by kernel_rfl) (by kernel_rfl) (by kernel_rfl) (fun _ _ _ h => h) (Or.inl ⟨by rfl, ?_⟩) hS ?_
              rotate_left
              · intro W hW; go_simp; with_reducible rfl
              try simp only [Act.put, List.setIfInBounds_toArray, List.set_cons_zero, List.set_cons_succ]
              refine wpAnyH_take (i := 21) (oi := ⟨some 125, _, _, _, _, _⟩) (v := ?_) rfl (by kernel_rfl) (by kernel_rfl) (by kernel_rfl) (fun _ _ _ h => h) (Or.inl ⟨by rfl, ?_⟩) hS ?_
              rotate_left
              · intro W hW; go_simp; with_reducible rfl
              try simp only [Act.put, List.setIfInBounds_toArray, List.set_cons_zero, List.set_cons_succ]
              refine wpAnyH_take (i := 22) (oi := ⟨some 126, _, _, _, _, _⟩) (v := ?_) rfl (by kernel_rfl) (by kernel_rfl) (by kernel_rfl) (fun _ _ _ h => h) (Or.inl ⟨by rfl, ?_⟩) hS ?_
              rotate_left
              · intro W hW; go_simp; with_reducible rfl
              try simp only [Act.put, List.setIfInBounds_toArray, List.set_cons_zero, List.set_cons_succ]
              refine wpAnyH_take (i := 23) (oi := ⟨some 127, _, _, _, _, _⟩) (v := ?_) rfl (by kernel_rfl) (by kernel_rfl) (by kernel_rfl) (fun _ _ _ h => h) (Or.inl ⟨by rfl, ?_⟩) hS ?_
              rotate_left
              · intro W hW; go_simp; with_reducible rfl
              try simp only [Act.put, List.setIfInBounds_toArray, List.set_cons_zero, List.set_cons_succ]
              refine wpAnyH_ready (rs := [24]) (by kernel_rfl) (by simp) ?_
              refine AllReadyH.cons (o := ⟨some 128, _, _, _, _, _⟩) rfl (fun Kr hKr => ?_) AllReadyH.nil
              -- operation 24: a step
              obtain ⟨wm, hmk, hom, hbm⟩ := run_zeros (World.drew w3) 32 (by omega)
              have hmk2 : (Instr.makeSlice 36 (.int .i64 32) (.int .i64 32)).run Try.prog (World.drew w3) = .ok (.slice (some ⟨w3.heap.size, 0, none⟩) 32 32) wm := hmk
              have HDM := Lib.hid (show DatAt wm ⟨some ⟨w3.heap.size, 0, none⟩, 32, 32⟩ zz by rw [HZZ.out]; exact own_dat hom rfl)
              try rw [if_pos (by kernel_rfl)]
              refine wp_make 36 _ _ rfl rfl rfl hmk2 ?_
              show Kr _ _
              refine hKr.out _ _ ?_ (fun _ => ?_)
              · exact since_trans hS hbm
              clear hKr Kr
              replace hS : Since w3 wm := since_trans hS hbm
              try simp only [Act.put, List.setIfInBounds_toArray, List.set_cons_zero, List.set_cons_succ]
              refine wpAnyH_ready (rs := [25]) (by kernel_rfl) (by simp) ?_
              refine AllReadyH.cons (o := ⟨some 129, _, _, _, _, _⟩) rfl (fun Kr hKr => ?_) AllReadyH.nil
              -- operation 25: a step
              try rw [if_pos (by kernel_rfl)]
              have kz := HDM.out.conv
              go_simp
              show Kr _ _
              refine hKr.out _ _ ?_ (fun _ => ?_)
              · exact hS
              clear hKr Kr
              try simp only [Act.put, List.setIfInBounds_toArray, List.set_cons_zero, List.set_cons_succ]
              refine wpAnyH_take (i := 26) (oi := ⟨some 130, _, _, _, _, _⟩) (v := ?_) rfl (by kernel_rfl) (by kernel_rfl) (by kernel_rfl) (fun _ _ _ h => h) (Or.inl ⟨by rfl, ?_⟩) hS ?_
              rotate_left
              · intro W hW; go_simp; with_reducible rfl
              try simp only [Act.put, List.setIfInBounds_toArray, List.set_cons_zero, List.set_cons_succ]
              refine wpAnyH_take (i := 27) (oi := ⟨some 131, _, _, _, _, _⟩) (v := ?_) rfl (by kernel_rfl) (by kernel_rfl) (by kernel_rfl) (fun _ _ _ h => h) (Or.inl ⟨by rfl, ?_⟩) hS ?_
              rotate_left
              · intro W hW; go_simp; with_reducible rfl
              try simp only [Act.put, List.setIfInBounds_toArray, List.set_cons_zero, List.set_cons_succ]
              refine wpAnyH_done (by kernel_rfl) ?_ _
              have HS9 := Lib.hid hS
              clear hS b0 q0 s0
              go_wp2_with fail
              exact ⟨⟨y + 1, by simp, hyi, Lib.hid (HB3.out.trans (Below.mono HS9.out HB3.out.size))⟩, by simp [intOf]; omega⟩
            · obtain rfl : y = i := by omega
              have hd6 : decide ((y : Int) < (y : Int)) = false := decide_eq_false (by omega)
              have hd7 : decide (y < y) = false := decide_eq_false (by omega)
              have hme : m1 = mt := by have h1 := HTr.out.vk; have h2 := HLF.out.n; have h3 := HMT.out; omega
              subst hme
              have t1 := (HGj.out.below HBy.out).v1
              have HVE := Lib.hid (HVj.out.trans (HBy.out.mono HVj.out.size))
              go_wp2_with fail
              go_ret
              exact ⟨rfl, HVE.out⟩
end Go.Proofs.Ytmhnjmfcenbogaa
