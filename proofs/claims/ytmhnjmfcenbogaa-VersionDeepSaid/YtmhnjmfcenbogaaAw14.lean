/-
  The document's example: what a kid writes its parent reads behind Pass alone.
-/
import Derived.Test.YtmhnjmfcenbogaaMk
import Derived.Test.YtmhnjmfcenbogaaDeepWalk
namespace Go.Proofs.Ytmhnjmfcenbogaa
set_option maxRecDepth 100000
set_option linter.unusedVariables false
set_option linter.unusedSimpArgs false
open Go.RowKit Go.Shelf

def exT : Vt := ⟨[zV, zV], []⟩
def exU : Vt := ⟨[zV, zV], [⟨1, 1, padV [107]⟩]⟩
theorem exT_san : SanV exT := ⟨by simp [exT], by simp [exT, zV], by simp [exT], List.Pairwise.nil⟩
theorem exU_san : SanV exU := exT_san.put (v := ⟨1, 1, padV [107]⟩) (by simp [exT]) (by simp) rfl
theorem ex_tx1 : ((deepT 2).tx 1).s = 1 := by rw [show (deepT 2).tx 1 = _ from deep_new 1]
theorem ex_tx0 : ((deepT 2).tx 0).s = 1 := by decide
theorem ex_way0 : (deepT 2).way (0 : Int) = [0] := by
  have h := Tr.way_nat (T := deepT 2) (i := 0) (by rw [deep_len]; omega)
  rw [deep_way 2 0 (by omega)] at h
  exact h
theorem ex_ask1 : askV exT (deepT 2) 1 1 = 0 := askV_ok (by decide) (by decide) ex_tx1
theorem ex_ask0 : askV exU (deepT 2) 0 1 = 0 := askV_ok (by decide) (by decide) ex_tx0
theorem ex_read0 : readD exU ((deepT 2).way (0 : Int)) 1 = zV := by rw [ex_way0]; rfl
theorem exU_pass : (exU.pass 1 0).B.length = 2 := (exU_san.pass 1 (par := 0) (by decide)).2
theorem ex_ask2 : askV (exU.pass 1 0) (deepT 2) 0 1 = 0 := askV_ok (by rw [exU_pass]; decide) (by decide) ex_tx0
theorem ex_read1 : readD (exU.pass 1 0) ((deepT 2).way (0 : Int)) 1 = padV [107] := by
  rw [ex_way0]
  exact pass_reads (x := 1) (par := 0) exU_san (d := padV [107]) (b := 1) rfl []

theorem dat_first {W : World} {A : Option Addr} {n c : Nat} {x : UInt8} {r : List UInt8} (h : DatAt W ⟨A, n, c⟩ (x :: r)) : ∃ b o, A = some ⟨b, o, none⟩ ∧ b < W.heap.size ∧ W.cell? ⟨b, o, none⟩ = some (byV x) := by
  obtain ⟨b, o, e, hb, hc⟩ := h.get (i := 0) (x := x) rfl
  exact ⟨b, o, e, hb, hc⟩

theorem bk_ne {W : World} {g h n a m b : Nat} {A B : Option Addr} {x : UInt8} {t u : TypeId} (k : Bk W g (vtC A n a B m b) t) (l : Bk W h #[byV x] u) : some g ≠ some h := by
  intro e
  injection e with e
  subst e
  have h1 := (k.c 0 _ rfl).symm.trans (l.c 0 _ rfl)
  injection h1 with h1
  cases h1
theorem ex_put : (⟨exT.B, putV ⟨1, 1, padV [107]⟩ exT.L⟩ : Vt) = exU := rfl
theorem ex_write (A1 : Option Addr) (a1 : Nat) (D : Option Addr) (k gu : Nat) (hk : 2 ≤ k) (w : World) (ht : VtAt RVo w A1 2 a1 none 0 0 exT) (hx : TxAt w D (deepT 2).l) (hd : DatAt w ⟨some ⟨gu, 0, none⟩, 1, 1⟩ [107]) :
    Calls Try.prog 10 #[vtV A1 2 a1 none 0 0, .agg (txC2 D 2 k 2), .int .i64 1, .int .i64 1, .slice (some ⟨gu, 0, none⟩) 1 1] w fun e w' => ∃ A n a B m b, e = .returned (.tuple #[vtV A n a B m b, .int .i64 0]) ∧ VtAt RVo w' A n a B m b exU ∧ (∀ g, (g < w.heap.size ∧ Away A1 none g) ∨ w'.heap.size ≤ g → Away A B g) ∧ Below w.heap.size w w' := by
  have hc : (deepT 2).c = 2 := deep_c 2
  have hn : (deepT 2).l.length = 2 := deep_len 2
  have hg := deep_good 2 (by omega)
  have ha := ex_ask1
  have hp := ex_put
  generalize deepT 2 = T at *
  have h := write_any A1 none 2 a1 0 0 exT D 2 k 2 T 1 1 ⟨some ⟨gu, 0, none⟩, 1, 1⟩ [107] w ht exT_san (by simp [exT]) hx hg hc (by omega) hn hk (by unfold okI; omega) (by unfold okI; omega) hd (by simp)
  refine h.mono ?_
  rintro e ww ⟨hvw, ⟨_, A6, n6, a6, B6, m6, b6, haw, he, htw⟩ | ⟨hno, _⟩⟩
  · rw [hp] at htw
    exact ⟨A6, n6, a6, B6, m6, b6, he, htw, haw, hvw⟩
  · exact absurd ha hno

theorem ex_readA (A B : Option Addr) (n a m b : Nat) (D : Option Addr) (k : Nat) (w : World) (ht : VtAt RVo w A n a B m b exU) (hx : TxAt w D (deepT 2).l) :
    Calls Try.prog 11 #[vtV A n a B m b, .agg (txC2 D 2 k 2), .int .i64 0, .int .i64 1] w fun e w' => ∃ A c, e = .returned (.tuple #[.slice A 32 c, .int .i64 0]) ∧ DatAt w' ⟨A, 32, c⟩ zV ∧ Below w.heap.size w w' := by
  have hc : (deepT 2).c = 2 := deep_c 2
  have hn : (deepT 2).l.length = 2 := deep_len 2
  have hg := deep_good 2 (by omega)
  have ha := ex_ask0
  have hr := ex_read0
  generalize deepT 2 = T at *
  refine (read_any A B n a m b exU D 2 k 2 T 0 1 w ht exU_san (by simp [exU]) hx hg hc (by omega) hn (by unfold okI; omega) (by unfold okI; omega)).mono ?_
  rintro e ww ⟨hv, ⟨_, A6, c6, he, hd⟩ | ⟨hno, _⟩⟩
  · rw [hr] at hd
    exact ⟨A6, c6, he, hd, hv⟩
  · exact absurd ha hno
theorem ex_pass (A B : Option Addr) (n a m b : Nat) (w : World) (ht : VtAt RVo w A n a B m b exU) :
    Calls Try.prog 16 #[vtV A n a B m b, .int .i64 1, .int .i64 0] w fun e w' => ∃ A n a B m b, e = .returned (vtV A n a B m b) ∧ VtAt RVo w' A n a B m b (exU.pass 1 0) ∧ Below w.heap.size w w' := by
  refine (pass_any A B n a m b exU 1 0 w ht exU_san (by simp [exU]) (by unfold okI; omega) (by unfold okI; omega) (by omega)).mono ?_
  rintro e ww ⟨hv, A6, n6, a6, B6, m6, b6, _, he, h6⟩
  exact ⟨A6, n6, a6, B6, m6, b6, he, h6, hv⟩
theorem exP_san : SanV (exU.pass 1 0) ∧ (exU.pass 1 0).L.length ≤ 1000 := ⟨(exU_san.pass 1 (par := 0) (by decide)).1, Nat.le_trans (pass_len exU 1 0) (by simp [exU])⟩
theorem ex_readB (A B : Option Addr) (n a m b : Nat) (D : Option Addr) (k : Nat) (w : World) (ht : VtAt RVo w A n a B m b (exU.pass 1 0)) (hx : TxAt w D (deepT 2).l) :
    Calls Try.prog 11 #[vtV A n a B m b, .agg (txC2 D 2 k 2), .int .i64 0, .int .i64 1] w fun e w' => ∃ A c, e = .returned (.tuple #[.slice A 32 c, .int .i64 0]) ∧ DatAt w' ⟨A, 32, c⟩ (padV [107]) ∧ Below w.heap.size w w' := by
  have hc : (deepT 2).c = 2 := deep_c 2
  have hn : (deepT 2).l.length = 2 := deep_len 2
  have hg := deep_good 2 (by omega)
  have ha := ex_ask2
  have hr := ex_read1
  have hs := exP_san
  generalize exU.pass 1 0 = u at *
  generalize deepT 2 = T at *
  refine (read_any A B n a m b u D 2 k 2 T 0 1 w ht hs.1 hs.2 hx hg hc (by omega) hn (by unfold okI; omega) (by unfold okI; omega)).mono ?_
  rintro e ww ⟨hv, ⟨_, A6, c6, he, hd⟩ | ⟨hno, _⟩⟩
  · rw [hr] at hd
    exact ⟨A6, c6, he, hd, hv⟩
  · exact absurd ha hno

set_option maxHeartbeats 8000000 in
theorem awake_any : AwakeOk := by
  intro w
  have hbg0 := deep_begin none 0 0 (by omega) w (.inl ⟨rfl, rfl⟩)
  replace hbg0 : Calls Try.prog 14 #[.agg #[.slice none 0 0, .int .i64 0], .int .i64 (-1)] w _ := hbg0
  have HB0 := Lib.hid hbg0
  clear hbg0
  go_enter Try.func8, Try.ntmps8
  go_wp2_with fail
  refine HB0.out.mono ?_
  rintro e w1 ⟨D1, k1, rfl, hx1, hv1, hk1⟩
  have HV1 := Lib.hid hv1
  have HX1 := Lib.hid hx1
  clear hv1 hx1 HB0
  go_upto_region 2 with fail
  obtain ⟨g, hg⟩ : ∃ g, g = w1.heap.size := ⟨_, rfl⟩
  obtain ⟨w2, hw2⟩ : ∃ q, q = w1.alloc (.cells (txC2 D1 1 k1 1) 26) := ⟨_, rfl⟩
  have hb2 : Below w1.heap.size w1 w2 := by rw [hw2]; exact below_new _ _
  have HK2 := Lib.hid (show Bk w2 g (txC2 D1 1 k1 1) 26 by rw [hw2, hg]; exact Bk.new _ _ _)
  have HX2 := Lib.hid (HX1.out.below hb2)
  have HV2 := Lib.hid (HV1.out.trans (hb2.mono HV1.out.size))
  have HG := Lib.hid (show w.heap.size ≤ g by rw [hg]; exact HV1.out.size)
  have HK1 := Lib.hid (show 1 ≤ k1 from hk1)
  rw [← hg, ← hw2]
  clear hg hw2 hb2 HX1 HV1 hk1
  have r0 : w2.cell? ⟨g, 0, none⟩ = some (.slice D1 1 k1) := HK2.out.c 0 _ rfl
  have r1 : w2.cell? ⟨g, 1, none⟩ = some (.int .i64 1) := HK2.out.c 1 _ rfl
  have hbg1 := deep_begin D1 1 k1 (by omega) w2 HX2.out
  replace hbg1 : Calls Try.prog 14 #[.agg #[.slice D1 1 k1, .int .i64 1], .int .i64 0] w2 _ := hbg1
  have HBG := Lib.hid hbg1
  clear hbg1
  go_wp2_with fail
  refine HBG.out.mono ?_
  rintro e w3 ⟨D, k, rfl, hx3, hv3, hk3⟩
  have HV3 := Lib.hid (HV2.out.trans (hv3.mono HV2.out.size))
  have HX3 := Lib.hid (show TxAt w3 D (deepT 2).l from hx3)
  have HK3 := Lib.hid (HK2.out.below hv3)
  have HKK := Lib.hid (show 2 ≤ k from hk3)
  clear hv3 hx3 hk3 HBG r0 r1 HV2 HX2 HK2
  have r0 := HK3.out.c 0 _ rfl
  have r1 := HK3.out.c 1 _ rfl
  have f0 := HK3.out.fr 0
  have f1 := HK3.out.fr 1
  go_upto_region 3 with fail
  have hT4 := Turn.two (W := w3) g (.slice D 2 k) (.int .i64 2)
  have HK4 := Lib.hid (HK3.out.two (.slice D 2 k) (.int .i64 2))
  have HX4 := Lib.hid (tx_put HX3.out HK3.out (.slice D 2 k) (.int .i64 2))
  have HV4 := Lib.hid (HV3.out.trans (hT4.below (B := w.heap.size) (fun q h => by have := HG.out; omega) HV3.out.size))
  generalize (w3.setCell ⟨g, 0, none⟩ (.slice D 2 k)).setCell ⟨g, 1, none⟩ (.int .i64 2) = w4 at *
  clear hT4 r0 r1 f0 f1 HV3 HX3 HK3
  have k0 : ∀ V, Since w4 V → V.cell? ⟨g, 0, none⟩ = some (.slice D 2 k) := fun V hV => (HK4.out.below hV).c 0 _ rfl
  have k1' : ∀ V, Since w4 V → V.cell? ⟨g, 1, none⟩ = some (.int .i64 2) := fun V hV => (HK4.out.below hV).c 1 _ rfl
  go_cut [6, 7] from 26 to 84 (fun pv ev wc => ∃ (g6 : Nat) (A : Option Addr) (n a : Nat) (B : Option Addr) (m b : Nat), pv = .pointer (some ⟨g6, 0, none⟩) ∧ ev = .int .i64 0 ∧ Hid (Bk wc g6 (vtC A n a B m b) 30) ∧ Hid (VtAt RVo wc A n a B m b exU) ∧ Hid (Since w4 wc))
  case first =>
    have HZ0 := Lib.hid (show (World.drew w4).heap.size = w4.heap.size from rfl)
    refine wp_region_since (by kernel_rfl) ?_
    have hS : Since w4 (World.drew w4) := (Below.refl _ _).drew
    refine wpAnyH_take (i := 1) (oi := ⟨some 28, _, _, _, _, _⟩) (v := ?_) rfl (by kernel_rfl) (by kernel_rfl) (by kernel_rfl) (fun _ _ _ h => h) (Or.inl ⟨by rfl, ?_⟩) hS ?_
    rotate_left
    · intro W hW; go_simp; with_reducible rfl
    try simp only [Act.put, List.setIfInBounds_toArray, List.set_cons_zero, List.set_cons_succ]
    refine wpAnyH_take (i := 2) (oi := ⟨some 29, _, _, _, _, _⟩) (v := ?_) rfl (by kernel_rfl) (by kernel_rfl) (by kernel_rfl) (fun _ _ _ h => h) (Or.inl ⟨by rfl, ?_⟩) hS ?_
    rotate_left
    · intro W hW; go_simp; with_reducible rfl
    try simp only [Act.put, List.setIfInBounds_toArray, List.set_cons_zero, List.set_cons_succ]
    refine wpAnyH_ready (rs := [0, 3, 9]) (by kernel_rfl) (by simp) ?_
    refine AllReadyH.cons (o := ⟨some 27, _, _, _, _, _⟩) rfl (fun Kr hKr => ?_) (AllReadyH.cons (o := ⟨some 30, _, _, _, _, _⟩) rfl (fun Kr hKr => ?_) (AllReadyH.cons (o := ⟨some 6, _, _, _, _, _⟩) rfl (fun Kr hKr => ?_) AllReadyH.nil))
    · skip
      -- operation 0: a call
      go_simp
      refine (blank_any 2 (by omega) _).mono ?_
      rintro e wb ⟨A1, a1, rfl, ht1, hab, hvb⟩
      have HTB := Lib.hid (show VtAt RVo wb A1 2 a1 none 0 0 exT from ht1)
      have HZB := Lib.hid (show (∀ b o, A1 = some ⟨b, o, none⟩ → _ ≤ b ∧ b < _) ∧ _ ≤ _ from ⟨fun b o e => ⟨hab b o e, by obtain ⟨ss, hss⟩ := ht1.base; rcases hss.at_.lt b o e with h | h; (have h9 := hss.l; rw [h] at h9; simp at h9); exact h⟩, hvb.size⟩)
      try replace HDU := Lib.hid (HDU.out.below hvb)
      try replace HKU := Lib.hid (HKU.out.below hvb)
      try replace HK6 := Lib.hid (Bk.below HK6.out hvb)
      clear ht1 hab
      show Kr _ _
      refine hKr.out _ _ ?_ (fun _ => ?_)
      · exact since_trans hS hvb
      clear hKr Kr
      replace hS : Since w4 wb := since_trans hS hvb
      try simp only [Act.put, List.setIfInBounds_toArray, List.set_cons_zero, List.set_cons_succ]
      refine wpAnyH_ready (rs := [3, 9]) (by kernel_rfl) (by simp) ?_
      refine AllReadyH.cons (o := ⟨some 30, _, _, _, _, _⟩) rfl (fun Kr hKr => ?_) (AllReadyH.cons (o := ⟨some 6, _, _, _, _, _⟩) rfl (fun Kr hKr => ?_) AllReadyH.nil)
      · skip
        -- operation 3: a step
        have HGU := Lib.hid (Below.size hS)
        refine wp_build_raw (n := 107) _ rfl rfl ?_
        intro wu gu hgu hdu hku hvu
        have HGV := Lib.hid (Nat.le_trans HGU.out hgu)
        have HDU := Lib.hid hdu
        have HKU := Lib.hid hku
        have HZU := Lib.hid (show _ ≤ _ from hvu.size)
        try replace HTB := Lib.hid (HTB.out.below hvu)
        try replace HK6 := Lib.hid (Bk.below HK6.out hvu)
        clear hgu hdu hku
        show Kr _ _
        refine hKr.out _ _ ?_ (fun _ => ?_)
        · exact since_trans hS hvu
        clear hKr Kr
        replace hS : Since w4 wu := since_trans hS hvu
        try simp only [Act.put, List.setIfInBounds_toArray, List.set_cons_zero, List.set_cons_succ]
        refine wpAnyH_ready (rs := [4, 9]) (by kernel_rfl) (by simp) ?_
        refine AllReadyH.cons (o := ⟨some 31, _, _, _, _, _⟩) rfl (fun Kr hKr => ?_) (AllReadyH.cons (o := ⟨some 6, _, _, _, _, _⟩) rfl (fun Kr hKr => ?_) AllReadyH.nil)
        · skip
          -- operation 4: a step
          refine wp_mark (.tmp 30) rfl gu 1 1 rfl ?_
          intro wm halm hgm
          try replace HTB := Lib.hid (HTB.out.alike halm)
          replace HDU := Lib.hid (HDU.out.alike halm)
          try replace HK6 := Lib.hid (Bk.far HK6.out hgm (bk_ne HK6.out HKU.out))
          have HZM := Lib.hid (show _ ≤ _ from halm.s)
          clear halm
          show Kr _ _
          refine hKr.out _ _ ?_ (fun _ => ?_)
          · exact Below.grown hS hgm hS.size (fun q e => by injection e with e; have := HGV.out; omega)
          clear hKr Kr
          replace hS : Since w4 wm := Below.grown hS hgm hS.size (fun q e => by injection e with e; have := HGV.out; omega)
          try simp only [Act.put, List.setIfInBounds_toArray, List.set_cons_zero, List.set_cons_succ]
          refine wpAnyH_ready (rs := [5, 9]) (by kernel_rfl) (by simp) ?_
          refine AllReadyH.cons (o := ⟨some 32, _, _, _, _, _⟩) rfl (fun Kr hKr => ?_) (AllReadyH.cons (o := ⟨some 6, _, _, _, _, _⟩) rfl (fun Kr hKr => ?_) AllReadyH.nil)
          · skip
            -- operation 5: a call
            go_simp
            refine (ex_write A1 a1 D k gu HKK.out _ HTB.out (HX4.out.below hS) HDU.out).mono ?_
            rintro e ww ⟨A6, n6, a6, B6, m6, b6, rfl, htw, haw, hvw⟩
            have HTW := Lib.hid htw
            have HAW := Lib.hid haw
            have HZW := Lib.hid (show _ ≤ _ from hvw.size)
            try replace HK6 := Lib.hid (Bk.below HK6.out hvw)
            clear htw haw
            show Kr _ _
            refine hKr.out _ _ ?_ (fun _ => ?_)
            · exact since_trans hS hvw
            clear hKr Kr
            replace hS : Since w4 ww := since_trans hS hvw
            try simp only [Act.put, List.setIfInBounds_toArray, List.set_cons_zero, List.set_cons_succ]
            refine wpAnyH_take (i := 6) (oi := ⟨some 26, _, _, _, _, _⟩) (v := ?_) rfl (by kernel_rfl) (by kernel_rfl) (by kernel_rfl) (fun _ _ _ h => h) (Or.inl ⟨by rfl, ?_⟩) hS ?_
            rotate_left
            · intro W hW; go_simp; with_reducible rfl
            try simp only [Act.put, List.setIfInBounds_toArray, List.set_cons_zero, List.set_cons_succ]
            refine wpAnyH_take (i := 7) (oi := ⟨some 33, _, _, _, _, _⟩) (v := ?_) rfl (by kernel_rfl) (by kernel_rfl) (by kernel_rfl) (fun _ _ _ h => h) (Or.inl ⟨by rfl, ?_⟩) hS ?_
            rotate_left
            · intro W hW; go_simp; with_reducible rfl
            try simp only [Act.put, List.setIfInBounds_toArray, List.set_cons_zero, List.set_cons_succ]
            refine wpAnyH_take (i := 8) (oi := ⟨some 34, _, _, _, _, _⟩) (v := ?_) rfl (by kernel_rfl) (by kernel_rfl) (by kernel_rfl) (fun _ _ _ h => h) (Or.inl ⟨by rfl, ?_⟩) hS ?_
            rotate_left
            · intro W hW; go_simp; with_reducible rfl
            try simp only [Act.put, List.setIfInBounds_toArray, List.set_cons_zero, List.set_cons_succ]
            refine wpAnyH_ready (rs := [9]) (by kernel_rfl) (by simp) ?_
            refine AllReadyH.cons (o := ⟨some 6, _, _, _, _, _⟩) rfl (fun Kr hKr => ?_) AllReadyH.nil
            -- operation 9: a step
            refine wp_alloc_bk 30 rfl #[.slice none 0 0, .slice none 0 0] (by kernel_rfl) ?_
            intro wK g6 hk6 hbK hgK
            have HZK := Lib.hid (And.intro hgK (And.intro (Bk.lt hk6) hbK.size))
            have HK6 := Lib.hid (show Bk wK g6 (vtC none 0 0 none 0 0) 30 from hk6)
            try replace HTB := Lib.hid (HTB.out.below hbK)
            try replace HDU := Lib.hid (HDU.out.below hbK)
            try replace HKU := Lib.hid (HKU.out.below hbK)
            try replace HTW := Lib.hid (HTW.out.below hbK)
            clear hgK hk6
            show Kr _ _
            refine hKr.out _ _ ?_ (fun _ => ?_)
            · exact since_trans hS hbK
            clear hKr Kr
            replace hS : Since w4 wK := since_trans hS hbK
            try simp only [Act.put, List.setIfInBounds_toArray, List.set_cons_zero, List.set_cons_succ]
            refine wpAnyH_ready (rs := [10]) (by kernel_rfl) (by simp) ?_
            refine AllReadyH.cons (o := ⟨none, _, _, _, _, _⟩) rfl (fun Kr hKr => ?_) AllReadyH.nil
            -- operation 10: a step
            have haw6 : Away A6 B6 g6 := HAW.out g6 (by have h1 := HZB.out; have h2 := HZK.out; have h3 := HZU.out; have h4 := HZW.out; have h5 := HZ0.out; have h7 := HZM.out; first | (refine .inr ?_; omega) | (refine .inl ⟨by omega, fun b o e => ?_, fun b o e => by cases e⟩; have h6 := h1.1 b o e; omega))
            refine wp_store_bk 30 (.tmp 6) (.tmp 33) rfl g6 (vtC A6 n6 a6 B6 m6 b6) rfl rfl 30 _ HK6.out (by kernel_rfl) rfl vt_one ?_
            intro wS hkS hgS
            have HKS := Lib.hid (show Bk wS g6 (vtC A6 n6 a6 B6 m6 b6) 30 from hkS)
            have HTS := Lib.hid (HTW.out.off HK6.out vtc_by haw6 ((Turn.refl (fun q => q = g6) _).grown hgS (fun q e => .inl (by injection e with e; exact e.symm))))
            have HSZ := Lib.hid (show w4.heap.size ≤ g6 by have h1 := HZB.out; have h2 := HZK.out; have h3 := HZU.out; have h4 := HZW.out; have h5 := HZ0.out; have h7 := HZM.out; omega)
            clear haw6 hkS
            show Kr _ _
            refine hKr.out _ _ ?_ (fun _ => ?_)
            · exact Below.grown hS hgS hS.size (fun q e => by injection e with e; have := HSZ.out; omega)
            clear hKr Kr
            replace hS : Since w4 wS := Below.grown hS hgS hS.size (fun q e => by injection e with e; have := HSZ.out; omega)
            try simp only [Act.put, List.setIfInBounds_toArray, List.set_cons_zero, List.set_cons_succ]
            refine wpAnyH_take (i := 11) (oi := ⟨some 7, _, _, _, _, _⟩) (v := ?_) rfl (by kernel_rfl) (by kernel_rfl) (by kernel_rfl) (fun _ _ _ h => h) (Or.inl ⟨by rfl, ?_⟩) hS ?_
            rotate_left
            · intro W hW; go_simp; with_reducible rfl
            try simp only [Act.put, List.setIfInBounds_toArray, List.set_cons_zero, List.set_cons_succ]
            refine wpAnyH_done (by kernel_rfl) ?_ _
            have HSS := Lib.hid hS
            clear hS
            go_wp2_with fail
            go_meet
            case rel => exact ⟨g6, A6, n6, a6, B6, m6, b6, rfl, rfl, HKS, HTS, HSS⟩
          · skip
            -- operation 9: a step
            refine wp_alloc_bk 30 rfl #[.slice none 0 0, .slice none 0 0] (by kernel_rfl) ?_
            intro wK g6 hk6 hbK hgK
            have HZK := Lib.hid (And.intro hgK (And.intro (Bk.lt hk6) hbK.size))
            have HK6 := Lib.hid (show Bk wK g6 (vtC none 0 0 none 0 0) 30 from hk6)
            try replace HTB := Lib.hid (HTB.out.below hbK)
            try replace HDU := Lib.hid (HDU.out.below hbK)
            try replace HKU := Lib.hid (HKU.out.below hbK)
            try replace HTW := Lib.hid (HTW.out.below hbK)
            clear hgK hk6
            show Kr _ _
            refine hKr.out _ _ ?_ (fun _ => ?_)
            · exact since_trans hS hbK
            clear hKr Kr
            replace hS : Since w4 wK := since_trans hS hbK
            try simp only [Act.put, List.setIfInBounds_toArray, List.set_cons_zero, List.set_cons_succ]
            refine wpAnyH_ready (rs := [5]) (by kernel_rfl) (by simp) ?_
            refine AllReadyH.cons (o := ⟨some 32, _, _, _, _, _⟩) rfl (fun Kr hKr => ?_) AllReadyH.nil
            -- operation 5: a call
            go_simp
            refine (ex_write A1 a1 D k gu HKK.out _ HTB.out (HX4.out.below hS) HDU.out).mono ?_
            rintro e ww ⟨A6, n6, a6, B6, m6, b6, rfl, htw, haw, hvw⟩
            have HTW := Lib.hid htw
            have HAW := Lib.hid haw
            have HZW := Lib.hid (show _ ≤ _ from hvw.size)
            try replace HK6 := Lib.hid (Bk.below HK6.out hvw)
            clear htw haw
            show Kr _ _
            refine hKr.out _ _ ?_ (fun _ => ?_)
            · exact since_trans hS hvw
            clear hKr Kr
            replace hS : Since w4 ww := since_trans hS hvw
            try simp only [Act.put, List.setIfInBounds_toArray, List.set_cons_zero, List.set_cons_succ]
            refine wpAnyH_take (i := 6) (oi := ⟨some 26, _, _, _, _, _⟩) (v := ?_) rfl (by kernel_rfl) (by kernel_rfl) (by kernel_rfl) (fun _ _ _ h => h) (Or.inl ⟨by rfl, ?_⟩) hS ?_
            rotate_left
            · intro W hW; go_simp; with_reducible rfl
            try simp only [Act.put, List.setIfInBounds_toArray, List.set_cons_zero, List.set_cons_succ]
            refine wpAnyH_take (i := 7) (oi := ⟨some 33, _, _, _, _, _⟩) (v := ?_) rfl (by kernel_rfl) (by kernel_rfl) (by kernel_rfl) (fun _ _ _ h => h) (Or.inl ⟨by rfl, ?_⟩) hS ?_
            rotate_left
            · intro W hW; go_simp; with_reducible rfl
            try simp only [Act.put, List.setIfInBounds_toArray, List.set_cons_zero, List.set_cons_succ]
            refine wpAnyH_take (i := 8) (oi := ⟨some 34, _, _, _, _, _⟩) (v := ?_) rfl (by kernel_rfl) (by kernel_rfl) (by kernel_rfl) (fun _ _ _ h => h) (Or.inl ⟨by rfl, ?_⟩) hS ?_
            rotate_left
            · intro W hW; go_simp; with_reducible rfl
            try simp only [Act.put, List.setIfInBounds_toArray, List.set_cons_zero, List.set_cons_succ]
            refine wpAnyH_ready (rs := [10]) (by kernel_rfl) (by simp) ?_
            refine AllReadyH.cons (o := ⟨none, _, _, _, _, _⟩) rfl (fun Kr hKr => ?_) AllReadyH.nil
            -- operation 10: a step
            have haw6 : Away A6 B6 g6 := HAW.out g6 (by have h1 := HZB.out; have h2 := HZK.out; have h3 := HZU.out; have h4 := HZW.out; have h5 := HZ0.out; have h7 := HZM.out; first | (refine .inr ?_; omega) | (refine .inl ⟨by omega, fun b o e => ?_, fun b o e => by cases e⟩; have h6 := h1.1 b o e; omega))
            refine wp_store_bk 30 (.tmp 6) (.tmp 33) rfl g6 (vtC A6 n6 a6 B6 m6 b6) rfl rfl 30 _ HK6.out (by kernel_rfl) rfl vt_one ?_
            intro wS hkS hgS
            have HKS := Lib.hid (show Bk wS g6 (vtC A6 n6 a6 B6 m6 b6) 30 from hkS)
            have HTS := Lib.hid (HTW.out.off HK6.out vtc_by haw6 ((Turn.refl (fun q => q = g6) _).grown hgS (fun q e => .inl (by injection e with e; exact e.symm))))
            have HSZ := Lib.hid (show w4.heap.size ≤ g6 by have h1 := HZB.out; have h2 := HZK.out; have h3 := HZU.out; have h4 := HZW.out; have h5 := HZ0.out; have h7 := HZM.out; omega)
            clear haw6 hkS
            show Kr _ _
            refine hKr.out _ _ ?_ (fun _ => ?_)
            · exact Below.grown hS hgS hS.size (fun q e => by injection e with e; have := HSZ.out; omega)
            clear hKr Kr
            replace hS : Since w4 wS := Below.grown hS hgS hS.size (fun q e => by injection e with e; have := HSZ.out; omega)
            try simp only [Act.put, List.setIfInBounds_toArray, List.set_cons_zero, List.set_cons_succ]
            refine wpAnyH_take (i := 11) (oi := ⟨some 7, _, _, _, _, _⟩) (v := ?_) rfl (by kernel_rfl) (by kernel_rfl) (by kernel_rfl) (fun _ _ _ h => h) (Or.inl ⟨by rfl, ?_⟩) hS ?_
            rotate_left
            · intro W hW; go_simp; with_reducible rfl
            try simp only [Act.put, List.setIfInBounds_toArray, List.set_cons_zero, List.set_cons_succ]
            refine wpAnyH_done (by kernel_rfl) ?_ _
            have HSS := Lib.hid hS
            clear hS
            go_wp2_with fail
            go_meet
            case rel => exact ⟨g6, A6, n6, a6, B6, m6, b6, rfl, rfl, HKS, HTS, HSS⟩
        · skip
          -- operation 9: a step
          refine wp_alloc_bk 30 rfl #[.slice none 0 0, .slice none 0 0] (by kernel_rfl) ?_
          intro wK g6 hk6 hbK hgK
          have HZK := Lib.hid (And.intro hgK (And.intro (Bk.lt hk6) hbK.size))
          have HK6 := Lib.hid (show Bk wK g6 (vtC none 0 0 none 0 0) 30 from hk6)
          try replace HTB := Lib.hid (HTB.out.below hbK)
          try replace HDU := Lib.hid (HDU.out.below hbK)
          try replace HKU := Lib.hid (HKU.out.below hbK)
          try replace HTW := Lib.hid (HTW.out.below hbK)
          clear hgK hk6
          show Kr _ _
          refine hKr.out _ _ ?_ (fun _ => ?_)
          · exact since_trans hS hbK
          clear hKr Kr
          replace hS : Since w4 wK := since_trans hS hbK
          try simp only [Act.put, List.setIfInBounds_toArray, List.set_cons_zero, List.set_cons_succ]
          refine wpAnyH_ready (rs := [4]) (by kernel_rfl) (by simp) ?_
          refine AllReadyH.cons (o := ⟨some 31, _, _, _, _, _⟩) rfl (fun Kr hKr => ?_) AllReadyH.nil
          -- operation 4: a step
          refine wp_mark (.tmp 30) rfl gu 1 1 rfl ?_
          intro wm halm hgm
          try replace HTB := Lib.hid (HTB.out.alike halm)
          replace HDU := Lib.hid (HDU.out.alike halm)
          try replace HK6 := Lib.hid (Bk.far HK6.out hgm (bk_ne HK6.out HKU.out))
          have HZM := Lib.hid (show _ ≤ _ from halm.s)
          clear halm
          show Kr _ _
          refine hKr.out _ _ ?_ (fun _ => ?_)
          · exact Below.grown hS hgm hS.size (fun q e => by injection e with e; have := HGV.out; omega)
          clear hKr Kr
          replace hS : Since w4 wm := Below.grown hS hgm hS.size (fun q e => by injection e with e; have := HGV.out; omega)
          try simp only [Act.put, List.setIfInBounds_toArray, List.set_cons_zero, List.set_cons_succ]
          refine wpAnyH_ready (rs := [5]) (by kernel_rfl) (by simp) ?_
          refine AllReadyH.cons (o := ⟨some 32, _, _, _, _, _⟩) rfl (fun Kr hKr => ?_) AllReadyH.nil
          -- operation 5: a call
          go_simp
          refine (ex_write A1 a1 D k gu HKK.out _ HTB.out (HX4.out.below hS) HDU.out).mono ?_
          rintro e ww ⟨A6, n6, a6, B6, m6, b6, rfl, htw, haw, hvw⟩
          have HTW := Lib.hid htw
          have HAW := Lib.hid haw
          have HZW := Lib.hid (show _ ≤ _ from hvw.size)
          try replace HK6 := Lib.hid (Bk.below HK6.out hvw)
          clear htw haw
          show Kr _ _
          refine hKr.out _ _ ?_ (fun _ => ?_)
          · exact since_trans hS hvw
          clear hKr Kr
          replace hS : Since w4 ww := since_trans hS hvw
          try simp only [Act.put, List.setIfInBounds_toArray, List.set_cons_zero, List.set_cons_succ]
          refine wpAnyH_take (i := 6) (oi := ⟨some 26, _, _, _, _, _⟩) (v := ?_) rfl (by kernel_rfl) (by kernel_rfl) (by kernel_rfl) (fun _ _ _ h => h) (Or.inl ⟨by rfl, ?_⟩) hS ?_
          rotate_left
          · intro W hW; go_simp; with_reducible rfl
          try simp only [Act.put, List.setIfInBounds_toArray, List.set_cons_zero, List.set_cons_succ]
          refine wpAnyH_take (i := 7) (oi := ⟨some 33, _, _, _, _, _⟩) (v := ?_) rfl (by kernel_rfl) (by kernel_rfl) (by kernel_rfl) (fun _ _ _ h => h) (Or.inl ⟨by rfl, ?_⟩) hS ?_
          rotate_left
          · intro W hW; go_simp; with_reducible rfl
          try simp only [Act.put, List.setIfInBounds_toArray, List.set_cons_zero, List.set_cons_succ]
          refine wpAnyH_take (i := 8) (oi := ⟨some 34, _, _, _, _, _⟩) (v := ?_) rfl (by kernel_rfl) (by kernel_rfl) (by kernel_rfl) (fun _ _ _ h => h) (Or.inl ⟨by rfl, ?_⟩) hS ?_
          rotate_left
          · intro W hW; go_simp; with_reducible rfl
          try simp only [Act.put, List.setIfInBounds_toArray, List.set_cons_zero, List.set_cons_succ]
          refine wpAnyH_ready (rs := [10]) (by kernel_rfl) (by simp) ?_
          refine AllReadyH.cons (o := ⟨none, _, _, _, _, _⟩) rfl (fun Kr hKr => ?_) AllReadyH.nil
          -- operation 10: a step
          have haw6 : Away A6 B6 g6 := HAW.out g6 (by have h1 := HZB.out; have h2 := HZK.out; have h3 := HZU.out; have h4 := HZW.out; have h5 := HZ0.out; have h7 := HZM.out; first | (refine .inr ?_; omega) | (refine .inl ⟨by omega, fun b o e => ?_, fun b o e => by cases e⟩; have h6 := h1.1 b o e; omega))
          refine wp_store_bk 30 (.tmp 6) (.tmp 33) rfl g6 (vtC A6 n6 a6 B6 m6 b6) rfl rfl 30 _ HK6.out (by kernel_rfl) rfl vt_one ?_
          intro wS hkS hgS
          have HKS := Lib.hid (show Bk wS g6 (vtC A6 n6 a6 B6 m6 b6) 30 from hkS)
          have HTS := Lib.hid (HTW.out.off HK6.out vtc_by haw6 ((Turn.refl (fun q => q = g6) _).grown hgS (fun q e => .inl (by injection e with e; exact e.symm))))
          have HSZ := Lib.hid (show w4.heap.size ≤ g6 by have h1 := HZB.out; have h2 := HZK.out; have h3 := HZU.out; have h4 := HZW.out; have h5 := HZ0.out; have h7 := HZM.out; omega)
          clear haw6 hkS
          show Kr _ _
          refine hKr.out _ _ ?_ (fun _ => ?_)
          · exact Below.grown hS hgS hS.size (fun q e => by injection e with e; have := HSZ.out; omega)
          clear hKr Kr
          replace hS : Since w4 wS := Below.grown hS hgS hS.size (fun q e => by injection e with e; have := HSZ.out; omega)
          try simp only [Act.put, List.setIfInBounds_toArray, List.set_cons_zero, List.set_cons_succ]
          refine wpAnyH_take (i := 11) (oi := ⟨some 7, _, _, _, _, _⟩) (v := ?_) rfl (by kernel_rfl) (by kernel_rfl) (by kernel_rfl) (fun _ _ _ h => h) (Or.inl ⟨by rfl, ?_⟩) hS ?_
          rotate_left
          · intro W hW; go_simp; with_reducible rfl
          try simp only [Act.put, List.setIfInBounds_toArray, List.set_cons_zero, List.set_cons_succ]
          refine wpAnyH_done (by kernel_rfl) ?_ _
          have HSS := Lib.hid hS
          clear hS
          go_wp2_with fail
          go_meet
          case rel => exact ⟨g6, A6, n6, a6, B6, m6, b6, rfl, rfl, HKS, HTS, HSS⟩
      · skip
        -- operation 9: a step
        refine wp_alloc_bk 30 rfl #[.slice none 0 0, .slice none 0 0] (by kernel_rfl) ?_
        intro wK g6 hk6 hbK hgK
        have HZK := Lib.hid (And.intro hgK (And.intro (Bk.lt hk6) hbK.size))
        have HK6 := Lib.hid (show Bk wK g6 (vtC none 0 0 none 0 0) 30 from hk6)
        try replace HTB := Lib.hid (HTB.out.below hbK)
        try replace HDU := Lib.hid (HDU.out.below hbK)
        try replace HKU := Lib.hid (HKU.out.below hbK)
        try replace HTW := Lib.hid (HTW.out.below hbK)
        clear hgK hk6
        show Kr _ _
        refine hKr.out _ _ ?_ (fun _ => ?_)
        · exact since_trans hS hbK
        clear hKr Kr
        replace hS : Since w4 wK := since_trans hS hbK
        try simp only [Act.put, List.setIfInBounds_toArray, List.set_cons_zero, List.set_cons_succ]
        refine wpAnyH_ready (rs := [3]) (by kernel_rfl) (by simp) ?_
        refine AllReadyH.cons (o := ⟨some 30, _, _, _, _, _⟩) rfl (fun Kr hKr => ?_) AllReadyH.nil
        -- operation 3: a step
        have HGU := Lib.hid (Below.size hS)
        refine wp_build_raw (n := 107) _ rfl rfl ?_
        intro wu gu hgu hdu hku hvu
        have HGV := Lib.hid (Nat.le_trans HGU.out hgu)
        have HDU := Lib.hid hdu
        have HKU := Lib.hid hku
        have HZU := Lib.hid (show _ ≤ _ from hvu.size)
        try replace HTB := Lib.hid (HTB.out.below hvu)
        try replace HK6 := Lib.hid (Bk.below HK6.out hvu)
        clear hgu hdu hku
        show Kr _ _
        refine hKr.out _ _ ?_ (fun _ => ?_)
        · exact since_trans hS hvu
        clear hKr Kr
        replace hS : Since w4 wu := since_trans hS hvu
        try simp only [Act.put, List.setIfInBounds_toArray, List.set_cons_zero, List.set_cons_succ]
        refine wpAnyH_ready (rs := [4]) (by kernel_rfl) (by simp) ?_
        refine AllReadyH.cons (o := ⟨some 31, _, _, _, _, _⟩) rfl (fun Kr hKr => ?_) AllReadyH.nil
        -- operation 4: a step
        refine wp_mark (.tmp 30) rfl gu 1 1 rfl ?_
        intro wm halm hgm
        try replace HTB := Lib.hid (HTB.out.alike halm)
        replace HDU := Lib.hid (HDU.out.alike halm)
        try replace HK6 := Lib.hid (Bk.far HK6.out hgm (bk_ne HK6.out HKU.out))
        have HZM := Lib.hid (show _ ≤ _ from halm.s)
        clear halm
        show Kr _ _
        refine hKr.out _ _ ?_ (fun _ => ?_)
        · exact Below.grown hS hgm hS.size (fun q e => by injection e with e; have := HGV.out; omega)
        clear hKr Kr
        replace hS : Since w4 wm := Below.grown hS hgm hS.size (fun q e => by injection e with e; have := HGV.out; omega)
        try simp only [Act.put, List.setIfInBounds_toArray, List.set_cons_zero, List.set_cons_succ]
        refine wpAnyH_ready (rs := [5]) (by kernel_rfl) (by simp) ?_
        refine AllReadyH.cons (o := ⟨some 32, _, _, _, _, _⟩) rfl (fun Kr hKr => ?_) AllReadyH.nil
        -- operation 5: a call
        go_simp
        refine (ex_write A1 a1 D k gu HKK.out _ HTB.out (HX4.out.below hS) HDU.out).mono ?_
        rintro e ww ⟨A6, n6, a6, B6, m6, b6, rfl, htw, haw, hvw⟩
        have HTW := Lib.hid htw
        have HAW := Lib.hid haw
        have HZW := Lib.hid (show _ ≤ _ from hvw.size)
        try replace HK6 := Lib.hid (Bk.below HK6.out hvw)
        clear htw haw
        show Kr _ _
        refine hKr.out _ _ ?_ (fun _ => ?_)
        · exact since_trans hS hvw
        clear hKr Kr
        replace hS : Since w4 ww := since_trans hS hvw
        try simp only [Act.put, List.setIfInBounds_toArray, List.set_cons_zero, List.set_cons_succ]
        refine wpAnyH_take (i := 6) (oi := ⟨some 26, _, _, _, _, _⟩) (v := ?_) rfl (by kernel_rfl) (by kernel_rfl) (by kernel_rfl) (fun _ _ _ h => h) (Or.inl ⟨by rfl, ?_⟩) hS ?_
        rotate_left
        · intro W hW; go_simp; with_reducible rfl
        try simp only [Act.put, List.setIfInBounds_toArray, List.set_cons_zero, List.set_cons_succ]
        refine wpAnyH_take (i := 7) (oi := ⟨some 33, _, _, _, _, _⟩) (v := ?_) rfl (by kernel_rfl) (by kernel_rfl) (by kernel_rfl) (fun _ _ _ h => h) (Or.inl ⟨by rfl, ?_⟩) hS ?_
        rotate_left
        · intro W hW; go_simp; with_reducible rfl
        try simp only [Act.put, List.setIfInBounds_toArray, List.set_cons_zero, List.set_cons_succ]
        refine wpAnyH_take (i := 8) (oi := ⟨some 34, _, _, _, _, _⟩) (v := ?_) rfl (by kernel_rfl) (by kernel_rfl) (by kernel_rfl) (fun _ _ _ h => h) (Or.inl ⟨by rfl, ?_⟩) hS ?_
        rotate_left
        · intro W hW; go_simp; with_reducible rfl
        try simp only [Act.put, List.setIfInBounds_toArray, List.set_cons_zero, List.set_cons_succ]
        refine wpAnyH_ready (rs := [10]) (by kernel_rfl) (by simp) ?_
        refine AllReadyH.cons (o := ⟨none, _, _, _, _, _⟩) rfl (fun Kr hKr => ?_) AllReadyH.nil
        -- operation 10: a step
        have haw6 : Away A6 B6 g6 := HAW.out g6 (by have h1 := HZB.out; have h2 := HZK.out; have h3 := HZU.out; have h4 := HZW.out; have h5 := HZ0.out; have h7 := HZM.out; first | (refine .inr ?_; omega) | (refine .inl ⟨by omega, fun b o e => ?_, fun b o e => by cases e⟩; have h6 := h1.1 b o e; omega))
        refine wp_store_bk 30 (.tmp 6) (.tmp 33) rfl g6 (vtC A6 n6 a6 B6 m6 b6) rfl rfl 30 _ HK6.out (by kernel_rfl) rfl vt_one ?_
        intro wS hkS hgS
        have HKS := Lib.hid (show Bk wS g6 (vtC A6 n6 a6 B6 m6 b6) 30 from hkS)
        have HTS := Lib.hid (HTW.out.off HK6.out vtc_by haw6 ((Turn.refl (fun q => q = g6) _).grown hgS (fun q e => .inl (by injection e with e; exact e.symm))))
        have HSZ := Lib.hid (show w4.heap.size ≤ g6 by have h1 := HZB.out; have h2 := HZK.out; have h3 := HZU.out; have h4 := HZW.out; have h5 := HZ0.out; have h7 := HZM.out; omega)
        clear haw6 hkS
        show Kr _ _
        refine hKr.out _ _ ?_ (fun _ => ?_)
        · exact Below.grown hS hgS hS.size (fun q e => by injection e with e; have := HSZ.out; omega)
        clear hKr Kr
        replace hS : Since w4 wS := Below.grown hS hgS hS.size (fun q e => by injection e with e; have := HSZ.out; omega)
        try simp only [Act.put, List.setIfInBounds_toArray, List.set_cons_zero, List.set_cons_succ]
        refine wpAnyH_take (i := 11) (oi := ⟨some 7, _, _, _, _, _⟩) (v := ?_) rfl (by kernel_rfl) (by kernel_rfl) (by kernel_rfl) (fun _ _ _ h => h) (Or.inl ⟨by rfl, ?_⟩) hS ?_
        rotate_left
        · intro W hW; go_simp; with_reducible rfl
        try simp only [Act.put, List.setIfInBounds_toArray, List.set_cons_zero, List.set_cons_succ]
        refine wpAnyH_done (by kernel_rfl) ?_ _
        have HSS := Lib.hid hS
        clear hS
        go_wp2_with fail
        go_meet
        case rel => exact ⟨g6, A6, n6, a6, B6, m6, b6, rfl, rfl, HKS, HTS, HSS⟩
    · skip
      -- operation 3: a step
      have HGU := Lib.hid (Below.size hS)
      refine wp_build_raw (n := 107) _ rfl rfl ?_
      intro wu gu hgu hdu hku hvu
      have HGV := Lib.hid (Nat.le_trans HGU.out hgu)
      have HDU := Lib.hid hdu
      have HKU := Lib.hid hku
      have HZU := Lib.hid (show _ ≤ _ from hvu.size)
      try replace HTB := Lib.hid (HTB.out.below hvu)
      try replace HK6 := Lib.hid (Bk.below HK6.out hvu)
      clear hgu hdu hku
      show Kr _ _
      refine hKr.out _ _ ?_ (fun _ => ?_)
      · exact since_trans hS hvu
      clear hKr Kr
      replace hS : Since w4 wu := since_trans hS hvu
      try simp only [Act.put, List.setIfInBounds_toArray, List.set_cons_zero, List.set_cons_succ]
      refine wpAnyH_ready (rs := [0, 4, 9]) (by kernel_rfl) (by simp) ?_
      refine AllReadyH.cons (o := ⟨some 27, _, _, _, _, _⟩) rfl (fun Kr hKr => ?_) (AllReadyH.cons (o := ⟨some 31, _, _, _, _, _⟩) rfl (fun Kr hKr => ?_) (AllReadyH.cons (o := ⟨some 6, _, _, _, _, _⟩) rfl (fun Kr hKr => ?_) AllReadyH.nil))
      · skip
        -- operation 0: a call
        go_simp
        refine (blank_any 2 (by omega) _).mono ?_
        rintro e wb ⟨A1, a1, rfl, ht1, hab, hvb⟩
        have HTB := Lib.hid (show VtAt RVo wb A1 2 a1 none 0 0 exT from ht1)
        have HZB := Lib.hid (show (∀ b o, A1 = some ⟨b, o, none⟩ → _ ≤ b ∧ b < _) ∧ _ ≤ _ from ⟨fun b o e => ⟨hab b o e, by obtain ⟨ss, hss⟩ := ht1.base; rcases hss.at_.lt b o e with h | h; (have h9 := hss.l; rw [h] at h9; simp at h9); exact h⟩, hvb.size⟩)
        try replace HDU := Lib.hid (HDU.out.below hvb)
        try replace HKU := Lib.hid (HKU.out.below hvb)
        try replace HK6 := Lib.hid (Bk.below HK6.out hvb)
        clear ht1 hab
        show Kr _ _
        refine hKr.out _ _ ?_ (fun _ => ?_)
        · exact since_trans hS hvb
        clear hKr Kr
        replace hS : Since w4 wb := since_trans hS hvb
        try simp only [Act.put, List.setIfInBounds_toArray, List.set_cons_zero, List.set_cons_succ]
        refine wpAnyH_ready (rs := [4, 9]) (by kernel_rfl) (by simp) ?_
        refine AllReadyH.cons (o := ⟨some 31, _, _, _, _, _⟩) rfl (fun Kr hKr => ?_) (AllReadyH.cons (o := ⟨some 6, _, _, _, _, _⟩) rfl (fun Kr hKr => ?_) AllReadyH.nil)
        · skip
          -- operation 4: a step
          refine wp_mark (.tmp 30) rfl gu 1 1 rfl ?_
          intro wm halm hgm
          try replace HTB := Lib.hid (HTB.out.alike halm)
          replace HDU := Lib.hid (HDU.out.alike halm)
          try replace HK6 := Lib.hid (Bk.far HK6.out hgm (bk_ne HK6.out HKU.out))
          have HZM := Lib.hid (show _ ≤ _ from halm.s)
          clear halm
          show Kr _ _
          refine hKr.out _ _ ?_ (fun _ => ?_)
          · exact Below.grown hS hgm hS.size (fun q e => by injection e with e; have := HGV.out; omega)
          clear hKr Kr
          replace hS : Since w4 wm := Below.grown hS hgm hS.size (fun q e => by injection e with e; have := HGV.out; omega)
          try simp only [Act.put, List.setIfInBounds_toArray, List.set_cons_zero, List.set_cons_succ]
          refine wpAnyH_ready (rs := [5, 9]) (by kernel_rfl) (by simp) ?_
          refine AllReadyH.cons (o := ⟨some 32, _, _, _, _, _⟩) rfl (fun Kr hKr => ?_) (AllReadyH.cons (o := ⟨some 6, _, _, _, _, _⟩) rfl (fun Kr hKr => ?_) AllReadyH.nil)
          · skip
            -- operation 5: a call
            go_simp
            refine (ex_write A1 a1 D k gu HKK.out _ HTB.out (HX4.out.below hS) HDU.out).mono ?_
            rintro e ww ⟨A6, n6, a6, B6, m6, b6, rfl, htw, haw, hvw⟩
            have HTW := Lib.hid htw
            have HAW := Lib.hid haw
            have HZW := Lib.hid (show _ ≤ _ from hvw.size)
            try replace HK6 := Lib.hid (Bk.below HK6.out hvw)
            clear htw haw
            show Kr _ _
            refine hKr.out _ _ ?_ (fun _ => ?_)
            · exact since_trans hS hvw
            clear hKr Kr
            replace hS : Since w4 ww := since_trans hS hvw
            try simp only [Act.put, List.setIfInBounds_toArray, List.set_cons_zero, List.set_cons_succ]
            refine wpAnyH_take (i := 6) (oi := ⟨some 26, _, _, _, _, _⟩) (v := ?_) rfl (by kernel_rfl) (by kernel_rfl) (by kernel_rfl) (fun _ _ _ h => h) (Or.inl ⟨by rfl, ?_⟩) hS ?_
            rotate_left
            · intro W hW; go_simp; with_reducible rfl
            try simp only [Act.put, List.setIfInBounds_toArray, List.set_cons_zero, List.set_cons_succ]
            refine wpAnyH_take (i := 7) (oi := ⟨some 33, _, _, _, _, _⟩) (v := ?_) rfl (by kernel_rfl) (by kernel_rfl) (by kernel_rfl) (fun _ _ _ h => h) (Or.inl ⟨by rfl, ?_⟩) hS ?_
            rotate_left
            · intro W hW; go_simp; with_reducible rfl
            try simp only [Act.put, List.setIfInBounds_toArray, List.set_cons_zero, List.set_cons_succ]
            refine wpAnyH_take (i := 8) (oi := ⟨some 34, _, _, _, _, _⟩) (v := ?_) rfl (by kernel_rfl) (by kernel_rfl) (by kernel_rfl) (fun _ _ _ h => h) (Or.inl ⟨by rfl, ?_⟩) hS ?_
            rotate_left
            · intro W hW; go_simp; with_reducible rfl
            try simp only [Act.put, List.setIfInBounds_toArray, List.set_cons_zero, List.set_cons_succ]
            refine wpAnyH_ready (rs := [9]) (by kernel_rfl) (by simp) ?_
            refine AllReadyH.cons (o := ⟨some 6, _, _, _, _, _⟩) rfl (fun Kr hKr => ?_) AllReadyH.nil
            -- operation 9: a step
            refine wp_alloc_bk 30 rfl #[.slice none 0 0, .slice none 0 0] (by kernel_rfl) ?_
            intro wK g6 hk6 hbK hgK
            have HZK := Lib.hid (And.intro hgK (And.intro (Bk.lt hk6) hbK.size))
            have HK6 := Lib.hid (show Bk wK g6 (vtC none 0 0 none 0 0) 30 from hk6)
            try replace HTB := Lib.hid (HTB.out.below hbK)
            try replace HDU := Lib.hid (HDU.out.below hbK)
            try replace HKU := Lib.hid (HKU.out.below hbK)
            try replace HTW := Lib.hid (HTW.out.below hbK)
            clear hgK hk6
            show Kr _ _
            refine hKr.out _ _ ?_ (fun _ => ?_)
            · exact since_trans hS hbK
            clear hKr Kr
            replace hS : Since w4 wK := since_trans hS hbK
            try simp only [Act.put, List.setIfInBounds_toArray, List.set_cons_zero, List.set_cons_succ]
            refine wpAnyH_ready (rs := [10]) (by kernel_rfl) (by simp) ?_
            refine AllReadyH.cons (o := ⟨none, _, _, _, _, _⟩) rfl (fun Kr hKr => ?_) AllReadyH.nil
            -- operation 10: a step
            have haw6 : Away A6 B6 g6 := HAW.out g6 (by have h1 := HZB.out; have h2 := HZK.out; have h3 := HZU.out; have h4 := HZW.out; have h5 := HZ0.out; have h7 := HZM.out; first | (refine .inr ?_; omega) | (refine .inl ⟨by omega, fun b o e => ?_, fun b o e => by cases e⟩; have h6 := h1.1 b o e; omega))
            refine wp_store_bk 30 (.tmp 6) (.tmp 33) rfl g6 (vtC A6 n6 a6 B6 m6 b6) rfl rfl 30 _ HK6.out (by kernel_rfl) rfl vt_one ?_
            intro wS hkS hgS
            have HKS := Lib.hid (show Bk wS g6 (vtC A6 n6 a6 B6 m6 b6) 30 from hkS)
            have HTS := Lib.hid (HTW.out.off HK6.out vtc_by haw6 ((Turn.refl (fun q => q = g6) _).grown hgS (fun q e => .inl (by injection e with e; exact e.symm))))
            have HSZ := Lib.hid (show w4.heap.size ≤ g6 by have h1 := HZB.out; have h2 := HZK.out; have h3 := HZU.out; have h4 := HZW.out; have h5 := HZ0.out; have h7 := HZM.out; omega)
            clear haw6 hkS
            show Kr _ _
            refine hKr.out _ _ ?_ (fun _ => ?_)
            · exact Below.grown hS hgS hS.size (fun q e => by injection e with e; have := HSZ.out; omega)
            clear hKr Kr
            replace hS : Since w4 wS := Below.grown hS hgS hS.size (fun q e => by injection e with e; have := HSZ.out; omega)
            try simp only [Act.put, List.setIfInBounds_toArray, List.set_cons_zero, List.set_cons_succ]
            refine wpAnyH_take (i := 11) (oi := ⟨some 7, _, _, _, _, _⟩) (v := ?_) rfl (by kernel_rfl) (by kernel_rfl) (by kernel_rfl) (fun _ _ _ h => h) (Or.inl ⟨by rfl, ?_⟩) hS ?_
            rotate_left
            · intro W hW; go_simp; with_reducible rfl
            try simp only [Act.put, List.setIfInBounds_toArray, List.set_cons_zero, List.set_cons_succ]
            refine wpAnyH_done (by kernel_rfl) ?_ _
            have HSS := Lib.hid hS
            clear hS
            go_wp2_with fail
            go_meet
            case rel => exact ⟨g6, A6, n6, a6, B6, m6, b6, rfl, rfl, HKS, HTS, HSS⟩
          · skip
            -- operation 9: a step
            refine wp_alloc_bk 30 rfl #[.slice none 0 0, .slice none 0 0] (by kernel_rfl) ?_
            intro wK g6 hk6 hbK hgK
            have HZK := Lib.hid (And.intro hgK (And.intro (Bk.lt hk6) hbK.size))
            have HK6 := Lib.hid (show Bk wK g6 (vtC none 0 0 none 0 0) 30 from hk6)
            try replace HTB := Lib.hid (HTB.out.below hbK)
            try replace HDU := Lib.hid (HDU.out.below hbK)
            try replace HKU := Lib.hid (HKU.out.below hbK)
            try replace HTW := Lib.hid (HTW.out.below hbK)
            clear hgK hk6
            show Kr _ _
            refine hKr.out _ _ ?_ (fun _ => ?_)
            · exact since_trans hS hbK
            clear hKr Kr
            replace hS : Since w4 wK := since_trans hS hbK
            try simp only [Act.put, List.setIfInBounds_toArray, List.set_cons_zero, List.set_cons_succ]
            refine wpAnyH_ready (rs := [5]) (by kernel_rfl) (by simp) ?_
            refine AllReadyH.cons (o := ⟨some 32, _, _, _, _, _⟩) rfl (fun Kr hKr => ?_) AllReadyH.nil
            -- operation 5: a call
            go_simp
            refine (ex_write A1 a1 D k gu HKK.out _ HTB.out (HX4.out.below hS) HDU.out).mono ?_
            rintro e ww ⟨A6, n6, a6, B6, m6, b6, rfl, htw, haw, hvw⟩
            have HTW := Lib.hid htw
            have HAW := Lib.hid haw
            have HZW := Lib.hid (show _ ≤ _ from hvw.size)
            try replace HK6 := Lib.hid (Bk.below HK6.out hvw)
            clear htw haw
            show Kr _ _
            refine hKr.out _ _ ?_ (fun _ => ?_)
            · exact since_trans hS hvw
            clear hKr Kr
            replace hS : Since w4 ww := since_trans hS hvw
            try simp only [Act.put, List.setIfInBounds_toArray, List.set_cons_zero, List.set_cons_succ]
            refine wpAnyH_take (i := 6) (oi := ⟨some 26, _, _, _, _, _⟩) (v := ?_) rfl (by kernel_rfl) (by kernel_rfl) (by kernel_rfl) (fun _ _ _ h => h) (Or.inl ⟨by rfl, ?_⟩) hS ?_
            rotate_left
            · intro W hW; go_simp; with_reducible rfl
            try simp only [Act.put, List.setIfInBounds_toArray, List.set_cons_zero, List.set_cons_succ]
            refine wpAnyH_take (i := 7) (oi := ⟨some 33, _, _, _, _, _⟩) (v := ?_) rfl (by kernel_rfl) (by kernel_rfl) (by kernel_rfl) (fun _ _ _ h => h) (Or.inl ⟨by rfl, ?_⟩) hS ?_
            rotate_left
            · intro W hW; go_simp; with_reducible rfl
            try simp only [Act.put, List.setIfInBounds_toArray, List.set_cons_zero, List.set_cons_succ]
            refine wpAnyH_take (i := 8) (oi := ⟨some 34, _, _, _, _, _⟩) (v := ?_) rfl (by kernel_rfl) (by kernel_rfl) (by kernel_rfl) (fun _ _ _ h => h) (Or.inl ⟨by rfl, ?_⟩) hS ?_
            rotate_left
            · intro W hW; go_simp; with_reducible rfl
            try simp only [Act.put, List.setIfInBounds_toArray, List.set_cons_zero, List.set_cons_succ]
            refine wpAnyH_ready (rs := [10]) (by kernel_rfl) (by simp) ?_
            refine AllReadyH.cons (o := ⟨none, _, _, _, _, _⟩) rfl (fun Kr hKr => ?_) AllReadyH.nil
            -- operation 10: a step
            have haw6 : Away A6 B6 g6 := HAW.out g6 (by have h1 := HZB.out; have h2 := HZK.out; have h3 := HZU.out; have h4 := HZW.out; have h5 := HZ0.out; have h7 := HZM.out; first | (refine .inr ?_; omega) | (refine .inl ⟨by omega, fun b o e => ?_, fun b o e => by cases e⟩; have h6 := h1.1 b o e; omega))
            refine wp_store_bk 30 (.tmp 6) (.tmp 33) rfl g6 (vtC A6 n6 a6 B6 m6 b6) rfl rfl 30 _ HK6.out (by kernel_rfl) rfl vt_one ?_
            intro wS hkS hgS
            have HKS := Lib.hid (show Bk wS g6 (vtC A6 n6 a6 B6 m6 b6) 30 from hkS)
            have HTS := Lib.hid (HTW.out.off HK6.out vtc_by haw6 ((Turn.refl (fun q => q = g6) _).grown hgS (fun q e => .inl (by injection e with e; exact e.symm))))
            have HSZ := Lib.hid (show w4.heap.size ≤ g6 by have h1 := HZB.out; have h2 := HZK.out; have h3 := HZU.out; have h4 := HZW.out; have h5 := HZ0.out; have h7 := HZM.out; omega)
            clear haw6 hkS
            show Kr _ _
            refine hKr.out _ _ ?_ (fun _ => ?_)
            · exact Below.grown hS hgS hS.size (fun q e => by injection e with e; have := HSZ.out; omega)
            clear hKr Kr
            replace hS : Since w4 wS := Below.grown hS hgS hS.size (fun q e => by injection e with e; have := HSZ.out; omega)
            try simp only [Act.put, List.setIfInBounds_toArray, List.set_cons_zero, List.set_cons_succ]
            refine wpAnyH_take (i := 11) (oi := ⟨some 7, _, _, _, _, _⟩) (v := ?_) rfl (by kernel_rfl) (by kernel_rfl) (by kernel_rfl) (fun _ _ _ h => h) (Or.inl ⟨by rfl, ?_⟩) hS ?_
            rotate_left
            · intro W hW; go_simp; with_reducible rfl
            try simp only [Act.put, List.setIfInBounds_toArray, List.set_cons_zero, List.set_cons_succ]
            refine wpAnyH_done (by kernel_rfl) ?_ _
            have HSS := Lib.hid hS
            clear hS
            go_wp2_with fail
            go_meet
            case rel => exact ⟨g6, A6, n6, a6, B6, m6, b6, rfl, rfl, HKS, HTS, HSS⟩
        · skip
          -- operation 9: a step
          refine wp_alloc_bk 30 rfl #[.slice none 0 0, .slice none 0 0] (by kernel_rfl) ?_
          intro wK g6 hk6 hbK hgK
          have HZK := Lib.hid (And.intro hgK (And.intro (Bk.lt hk6) hbK.size))
          have HK6 := Lib.hid (show Bk wK g6 (vtC none 0 0 none 0 0) 30 from hk6)
          try replace HTB := Lib.hid (HTB.out.below hbK)
          try replace HDU := Lib.hid (HDU.out.below hbK)
          try replace HKU := Lib.hid (HKU.out.below hbK)
          try replace HTW := Lib.hid (HTW.out.below hbK)
          clear hgK hk6
          show Kr _ _
          refine hKr.out _ _ ?_ (fun _ => ?_)
          · exact since_trans hS hbK
          clear hKr Kr
          replace hS : Since w4 wK := since_trans hS hbK
          try simp only [Act.put, List.setIfInBounds_toArray, List.set_cons_zero, List.set_cons_succ]
          refine wpAnyH_ready (rs := [4]) (by kernel_rfl) (by simp) ?_
          refine AllReadyH.cons (o := ⟨some 31, _, _, _, _, _⟩) rfl (fun Kr hKr => ?_) AllReadyH.nil
          -- operation 4: a step
          refine wp_mark (.tmp 30) rfl gu 1 1 rfl ?_
          intro wm halm hgm
          try replace HTB := Lib.hid (HTB.out.alike halm)
          replace HDU := Lib.hid (HDU.out.alike halm)
          try replace HK6 := Lib.hid (Bk.far HK6.out hgm (bk_ne HK6.out HKU.out))
          have HZM := Lib.hid (show _ ≤ _ from halm.s)
          clear halm
          show Kr _ _
          refine hKr.out _ _ ?_ (fun _ => ?_)
          · exact Below.grown hS hgm hS.size (fun q e => by injection e with e; have := HGV.out; omega)
          clear hKr Kr
          replace hS : Since w4 wm := Below.grown hS hgm hS.size (fun q e => by injection e with e; have := HGV.out; omega)
          try simp only [Act.put, List.setIfInBounds_toArray, List.set_cons_zero, List.set_cons_succ]
          refine wpAnyH_ready (rs := [5]) (by kernel_rfl) (by simp) ?_
          refine AllReadyH.cons (o := ⟨some 32, _, _, _, _, _⟩) rfl (fun Kr hKr => ?_) AllReadyH.nil
          -- operation 5: a call
          go_simp
          refine (ex_write A1 a1 D k gu HKK.out _ HTB.out (HX4.out.below hS) HDU.out).mono ?_
          rintro e ww ⟨A6, n6, a6, B6, m6, b6, rfl, htw, haw, hvw⟩
          have HTW := Lib.hid htw
          have HAW := Lib.hid haw
          have HZW := Lib.hid (show _ ≤ _ from hvw.size)
          try replace HK6 := Lib.hid (Bk.below HK6.out hvw)
          clear htw haw
          show Kr _ _
          refine hKr.out _ _ ?_ (fun _ => ?_)
          · exact since_trans hS hvw
          clear hKr Kr
          replace hS : Since w4 ww := since_trans hS hvw
          try simp only [Act.put, List.setIfInBounds_toArray, List.set_cons_zero, List.set_cons_succ]
          refine wpAnyH_take (i := 6) (oi := ⟨some 26, _, _, _, _, _⟩) (v := ?_) rfl (by kernel_rfl) (by kernel_rfl) (by kernel_rfl) (fun _ _ _ h => h) (Or.inl ⟨by rfl, ?_⟩) hS ?_
          rotate_left
          · intro W hW; go_simp; with_reducible rfl
          try simp only [Act.put, List.setIfInBounds_toArray, List.set_cons_zero, List.set_cons_succ]
          refine wpAnyH_take (i := 7) (oi := ⟨some 33, _, _, _, _, _⟩) (v := ?_) rfl (by kernel_rfl) (by kernel_rfl) (by kernel_rfl) (fun _ _ _ h => h) (Or.inl ⟨by rfl, ?_⟩) hS ?_
          rotate_left
          · intro W hW; go_simp; with_reducible rfl
          try simp only [Act.put, List.setIfInBounds_toArray, List.set_cons_zero, List.set_cons_succ]
          refine wpAnyH_take (i := 8) (oi := ⟨some 34, _, _, _, _, _⟩) (v := ?_) rfl (by kernel_rfl) (by kernel_rfl) (by kernel_rfl) (fun _ _ _ h => h) (Or.inl ⟨by rfl, ?_⟩) hS ?_
          rotate_left
          · intro W hW; go_simp; with_reducible rfl
          try simp only [Act.put, List.setIfInBounds_toArray, List.set_cons_zero, List.set_cons_succ]
          refine wpAnyH_ready (rs := [10]) (by kernel_rfl) (by simp) ?_
          refine AllReadyH.cons (o := ⟨none, _, _, _, _, _⟩) rfl (fun Kr hKr => ?_) AllReadyH.nil
          -- operation 10: a step
          have haw6 : Away A6 B6 g6 := HAW.out g6 (by have h1 := HZB.out; have h2 := HZK.out; have h3 := HZU.out; have h4 := HZW.out; have h5 := HZ0.out; have h7 := HZM.out; first | (refine .inr ?_; omega) | (refine .inl ⟨by omega, fun b o e => ?_, fun b o e => by cases e⟩; have h6 := h1.1 b o e; omega))
          refine wp_store_bk 30 (.tmp 6) (.tmp 33) rfl g6 (vtC A6 n6 a6 B6 m6 b6) rfl rfl 30 _ HK6.out (by kernel_rfl) rfl vt_one ?_
          intro wS hkS hgS
          have HKS := Lib.hid (show Bk wS g6 (vtC A6 n6 a6 B6 m6 b6) 30 from hkS)
          have HTS := Lib.hid (HTW.out.off HK6.out vtc_by haw6 ((Turn.refl (fun q => q = g6) _).grown hgS (fun q e => .inl (by injection e with e; exact e.symm))))
          have HSZ := Lib.hid (show w4.heap.size ≤ g6 by have h1 := HZB.out; have h2 := HZK.out; have h3 := HZU.out; have h4 := HZW.out; have h5 := HZ0.out; have h7 := HZM.out; omega)
          clear haw6 hkS
          show Kr _ _
          refine hKr.out _ _ ?_ (fun _ => ?_)
          · exact Below.grown hS hgS hS.size (fun q e => by injection e with e; have := HSZ.out; omega)
          clear hKr Kr
          replace hS : Since w4 wS := Below.grown hS hgS hS.size (fun q e => by injection e with e; have := HSZ.out; omega)
          try simp only [Act.put, List.setIfInBounds_toArray, List.set_cons_zero, List.set_cons_succ]
          refine wpAnyH_take (i := 11) (oi := ⟨some 7, _, _, _, _, _⟩) (v := ?_) rfl (by kernel_rfl) (by kernel_rfl) (by kernel_rfl) (fun _ _ _ h => h) (Or.inl ⟨by rfl, ?_⟩) hS ?_
          rotate_left
          · intro W hW; go_simp; with_reducible rfl
          try simp only [Act.put, List.setIfInBounds_toArray, List.set_cons_zero, List.set_cons_succ]
          refine wpAnyH_done (by kernel_rfl) ?_ _
          have HSS := Lib.hid hS
          clear hS
          go_wp2_with fail
          go_meet
          case rel => exact ⟨g6, A6, n6, a6, B6, m6, b6, rfl, rfl, HKS, HTS, HSS⟩
      · skip
        -- operation 4: a step
        refine wp_mark (.tmp 30) rfl gu 1 1 rfl ?_
        intro wm halm hgm
        try replace HTB := Lib.hid (HTB.out.alike halm)
        replace HDU := Lib.hid (HDU.out.alike halm)
        try replace HK6 := Lib.hid (Bk.far HK6.out hgm (bk_ne HK6.out HKU.out))
        have HZM := Lib.hid (show _ ≤ _ from halm.s)
        clear halm
        show Kr _ _
        refine hKr.out _ _ ?_ (fun _ => ?_)
        · exact Below.grown hS hgm hS.size (fun q e => by injection e with e; have := HGV.out; omega)
        clear hKr Kr
        replace hS : Since w4 wm := Below.grown hS hgm hS.size (fun q e => by injection e with e; have := HGV.out; omega)
        try simp only [Act.put, List.setIfInBounds_toArray, List.set_cons_zero, List.set_cons_succ]
        refine wpAnyH_ready (rs := [0, 9]) (by kernel_rfl) (by simp) ?_
        refine AllReadyH.cons (o := ⟨some 27, _, _, _, _, _⟩) rfl (fun Kr hKr => ?_) (AllReadyH.cons (o := ⟨some 6, _, _, _, _, _⟩) rfl (fun Kr hKr => ?_) AllReadyH.nil)
        · skip
          -- operation 0: a call
          go_simp
          refine (blank_any 2 (by omega) _).mono ?_
          rintro e wb ⟨A1, a1, rfl, ht1, hab, hvb⟩
          have HTB := Lib.hid (show VtAt RVo wb A1 2 a1 none 0 0 exT from ht1)
          have HZB := Lib.hid (show (∀ b o, A1 = some ⟨b, o, none⟩ → _ ≤ b ∧ b < _) ∧ _ ≤ _ from ⟨fun b o e => ⟨hab b o e, by obtain ⟨ss, hss⟩ := ht1.base; rcases hss.at_.lt b o e with h | h; (have h9 := hss.l; rw [h] at h9; simp at h9); exact h⟩, hvb.size⟩)
          try replace HDU := Lib.hid (HDU.out.below hvb)
          try replace HKU := Lib.hid (HKU.out.below hvb)
          try replace HK6 := Lib.hid (Bk.below HK6.out hvb)
          clear ht1 hab
          show Kr _ _
          refine hKr.out _ _ ?_ (fun _ => ?_)
          · exact since_trans hS hvb
          clear hKr Kr
          replace hS : Since w4 wb := since_trans hS hvb
          try simp only [Act.put, List.setIfInBounds_toArray, List.set_cons_zero, List.set_cons_succ]
          refine wpAnyH_ready (rs := [5, 9]) (by kernel_rfl) (by simp) ?_
          refine AllReadyH.cons (o := ⟨some 32, _, _, _, _, _⟩) rfl (fun Kr hKr => ?_) (AllReadyH.cons (o := ⟨some 6, _, _, _, _, _⟩) rfl (fun Kr hKr => ?_) AllReadyH.nil)
          · skip
            -- operation 5: a call
            go_simp
            refine (ex_write A1 a1 D k gu HKK.out _ HTB.out (HX4.out.below hS) HDU.out).mono ?_
            rintro e ww ⟨A6, n6, a6, B6, m6, b6, rfl, htw, haw, hvw⟩
            have HTW := Lib.hid htw
            have HAW := Lib.hid haw
            have HZW := Lib.hid (show _ ≤ _ from hvw.size)
            try replace HK6 := Lib.hid (Bk.below HK6.out hvw)
            clear htw haw
            show Kr _ _
            refine hKr.out _ _ ?_ (fun _ => ?_)
            · exact since_trans hS hvw
            clear hKr Kr
            replace hS : Since w4 ww := since_trans hS hvw
            try simp only [Act.put, List.setIfInBounds_toArray, List.set_cons_zero, List.set_cons_succ]
            refine wpAnyH_take (i := 6) (oi := ⟨some 26, _, _, _, _, _⟩) (v := ?_) rfl (by kernel_rfl) (by kernel_rfl) (by kernel_rfl) (fun _ _ _ h => h) (Or.inl ⟨by rfl, ?_⟩) hS ?_
            rotate_left
            · intro W hW; go_simp; with_reducible rfl
            try simp only [Act.put, List.setIfInBounds_toArray, List.set_cons_zero, List.set_cons_succ]
            refine wpAnyH_take (i := 7) (oi := ⟨some 33, _, _, _, _, _⟩) (v := ?_) rfl (by kernel_rfl) (by kernel_rfl) (by kernel_rfl) (fun _ _ _ h => h) (Or.inl ⟨by rfl, ?_⟩) hS ?_
            rotate_left
            · intro W hW; go_simp; with_reducible rfl
            try simp only [Act.put, List.setIfInBounds_toArray, List.set_cons_zero, List.set_cons_succ]
            refine wpAnyH_take (i := 8) (oi := ⟨some 34, _, _, _, _, _⟩) (v := ?_) rfl (by kernel_rfl) (by kernel_rfl) (by kernel_rfl) (fun _ _ _ h => h) (Or.inl ⟨by rfl, ?_⟩) hS ?_
            rotate_left
            · intro W hW; go_simp; with_reducible rfl
            try simp only [Act.put, List.setIfInBounds_toArray, List.set_cons_zero, List.set_cons_succ]
            refine wpAnyH_ready (rs := [9]) (by kernel_rfl) (by simp) ?_
            refine AllReadyH.cons (o := ⟨some 6, _, _, _, _, _⟩) rfl (fun Kr hKr => ?_) AllReadyH.nil
            -- operation 9: a step
            refine wp_alloc_bk 30 rfl #[.slice none 0 0, .slice none 0 0] (by kernel_rfl) ?_
            intro wK g6 hk6 hbK hgK
            have HZK := Lib.hid (And.intro hgK (And.intro (Bk.lt hk6) hbK.size))
            have HK6 := Lib.hid (show Bk wK g6 (vtC none 0 0 none 0 0) 30 from hk6)
            try replace HTB := Lib.hid (HTB.out.below hbK)
            try replace HDU := Lib.hid (HDU.out.below hbK)
            try replace HKU := Lib.hid (HKU.out.below hbK)
            try replace HTW := Lib.hid (HTW.out.below hbK)
            clear hgK hk6
            show Kr _ _
            refine hKr.out _ _ ?_ (fun _ => ?_)
            · exact since_trans hS hbK
            clear hKr Kr
            replace hS : Since w4 wK := since_trans hS hbK
            try simp only [Act.put, List.setIfInBounds_toArray, List.set_cons_zero, List.set_cons_succ]
            refine wpAnyH_ready (rs := [10]) (by kernel_rfl) (by simp) ?_
            refine AllReadyH.cons (o := ⟨none, _, _, _, _, _⟩) rfl (fun Kr hKr => ?_) AllReadyH.nil
            -- operation 10: a step
            have haw6 : Away A6 B6 g6 := HAW.out g6 (by have h1 := HZB.out; have h2 := HZK.out; have h3 := HZU.out; have h4 := HZW.out; have h5 := HZ0.out; have h7 := HZM.out; first | (refine .inr ?_; omega) | (refine .inl ⟨by omega, fun b o e => ?_, fun b o e => by cases e⟩; have h6 := h1.1 b o e; omega))
            refine wp_store_bk 30 (.tmp 6) (.tmp 33) rfl g6 (vtC A6 n6 a6 B6 m6 b6) rfl rfl 30 _ HK6.out (by kernel_rfl) rfl vt_one ?_
            intro wS hkS hgS
            have HKS := Lib.hid (show Bk wS g6 (vtC A6 n6 a6 B6 m6 b6) 30 from hkS)
            have HTS := Lib.hid (HTW.out.off HK6.out vtc_by haw6 ((Turn.refl (fun q => q = g6) _).grown hgS (fun q e => .inl (by injection e with e; exact e.symm))))
            have HSZ := Lib.hid (show w4.heap.size ≤ g6 by have h1 := HZB.out; have h2 := HZK.out; have h3 := HZU.out; have h4 := HZW.out; have h5 := HZ0.out; have h7 := HZM.out; omega)
            clear haw6 hkS
            show Kr _ _
            refine hKr.out _ _ ?_ (fun _ => ?_)
            · exact Below.grown hS hgS hS.size (fun q e => by injection e with e; have := HSZ.out; omega)
            clear hKr Kr
            replace hS : Since w4 wS := Below.grown hS hgS hS.size (fun q e => by injection e with e; have := HSZ.out; omega)
            try simp only [Act.put, List.setIfInBounds_toArray, List.set_cons_zero, List.set_cons_succ]
            refine wpAnyH_take (i := 11) (oi := ⟨some 7, _, _, _, _, _⟩) (v := ?_) rfl (by kernel_rfl) (by kernel_rfl) (by kernel_rfl) (fun _ _ _ h => h) (Or.inl ⟨by rfl, ?_⟩) hS ?_
            rotate_left
            · intro W hW; go_simp; with_reducible rfl
            try simp only [Act.put, List.setIfInBounds_toArray, List.set_cons_zero, List.set_cons_succ]
            refine wpAnyH_done (by kernel_rfl) ?_ _
            have HSS := Lib.hid hS
            clear hS
            go_wp2_with fail
            go_meet
            case rel => exact ⟨g6, A6, n6, a6, B6, m6, b6, rfl, rfl, HKS, HTS, HSS⟩
          · skip
            -- operation 9: a step
            refine wp_alloc_bk 30 rfl #[.slice none 0 0, .slice none 0 0] (by kernel_rfl) ?_
            intro wK g6 hk6 hbK hgK
            have HZK := Lib.hid (And.intro hgK (And.intro (Bk.lt hk6) hbK.size))
            have HK6 := Lib.hid (show Bk wK g6 (vtC none 0 0 none 0 0) 30 from hk6)
            try replace HTB := Lib.hid (HTB.out.below hbK)
            try replace HDU := Lib.hid (HDU.out.below hbK)
            try replace HKU := Lib.hid (HKU.out.below hbK)
            try replace HTW := Lib.hid (HTW.out.below hbK)
            clear hgK hk6
            show Kr _ _
            refine hKr.out _ _ ?_ (fun _ => ?_)
            · exact since_trans hS hbK
            clear hKr Kr
            replace hS : Since w4 wK := since_trans hS hbK
            try simp only [Act.put, List.setIfInBounds_toArray, List.set_cons_zero, List.set_cons_succ]
            refine wpAnyH_ready (rs := [5]) (by kernel_rfl) (by simp) ?_
            refine AllReadyH.cons (o := ⟨some 32, _, _, _, _, _⟩) rfl (fun Kr hKr => ?_) AllReadyH.nil
            -- operation 5: a call
            go_simp
            refine (ex_write A1 a1 D k gu HKK.out _ HTB.out (HX4.out.below hS) HDU.out).mono ?_
            rintro e ww ⟨A6, n6, a6, B6, m6, b6, rfl, htw, haw, hvw⟩
            have HTW := Lib.hid htw
            have HAW := Lib.hid haw
            have HZW := Lib.hid (show _ ≤ _ from hvw.size)
            try replace HK6 := Lib.hid (Bk.below HK6.out hvw)
            clear htw haw
            show Kr _ _
            refine hKr.out _ _ ?_ (fun _ => ?_)
            · exact since_trans hS hvw
            clear hKr Kr
            replace hS : Since w4 ww := since_trans hS hvw
            try simp only [Act.put, List.setIfInBounds_toArray, List.set_cons_zero, List.set_cons_succ]
            refine wpAnyH_take (i := 6) (oi := ⟨some 26, _, _, _, _, _⟩) (v := ?_) rfl (by kernel_rfl) (by kernel_rfl) (by kernel_rfl) (fun _ _ _ h => h) (Or.inl ⟨by rfl, ?_⟩) hS ?_
            rotate_left
            · intro W hW; go_simp; with_reducible rfl
            try simp only [Act.put, List.setIfInBounds_toArray, List.set_cons_zero, List.set_cons_succ]
            refine wpAnyH_take (i := 7) (oi := ⟨some 33, _, _, _, _, _⟩) (v := ?_) rfl (by kernel_rfl) (by kernel_rfl) (by kernel_rfl) (fun _ _ _ h => h) (Or.inl ⟨by rfl, ?_⟩) hS ?_
            rotate_left
            · intro W hW; go_simp; with_reducible rfl
            try simp only [Act.put, List.setIfInBounds_toArray, List.set_cons_zero, List.set_cons_succ]
            refine wpAnyH_take (i := 8) (oi := ⟨some 34, _, _, _, _, _⟩) (v := ?_) rfl (by kernel_rfl) (by kernel_rfl) (by kernel_rfl) (fun _ _ _ h => h) (Or.inl ⟨by rfl, ?_⟩) hS ?_
            rotate_left
            · intro W hW; go_simp; with_reducible rfl
            try simp only [Act.put, List.setIfInBounds_toArray, List.set_cons_zero, List.set_cons_succ]
            refine wpAnyH_ready (rs := [10]) (by kernel_rfl) (by simp) ?_
            refine AllReadyH.cons (o := ⟨none, _, _, _, _, _⟩) rfl (fun Kr hKr => ?_) AllReadyH.nil
            -- operation 10: a step
            have haw6 : Away A6 B6 g6 := HAW.out g6 (by have h1 := HZB.out; have h2 := HZK.out; have h3 := HZU.out; have h4 := HZW.out; have h5 := HZ0.out; have h7 := HZM.out; first | (refine .inr ?_; omega) | (refine .inl ⟨by omega, fun b o e => ?_, fun b o e => by cases e⟩; have h6 := h1.1 b o e; omega))
            refine wp_store_bk 30 (.tmp 6) (.tmp 33) rfl g6 (vtC A6 n6 a6 B6 m6 b6) rfl rfl 30 _ HK6.out (by kernel_rfl) rfl vt_one ?_
            intro wS hkS hgS
            have HKS := Lib.hid (show Bk wS g6 (vtC A6 n6 a6 B6 m6 b6) 30 from hkS)
            have HTS := Lib.hid (HTW.out.off HK6.out vtc_by haw6 ((Turn.refl (fun q => q = g6) _).grown hgS (fun q e => .inl (by injection e with e; exact e.symm))))
            have HSZ := Lib.hid (show w4.heap.size ≤ g6 by have h1 := HZB.out; have h2 := HZK.out; have h3 := HZU.out; have h4 := HZW.out; have h5 := HZ0.out; have h7 := HZM.out; omega)
            clear haw6 hkS
            show Kr _ _
            refine hKr.out _ _ ?_ (fun _ => ?_)
            · exact Below.grown hS hgS hS.size (fun q e => by injection e with e; have := HSZ.out; omega)
            clear hKr Kr
            replace hS : Since w4 wS := Below.grown hS hgS hS.size (fun q e => by injection e with e; have := HSZ.out; omega)
            try simp only [Act.put, List.setIfInBounds_toArray, List.set_cons_zero, List.set_cons_succ]
            refine wpAnyH_take (i := 11) (oi := ⟨some 7, _, _, _, _, _⟩) (v := ?_) rfl (by kernel_rfl) (by kernel_rfl) (by kernel_rfl) (fun _ _ _ h => h) (Or.inl ⟨by rfl, ?_⟩) hS ?_
            rotate_left
            · intro W hW; go_simp; with_reducible rfl
            try simp only [Act.put, List.setIfInBounds_toArray, List.set_cons_zero, List.set_cons_succ]
            refine wpAnyH_done (by kernel_rfl) ?_ _
            have HSS := Lib.hid hS
            clear hS
            go_wp2_with fail
            go_meet
            case rel => exact ⟨g6, A6, n6, a6, B6, m6, b6, rfl, rfl, HKS, HTS, HSS⟩
        · skip
          -- operation 9: a step
          refine wp_alloc_bk 30 rfl #[.slice none 0 0, .slice none 0 0] (by kernel_rfl) ?_
          intro wK g6 hk6 hbK hgK
          have HZK := Lib.hid (And.intro hgK (And.intro (Bk.lt hk6) hbK.size))
          have HK6 := Lib.hid (show Bk wK g6 (vtC none 0 0 none 0 0) 30 from hk6)
          try replace HTB := Lib.hid (HTB.out.below hbK)
          try replace HDU := Lib.hid (HDU.out.below hbK)
          try replace HKU := Lib.hid (HKU.out.below hbK)
          try replace HTW := Lib.hid (HTW.out.below hbK)
          clear hgK hk6
          show Kr _ _
          refine hKr.out _ _ ?_ (fun _ => ?_)
          · exact since_trans hS hbK
          clear hKr Kr
          replace hS : Since w4 wK := since_trans hS hbK
          try simp only [Act.put, List.setIfInBounds_toArray, List.set_cons_zero, List.set_cons_succ]
          refine wpAnyH_ready (rs := [0]) (by kernel_rfl) (by simp) ?_
          refine AllReadyH.cons (o := ⟨some 27, _, _, _, _, _⟩) rfl (fun Kr hKr => ?_) AllReadyH.nil
          -- operation 0: a call
          go_simp
          refine (blank_any 2 (by omega) _).mono ?_
          rintro e wb ⟨A1, a1, rfl, ht1, hab, hvb⟩
          have HTB := Lib.hid (show VtAt RVo wb A1 2 a1 none 0 0 exT from ht1)
          have HZB := Lib.hid (show (∀ b o, A1 = some ⟨b, o, none⟩ → _ ≤ b ∧ b < _) ∧ _ ≤ _ from ⟨fun b o e => ⟨hab b o e, by obtain ⟨ss, hss⟩ := ht1.base; rcases hss.at_.lt b o e with h | h; (have h9 := hss.l; rw [h] at h9; simp at h9); exact h⟩, hvb.size⟩)
          try replace HDU := Lib.hid (HDU.out.below hvb)
          try replace HKU := Lib.hid (HKU.out.below hvb)
          try replace HK6 := Lib.hid (Bk.below HK6.out hvb)
          clear ht1 hab
          show Kr _ _
          refine hKr.out _ _ ?_ (fun _ => ?_)
          · exact since_trans hS hvb
          clear hKr Kr
          replace hS : Since w4 wb := since_trans hS hvb
          try simp only [Act.put, List.setIfInBounds_toArray, List.set_cons_zero, List.set_cons_succ]
          refine wpAnyH_ready (rs := [5]) (by kernel_rfl) (by simp) ?_
          refine AllReadyH.cons (o := ⟨some 32, _, _, _, _, _⟩) rfl (fun Kr hKr => ?_) AllReadyH.nil
          -- operation 5: a call
          go_simp
          refine (ex_write A1 a1 D k gu HKK.out _ HTB.out (HX4.out.below hS) HDU.out).mono ?_
          rintro e ww ⟨A6, n6, a6, B6, m6, b6, rfl, htw, haw, hvw⟩
          have HTW := Lib.hid htw
          have HAW := Lib.hid haw
          have HZW := Lib.hid (show _ ≤ _ from hvw.size)
          try replace HK6 := Lib.hid (Bk.below HK6.out hvw)
          clear htw haw
          show Kr _ _
          refine hKr.out _ _ ?_ (fun _ => ?_)
          · exact since_trans hS hvw
          clear hKr Kr
          replace hS : Since w4 ww := since_trans hS hvw
          try simp only [Act.put, List.setIfInBounds_toArray, List.set_cons_zero, List.set_cons_succ]
          refine wpAnyH_take (i := 6) (oi := ⟨some 26, _, _, _, _, _⟩) (v := ?_) rfl (by kernel_rfl) (by kernel_rfl) (by kernel_rfl) (fun _ _ _ h => h) (Or.inl ⟨by rfl, ?_⟩) hS ?_
          rotate_left
          · intro W hW; go_simp; with_reducible rfl
          try simp only [Act.put, List.setIfInBounds_toArray, List.set_cons_zero, List.set_cons_succ]
          refine wpAnyH_take (i := 7) (oi := ⟨some 33, _, _, _, _, _⟩) (v := ?_) rfl (by kernel_rfl) (by kernel_rfl) (by kernel_rfl) (fun _ _ _ h => h) (Or.inl ⟨by rfl, ?_⟩) hS ?_
          rotate_left
          · intro W hW; go_simp; with_reducible rfl
          try simp only [Act.put, List.setIfInBounds_toArray, List.set_cons_zero, List.set_cons_succ]
          refine wpAnyH_take (i := 8) (oi := ⟨some 34, _, _, _, _, _⟩) (v := ?_) rfl (by kernel_rfl) (by kernel_rfl) (by kernel_rfl) (fun _ _ _ h => h) (Or.inl ⟨by rfl, ?_⟩) hS ?_
          rotate_left
          · intro W hW; go_simp; with_reducible rfl
          try simp only [Act.put, List.setIfInBounds_toArray, List.set_cons_zero, List.set_cons_succ]
          refine wpAnyH_ready (rs := [10]) (by kernel_rfl) (by simp) ?_
          refine AllReadyH.cons (o := ⟨none, _, _, _, _, _⟩) rfl (fun Kr hKr => ?_) AllReadyH.nil
          -- operation 10: a step
          have haw6 : Away A6 B6 g6 := HAW.out g6 (by have h1 := HZB.out; have h2 := HZK.out; have h3 := HZU.out; have h4 := HZW.out; have h5 := HZ0.out; have h7 := HZM.out; first | (refine .inr ?_; omega) | (refine .inl ⟨by omega, fun b o e => ?_, fun b o e => by cases e⟩; have h6 := h1.1 b o e; omega))
          refine wp_store_bk 30 (.tmp 6) (.tmp 33) rfl g6 (vtC A6 n6 a6 B6 m6 b6) rfl rfl 30 _ HK6.out (by kernel_rfl) rfl vt_one ?_
          intro wS hkS hgS
          have HKS := Lib.hid (show Bk wS g6 (vtC A6 n6 a6 B6 m6 b6) 30 from hkS)
          have HTS := Lib.hid (HTW.out.off HK6.out vtc_by haw6 ((Turn.refl (fun q => q = g6) _).grown hgS (fun q e => .inl (by injection e with e; exact e.symm))))
          have HSZ := Lib.hid (show w4.heap.size ≤ g6 by have h1 := HZB.out; have h2 := HZK.out; have h3 := HZU.out; have h4 := HZW.out; have h5 := HZ0.out; have h7 := HZM.out; omega)
          clear haw6 hkS
          show Kr _ _
          refine hKr.out _ _ ?_ (fun _ => ?_)
          · exact Below.grown hS hgS hS.size (fun q e => by injection e with e; have := HSZ.out; omega)
          clear hKr Kr
          replace hS : Since w4 wS := Below.grown hS hgS hS.size (fun q e => by injection e with e; have := HSZ.out; omega)
          try simp only [Act.put, List.setIfInBounds_toArray, List.set_cons_zero, List.set_cons_succ]
          refine wpAnyH_take (i := 11) (oi := ⟨some 7, _, _, _, _, _⟩) (v := ?_) rfl (by kernel_rfl) (by kernel_rfl) (by kernel_rfl) (fun _ _ _ h => h) (Or.inl ⟨by rfl, ?_⟩) hS ?_
          rotate_left
          · intro W hW; go_simp; with_reducible rfl
          try simp only [Act.put, List.setIfInBounds_toArray, List.set_cons_zero, List.set_cons_succ]
          refine wpAnyH_done (by kernel_rfl) ?_ _
          have HSS := Lib.hid hS
          clear hS
          go_wp2_with fail
          go_meet
          case rel => exact ⟨g6, A6, n6, a6, B6, m6, b6, rfl, rfl, HKS, HTS, HSS⟩
      · skip
        -- operation 9: a step
        refine wp_alloc_bk 30 rfl #[.slice none 0 0, .slice none 0 0] (by kernel_rfl) ?_
        intro wK g6 hk6 hbK hgK
        have HZK := Lib.hid (And.intro hgK (And.intro (Bk.lt hk6) hbK.size))
        have HK6 := Lib.hid (show Bk wK g6 (vtC none 0 0 none 0 0) 30 from hk6)
        try replace HTB := Lib.hid (HTB.out.below hbK)
        try replace HDU := Lib.hid (HDU.out.below hbK)
        try replace HKU := Lib.hid (HKU.out.below hbK)
        try replace HTW := Lib.hid (HTW.out.below hbK)
        clear hgK hk6
        show Kr _ _
        refine hKr.out _ _ ?_ (fun _ => ?_)
        · exact since_trans hS hbK
        clear hKr Kr
        replace hS : Since w4 wK := since_trans hS hbK
        try simp only [Act.put, List.setIfInBounds_toArray, List.set_cons_zero, List.set_cons_succ]
        refine wpAnyH_ready (rs := [0, 4]) (by kernel_rfl) (by simp) ?_
        refine AllReadyH.cons (o := ⟨some 27, _, _, _, _, _⟩) rfl (fun Kr hKr => ?_) (AllReadyH.cons (o := ⟨some 31, _, _, _, _, _⟩) rfl (fun Kr hKr => ?_) AllReadyH.nil)
        · skip
          -- operation 0: a call
          go_simp
          refine (blank_any 2 (by omega) _).mono ?_
          rintro e wb ⟨A1, a1, rfl, ht1, hab, hvb⟩
          have HTB := Lib.hid (show VtAt RVo wb A1 2 a1 none 0 0 exT from ht1)
          have HZB := Lib.hid (show (∀ b o, A1 = some ⟨b, o, none⟩ → _ ≤ b ∧ b < _) ∧ _ ≤ _ from ⟨fun b o e => ⟨hab b o e, by obtain ⟨ss, hss⟩ := ht1.base; rcases hss.at_.lt b o e with h | h; (have h9 := hss.l; rw [h] at h9; simp at h9); exact h⟩, hvb.size⟩)
          try replace HDU := Lib.hid (HDU.out.below hvb)
          try replace HKU := Lib.hid (HKU.out.below hvb)
          try replace HK6 := Lib.hid (Bk.below HK6.out hvb)
          clear ht1 hab
          show Kr _ _
          refine hKr.out _ _ ?_ (fun _ => ?_)
          · exact since_trans hS hvb
          clear hKr Kr
          replace hS : Since w4 wb := since_trans hS hvb
          try simp only [Act.put, List.setIfInBounds_toArray, List.set_cons_zero, List.set_cons_succ]
          refine wpAnyH_ready (rs := [4]) (by kernel_rfl) (by simp) ?_
          refine AllReadyH.cons (o := ⟨some 31, _, _, _, _, _⟩) rfl (fun Kr hKr => ?_) AllReadyH.nil
          -- operation 4: a step
          refine wp_mark (.tmp 30) rfl gu 1 1 rfl ?_
          intro wm halm hgm
          try replace HTB := Lib.hid (HTB.out.alike halm)
          replace HDU := Lib.hid (HDU.out.alike halm)
          try replace HK6 := Lib.hid (Bk.far HK6.out hgm (bk_ne HK6.out HKU.out))
          have HZM := Lib.hid (show _ ≤ _ from halm.s)
          clear halm
          show Kr _ _
          refine hKr.out _ _ ?_ (fun _ => ?_)
          · exact Below.grown hS hgm hS.size (fun q e => by injection e with e; have := HGV.out; omega)
          clear hKr Kr
          replace hS : Since w4 wm := Below.grown hS hgm hS.size (fun q e => by injection e with e; have := HGV.out; omega)
          try simp only [Act.put, List.setIfInBounds_toArray, List.set_cons_zero, List.set_cons_succ]
          refine wpAnyH_ready (rs := [5]) (by kernel_rfl) (by simp) ?_
          refine AllReadyH.cons (o := ⟨some 32, _, _, _, _, _⟩) rfl (fun Kr hKr => ?_) AllReadyH.nil
          -- operation 5: a call
          go_simp
          refine (ex_write A1 a1 D k gu HKK.out _ HTB.out (HX4.out.below hS) HDU.out).mono ?_
          rintro e ww ⟨A6, n6, a6, B6, m6, b6, rfl, htw, haw, hvw⟩
          have HTW := Lib.hid htw
          have HAW := Lib.hid haw
          have HZW := Lib.hid (show _ ≤ _ from hvw.size)
          try replace HK6 := Lib.hid (Bk.below HK6.out hvw)
          clear htw haw
          show Kr _ _
          refine hKr.out _ _ ?_ (fun _ => ?_)
          · exact since_trans hS hvw
          clear hKr Kr
          replace hS : Since w4 ww := since_trans hS hvw
          try simp only [Act.put, List.setIfInBounds_toArray, List.set_cons_zero, List.set_cons_succ]
          refine wpAnyH_take (i := 6) (oi := ⟨some 26, _, _, _, _, _⟩) (v := ?_) rfl (by kernel_rfl) (by kernel_rfl) (by kernel_rfl) (fun _ _ _ h => h) (Or.inl ⟨by rfl, ?_⟩) hS ?_
          rotate_left
          · intro W hW; go_simp; with_reducible rfl
          try simp only [Act.put, List.setIfInBounds_toArray, List.set_cons_zero, List.set_cons_succ]
          refine wpAnyH_take (i := 7) (oi := ⟨some 33, _, _, _, _, _⟩) (v := ?_) rfl (by kernel_rfl) (by kernel_rfl) (by kernel_rfl) (fun _ _ _ h => h) (Or.inl ⟨by rfl, ?_⟩) hS ?_
          rotate_left
          · intro W hW; go_simp; with_reducible rfl
          try simp only [Act.put, List.setIfInBounds_toArray, List.set_cons_zero, List.set_cons_succ]
          refine wpAnyH_take (i := 8) (oi := ⟨some 34, _, _, _, _, _⟩) (v := ?_) rfl (by kernel_rfl) (by kernel_rfl) (by kernel_rfl) (fun _ _ _ h => h) (Or.inl ⟨by rfl, ?_⟩) hS ?_
          rotate_left
          · intro W hW; go_simp; with_reducible rfl
          try simp only [Act.put, List.setIfInBounds_toArray, List.set_cons_zero, List.set_cons_succ]
          refine wpAnyH_ready (rs := [10]) (by kernel_rfl) (by simp) ?_
          refine AllReadyH.cons (o := ⟨none, _, _, _, _, _⟩) rfl (fun Kr hKr => ?_) AllReadyH.nil
          -- operation 10: a step
          have haw6 : Away A6 B6 g6 := HAW.out g6 (by have h1 := HZB.out; have h2 := HZK.out; have h3 := HZU.out; have h4 := HZW.out; have h5 := HZ0.out; have h7 := HZM.out; first | (refine .inr ?_; omega) | (refine .inl ⟨by omega, fun b o e => ?_, fun b o e => by cases e⟩; have h6 := h1.1 b o e; omega))
          refine wp_store_bk 30 (.tmp 6) (.tmp 33) rfl g6 (vtC A6 n6 a6 B6 m6 b6) rfl rfl 30 _ HK6.out (by kernel_rfl) rfl vt_one ?_
          intro wS hkS hgS
          have HKS := Lib.hid (show Bk wS g6 (vtC A6 n6 a6 B6 m6 b6) 30 from hkS)
          have HTS := Lib.hid (HTW.out.off HK6.out vtc_by haw6 ((Turn.refl (fun q => q = g6) _).grown hgS (fun q e => .inl (by injection e with e; exact e.symm))))
          have HSZ := Lib.hid (show w4.heap.size ≤ g6 by have h1 := HZB.out; have h2 := HZK.out; have h3 := HZU.out; have h4 := HZW.out; have h5 := HZ0.out; have h7 := HZM.out; omega)
          clear haw6 hkS
          show Kr _ _
          refine hKr.out _ _ ?_ (fun _ => ?_)
          · exact Below.grown hS hgS hS.size (fun q e => by injection e with e; have := HSZ.out; omega)
          clear hKr Kr
          replace hS : Since w4 wS := Below.grown hS hgS hS.size (fun q e => by injection e with e; have := HSZ.out; omega)
          try simp only [Act.put, List.setIfInBounds_toArray, List.set_cons_zero, List.set_cons_succ]
          refine wpAnyH_take (i := 11) (oi := ⟨some 7, _, _, _, _, _⟩) (v := ?_) rfl (by kernel_rfl) (by kernel_rfl) (by kernel_rfl) (fun _ _ _ h => h) (Or.inl ⟨by rfl, ?_⟩) hS ?_
          rotate_left
          · intro W hW; go_simp; with_reducible rfl
          try simp only [Act.put, List.setIfInBounds_toArray, List.set_cons_zero, List.set_cons_succ]
          refine wpAnyH_done (by kernel_rfl) ?_ _
          have HSS := Lib.hid hS
          clear hS
          go_wp2_with fail
          go_meet
          case rel => exact ⟨g6, A6, n6, a6, B6, m6, b6, rfl, rfl, HKS, HTS, HSS⟩
        · skip
          -- operation 4: a step
          refine wp_mark (.tmp 30) rfl gu 1 1 rfl ?_
          intro wm halm hgm
          try replace HTB := Lib.hid (HTB.out.alike halm)
          replace HDU := Lib.hid (HDU.out.alike halm)
          try replace HK6 := Lib.hid (Bk.far HK6.out hgm (bk_ne HK6.out HKU.out))
          have HZM := Lib.hid (show _ ≤ _ from halm.s)
          clear halm
          show Kr _ _
          refine hKr.out _ _ ?_ (fun _ => ?_)
          · exact Below.grown hS hgm hS.size (fun q e => by injection e with e; have := HGV.out; omega)
          clear hKr Kr
          replace hS : Since w4 wm := Below.grown hS hgm hS.size (fun q e => by injection e with e; have := HGV.out; omega)
          try simp only [Act.put, List.setIfInBounds_toArray, List.set_cons_zero, List.set_cons_succ]
          refine wpAnyH_ready (rs := [0]) (by kernel_rfl) (by simp) ?_
          refine AllReadyH.cons (o := ⟨some 27, _, _, _, _, _⟩) rfl (fun Kr hKr => ?_) AllReadyH.nil
          -- operation 0: a call
          go_simp
          refine (blank_any 2 (by omega) _).mono ?_
          rintro e wb ⟨A1, a1, rfl, ht1, hab, hvb⟩
          have HTB := Lib.hid (show VtAt RVo wb A1 2 a1 none 0 0 exT from ht1)
          have HZB := Lib.hid (show (∀ b o, A1 = some ⟨b, o, none⟩ → _ ≤ b ∧ b < _) ∧ _ ≤ _ from ⟨fun b o e => ⟨hab b o e, by obtain ⟨ss, hss⟩ := ht1.base; rcases hss.at_.lt b o e with h | h; (have h9 := hss.l; rw [h] at h9; simp at h9); exact h⟩, hvb.size⟩)
          try replace HDU := Lib.hid (HDU.out.below hvb)
          try replace HKU := Lib.hid (HKU.out.below hvb)
          try replace HK6 := Lib.hid (Bk.below HK6.out hvb)
          clear ht1 hab
          show Kr _ _
          refine hKr.out _ _ ?_ (fun _ => ?_)
          · exact since_trans hS hvb
          clear hKr Kr
          replace hS : Since w4 wb := since_trans hS hvb
          try simp only [Act.put, List.setIfInBounds_toArray, List.set_cons_zero, List.set_cons_succ]
          refine wpAnyH_ready (rs := [5]) (by kernel_rfl) (by simp) ?_
          refine AllReadyH.cons (o := ⟨some 32, _, _, _, _, _⟩) rfl (fun Kr hKr => ?_) AllReadyH.nil
          -- operation 5: a call
          go_simp
          refine (ex_write A1 a1 D k gu HKK.out _ HTB.out (HX4.out.below hS) HDU.out).mono ?_
          rintro e ww ⟨A6, n6, a6, B6, m6, b6, rfl, htw, haw, hvw⟩
          have HTW := Lib.hid htw
          have HAW := Lib.hid haw
          have HZW := Lib.hid (show _ ≤ _ from hvw.size)
          try replace HK6 := Lib.hid (Bk.below HK6.out hvw)
          clear htw haw
          show Kr _ _
          refine hKr.out _ _ ?_ (fun _ => ?_)
          · exact since_trans hS hvw
          clear hKr Kr
          replace hS : Since w4 ww := since_trans hS hvw
          try simp only [Act.put, List.setIfInBounds_toArray, List.set_cons_zero, List.set_cons_succ]
          refine wpAnyH_take (i := 6) (oi := ⟨some 26, _, _, _, _, _⟩) (v := ?_) rfl (by kernel_rfl) (by kernel_rfl) (by kernel_rfl) (fun _ _ _ h => h) (Or.inl ⟨by rfl, ?_⟩) hS ?_
          rotate_left
          · intro W hW; go_simp; with_reducible rfl
          try simp only [Act.put, List.setIfInBounds_toArray, List.set_cons_zero, List.set_cons_succ]
          refine wpAnyH_take (i := 7) (oi := ⟨some 33, _, _, _, _, _⟩) (v := ?_) rfl (by kernel_rfl) (by kernel_rfl) (by kernel_rfl) (fun _ _ _ h => h) (Or.inl ⟨by rfl, ?_⟩) hS ?_
          rotate_left
          · intro W hW; go_simp; with_reducible rfl
          try simp only [Act.put, List.setIfInBounds_toArray, List.set_cons_zero, List.set_cons_succ]
          refine wpAnyH_take (i := 8) (oi := ⟨some 34, _, _, _, _, _⟩) (v := ?_) rfl (by kernel_rfl) (by kernel_rfl) (by kernel_rfl) (fun _ _ _ h => h) (Or.inl ⟨by rfl, ?_⟩) hS ?_
          rotate_left
          · intro W hW; go_simp; with_reducible rfl
          try simp only [Act.put, List.setIfInBounds_toArray, List.set_cons_zero, List.set_cons_succ]
          refine wpAnyH_ready (rs := [10]) (by kernel_rfl) (by simp) ?_
          refine AllReadyH.cons (o := ⟨none, _, _, _, _, _⟩) rfl (fun Kr hKr => ?_) AllReadyH.nil
          -- operation 10: a step
          have haw6 : Away A6 B6 g6 := HAW.out g6 (by have h1 := HZB.out; have h2 := HZK.out; have h3 := HZU.out; have h4 := HZW.out; have h5 := HZ0.out; have h7 := HZM.out; first | (refine .inr ?_; omega) | (refine .inl ⟨by omega, fun b o e => ?_, fun b o e => by cases e⟩; have h6 := h1.1 b o e; omega))
          refine wp_store_bk 30 (.tmp 6) (.tmp 33) rfl g6 (vtC A6 n6 a6 B6 m6 b6) rfl rfl 30 _ HK6.out (by kernel_rfl) rfl vt_one ?_
          intro wS hkS hgS
          have HKS := Lib.hid (show Bk wS g6 (vtC A6 n6 a6 B6 m6 b6) 30 from hkS)
          have HTS := Lib.hid (HTW.out.off HK6.out vtc_by haw6 ((Turn.refl (fun q => q = g6) _).grown hgS (fun q e => .inl (by injection e with e; exact e.symm))))
          have HSZ := Lib.hid (show w4.heap.size ≤ g6 by have h1 := HZB.out; have h2 := HZK.out; have h3 := HZU.out; have h4 := HZW.out; have h5 := HZ0.out; have h7 := HZM.out; omega)
          clear haw6 hkS
          show Kr _ _
          refine hKr.out _ _ ?_ (fun _ => ?_)
          · exact Below.grown hS hgS hS.size (fun q e => by injection e with e; have := HSZ.out; omega)
          clear hKr Kr
          replace hS : Since w4 wS := Below.grown hS hgS hS.size (fun q e => by injection e with e; have := HSZ.out; omega)
          try simp only [Act.put, List.setIfInBounds_toArray, List.set_cons_zero, List.set_cons_succ]
          refine wpAnyH_take (i := 11) (oi := ⟨some 7, _, _, _, _, _⟩) (v := ?_) rfl (by kernel_rfl) (by kernel_rfl) (by kernel_rfl) (fun _ _ _ h => h) (Or.inl ⟨by rfl, ?_⟩) hS ?_
          rotate_left
          · intro W hW; go_simp; with_reducible rfl
          try simp only [Act.put, List.setIfInBounds_toArray, List.set_cons_zero, List.set_cons_succ]
          refine wpAnyH_done (by kernel_rfl) ?_ _
          have HSS := Lib.hid hS
          clear hS
          go_wp2_with fail
          go_meet
          case rel => exact ⟨g6, A6, n6, a6, B6, m6, b6, rfl, rfl, HKS, HTS, HSS⟩
    · skip
      -- operation 9: a step
      refine wp_alloc_bk 30 rfl #[.slice none 0 0, .slice none 0 0] (by kernel_rfl) ?_
      intro wK g6 hk6 hbK hgK
      have HZK := Lib.hid (And.intro hgK (And.intro (Bk.lt hk6) hbK.size))
      have HK6 := Lib.hid (show Bk wK g6 (vtC none 0 0 none 0 0) 30 from hk6)
      try replace HTB := Lib.hid (HTB.out.below hbK)
      try replace HDU := Lib.hid (HDU.out.below hbK)
      try replace HKU := Lib.hid (HKU.out.below hbK)
      try replace HTW := Lib.hid (HTW.out.below hbK)
      clear hgK hk6
      show Kr _ _
      refine hKr.out _ _ ?_ (fun _ => ?_)
      · exact since_trans hS hbK
      clear hKr Kr
      replace hS : Since w4 wK := since_trans hS hbK
      try simp only [Act.put, List.setIfInBounds_toArray, List.set_cons_zero, List.set_cons_succ]
      refine wpAnyH_ready (rs := [0, 3]) (by kernel_rfl) (by simp) ?_
      refine AllReadyH.cons (o := ⟨some 27, _, _, _, _, _⟩) rfl (fun Kr hKr => ?_) (AllReadyH.cons (o := ⟨some 30, _, _, _, _, _⟩) rfl (fun Kr hKr => ?_) AllReadyH.nil)
      · skip
        -- operation 0: a call
        go_simp
        refine (blank_any 2 (by omega) _).mono ?_
        rintro e wb ⟨A1, a1, rfl, ht1, hab, hvb⟩
        have HTB := Lib.hid (show VtAt RVo wb A1 2 a1 none 0 0 exT from ht1)
        have HZB := Lib.hid (show (∀ b o, A1 = some ⟨b, o, none⟩ → _ ≤ b ∧ b < _) ∧ _ ≤ _ from ⟨fun b o e => ⟨hab b o e, by obtain ⟨ss, hss⟩ := ht1.base; rcases hss.at_.lt b o e with h | h; (have h9 := hss.l; rw [h] at h9; simp at h9); exact h⟩, hvb.size⟩)
        try replace HDU := Lib.hid (HDU.out.below hvb)
        try replace HKU := Lib.hid (HKU.out.below hvb)
        try replace HK6 := Lib.hid (Bk.below HK6.out hvb)
        clear ht1 hab
        show Kr _ _
        refine hKr.out _ _ ?_ (fun _ => ?_)
        · exact since_trans hS hvb
        clear hKr Kr
        replace hS : Since w4 wb := since_trans hS hvb
        try simp only [Act.put, List.setIfInBounds_toArray, List.set_cons_zero, List.set_cons_succ]
        refine wpAnyH_ready (rs := [3]) (by kernel_rfl) (by simp) ?_
        refine AllReadyH.cons (o := ⟨some 30, _, _, _, _, _⟩) rfl (fun Kr hKr => ?_) AllReadyH.nil
        -- operation 3: a step
        have HGU := Lib.hid (Below.size hS)
        refine wp_build_raw (n := 107) _ rfl rfl ?_
        intro wu gu hgu hdu hku hvu
        have HGV := Lib.hid (Nat.le_trans HGU.out hgu)
        have HDU := Lib.hid hdu
        have HKU := Lib.hid hku
        have HZU := Lib.hid (show _ ≤ _ from hvu.size)
        try replace HTB := Lib.hid (HTB.out.below hvu)
        try replace HK6 := Lib.hid (Bk.below HK6.out hvu)
        clear hgu hdu hku
        show Kr _ _
        refine hKr.out _ _ ?_ (fun _ => ?_)
        · exact since_trans hS hvu
        clear hKr Kr
        replace hS : Since w4 wu := since_trans hS hvu
        try simp only [Act.put, List.setIfInBounds_toArray, List.set_cons_zero, List.set_cons_succ]
        refine wpAnyH_ready (rs := [4]) (by kernel_rfl) (by simp) ?_
        refine AllReadyH.cons (o := ⟨some 31, _, _, _, _, _⟩) rfl (fun Kr hKr => ?_) AllReadyH.nil
        -- operation 4: a step
        refine wp_mark (.tmp 30) rfl gu 1 1 rfl ?_
        intro wm halm hgm
        try replace HTB := Lib.hid (HTB.out.alike halm)
        replace HDU := Lib.hid (HDU.out.alike halm)
        try replace HK6 := Lib.hid (Bk.far HK6.out hgm (bk_ne HK6.out HKU.out))
        have HZM := Lib.hid (show _ ≤ _ from halm.s)
        clear halm
        show Kr _ _
        refine hKr.out _ _ ?_ (fun _ => ?_)
        · exact Below.grown hS hgm hS.size (fun q e => by injection e with e; have := HGV.out; omega)
        clear hKr Kr
        replace hS : Since w4 wm := Below.grown hS hgm hS.size (fun q e => by injection e with e; have := HGV.out; omega)
        try simp only [Act.put, List.setIfInBounds_toArray, List.set_cons_zero, List.set_cons_succ]
        refine wpAnyH_ready (rs := [5]) (by kernel_rfl) (by simp) ?_
        refine AllReadyH.cons (o := ⟨some 32, _, _, _, _, _⟩) rfl (fun Kr hKr => ?_) AllReadyH.nil
        -- operation 5: a call
        go_simp
        refine (ex_write A1 a1 D k gu HKK.out _ HTB.out (HX4.out.below hS) HDU.out).mono ?_
        rintro e ww ⟨A6, n6, a6, B6, m6, b6, rfl, htw, haw, hvw⟩
        have HTW := Lib.hid htw
        have HAW := Lib.hid haw
        have HZW := Lib.hid (show _ ≤ _ from hvw.size)
        try replace HK6 := Lib.hid (Bk.below HK6.out hvw)
        clear htw haw
        show Kr _ _
        refine hKr.out _ _ ?_ (fun _ => ?_)
        · exact since_trans hS hvw
        clear hKr Kr
        replace hS : Since w4 ww := since_trans hS hvw
        try simp only [Act.put, List.setIfInBounds_toArray, List.set_cons_zero, List.set_cons_succ]
        refine wpAnyH_take (i := 6) (oi := ⟨some 26, _, _, _, _, _⟩) (v := ?_) rfl (by kernel_rfl) (by kernel_rfl) (by kernel_rfl) (fun _ _ _ h => h) (Or.inl ⟨by rfl, ?_⟩) hS ?_
        rotate_left
        · intro W hW; go_simp; with_reducible rfl
        try simp only [Act.put, List.setIfInBounds_toArray, List.set_cons_zero, List.set_cons_succ]
        refine wpAnyH_take (i := 7) (oi := ⟨some 33, _, _, _, _, _⟩) (v := ?_) rfl (by kernel_rfl) (by kernel_rfl) (by kernel_rfl) (fun _ _ _ h => h) (Or.inl ⟨by rfl, ?_⟩) hS ?_
        rotate_left
        · intro W hW; go_simp; with_reducible rfl
        try simp only [Act.put, List.setIfInBounds_toArray, List.set_cons_zero, List.set_cons_succ]
        refine wpAnyH_take (i := 8) (oi := ⟨some 34, _, _, _, _, _⟩) (v := ?_) rfl (by kernel_rfl) (by kernel_rfl) (by kernel_rfl) (fun _ _ _ h => h) (Or.inl ⟨by rfl, ?_⟩) hS ?_
        rotate_left
        · intro W hW; go_simp; with_reducible rfl
        try simp only [Act.put, List.setIfInBounds_toArray, List.set_cons_zero, List.set_cons_succ]
        refine wpAnyH_ready (rs := [10]) (by kernel_rfl) (by simp) ?_
        refine AllReadyH.cons (o := ⟨none, _, _, _, _, _⟩) rfl (fun Kr hKr => ?_) AllReadyH.nil
        -- operation 10: a step
        have haw6 : Away A6 B6 g6 := HAW.out g6 (by have h1 := HZB.out; have h2 := HZK.out; have h3 := HZU.out; have h4 := HZW.out; have h5 := HZ0.out; have h7 := HZM.out; first | (refine .inr ?_; omega) | (refine .inl ⟨by omega, fun b o e => ?_, fun b o e => by cases e⟩; have h6 := h1.1 b o e; omega))
        refine wp_store_bk 30 (.tmp 6) (.tmp 33) rfl g6 (vtC A6 n6 a6 B6 m6 b6) rfl rfl 30 _ HK6.out (by kernel_rfl) rfl vt_one ?_
        intro wS hkS hgS
        have HKS := Lib.hid (show Bk wS g6 (vtC A6 n6 a6 B6 m6 b6) 30 from hkS)
        have HTS := Lib.hid (HTW.out.off HK6.out vtc_by haw6 ((Turn.refl (fun q => q = g6) _).grown hgS (fun q e => .inl (by injection e with e; exact e.symm))))
        have HSZ := Lib.hid (show w4.heap.size ≤ g6 by have h1 := HZB.out; have h2 := HZK.out; have h3 := HZU.out; have h4 := HZW.out; have h5 := HZ0.out; have h7 := HZM.out; omega)
        clear haw6 hkS
        show Kr _ _
        refine hKr.out _ _ ?_ (fun _ => ?_)
        · exact Below.grown hS hgS hS.size (fun q e => by injection e with e; have := HSZ.out; omega)
        clear hKr Kr
        replace hS : Since w4 wS := Below.grown hS hgS hS.size (fun q e => by injection e with e; have := HSZ.out; omega)
        try simp only [Act.put, List.setIfInBounds_toArray, List.set_cons_zero, List.set_cons_succ]
        refine wpAnyH_take (i := 11) (oi := ⟨some 7, _, _, _, _, _⟩) (v := ?_) rfl (by kernel_rfl) (by kernel_rfl) (by kernel_rfl) (fun _ _ _ h => h) (Or.inl ⟨by rfl, ?_⟩) hS ?_
        rotate_left
        · intro W hW; go_simp; with_reducible rfl
        try simp only [Act.put, List.setIfInBounds_toArray, List.set_cons_zero, List.set_cons_succ]
        refine wpAnyH_done (by kernel_rfl) ?_ _
        have HSS := Lib.hid hS
        clear hS
        go_wp2_with fail
        go_meet
        case rel => exact ⟨g6, A6, n6, a6, B6, m6, b6, rfl, rfl, HKS, HTS, HSS⟩
      · skip
        -- operation 3: a step
        have HGU := Lib.hid (Below.size hS)
        refine wp_build_raw (n := 107) _ rfl rfl ?_
        intro wu gu hgu hdu hku hvu
        have HGV := Lib.hid (Nat.le_trans HGU.out hgu)
        have HDU := Lib.hid hdu
        have HKU := Lib.hid hku
        have HZU := Lib.hid (show _ ≤ _ from hvu.size)
        try replace HTB := Lib.hid (HTB.out.below hvu)
        try replace HK6 := Lib.hid (Bk.below HK6.out hvu)
        clear hgu hdu hku
        show Kr _ _
        refine hKr.out _ _ ?_ (fun _ => ?_)
        · exact since_trans hS hvu
        clear hKr Kr
        replace hS : Since w4 wu := since_trans hS hvu
        try simp only [Act.put, List.setIfInBounds_toArray, List.set_cons_zero, List.set_cons_succ]
        refine wpAnyH_ready (rs := [0, 4]) (by kernel_rfl) (by simp) ?_
        refine AllReadyH.cons (o := ⟨some 27, _, _, _, _, _⟩) rfl (fun Kr hKr => ?_) (AllReadyH.cons (o := ⟨some 31, _, _, _, _, _⟩) rfl (fun Kr hKr => ?_) AllReadyH.nil)
        · skip
          -- operation 0: a call
          go_simp
          refine (blank_any 2 (by omega) _).mono ?_
          rintro e wb ⟨A1, a1, rfl, ht1, hab, hvb⟩
          have HTB := Lib.hid (show VtAt RVo wb A1 2 a1 none 0 0 exT from ht1)
          have HZB := Lib.hid (show (∀ b o, A1 = some ⟨b, o, none⟩ → _ ≤ b ∧ b < _) ∧ _ ≤ _ from ⟨fun b o e => ⟨hab b o e, by obtain ⟨ss, hss⟩ := ht1.base; rcases hss.at_.lt b o e with h | h; (have h9 := hss.l; rw [h] at h9; simp at h9); exact h⟩, hvb.size⟩)
          try replace HDU := Lib.hid (HDU.out.below hvb)
          try replace HKU := Lib.hid (HKU.out.below hvb)
          try replace HK6 := Lib.hid (Bk.below HK6.out hvb)
          clear ht1 hab
          show Kr _ _
          refine hKr.out _ _ ?_ (fun _ => ?_)
          · exact since_trans hS hvb
          clear hKr Kr
          replace hS : Since w4 wb := since_trans hS hvb
          try simp only [Act.put, List.setIfInBounds_toArray, List.set_cons_zero, List.set_cons_succ]
          refine wpAnyH_ready (rs := [4]) (by kernel_rfl) (by simp) ?_
          refine AllReadyH.cons (o := ⟨some 31, _, _, _, _, _⟩) rfl (fun Kr hKr => ?_) AllReadyH.nil
          -- operation 4: a step
          refine wp_mark (.tmp 30) rfl gu 1 1 rfl ?_
          intro wm halm hgm
          try replace HTB := Lib.hid (HTB.out.alike halm)
          replace HDU := Lib.hid (HDU.out.alike halm)
          try replace HK6 := Lib.hid (Bk.far HK6.out hgm (bk_ne HK6.out HKU.out))
          have HZM := Lib.hid (show _ ≤ _ from halm.s)
          clear halm
          show Kr _ _
          refine hKr.out _ _ ?_ (fun _ => ?_)
          · exact Below.grown hS hgm hS.size (fun q e => by injection e with e; have := HGV.out; omega)
          clear hKr Kr
          replace hS : Since w4 wm := Below.grown hS hgm hS.size (fun q e => by injection e with e; have := HGV.out; omega)
          try simp only [Act.put, List.setIfInBounds_toArray, List.set_cons_zero, List.set_cons_succ]
          refine wpAnyH_ready (rs := [5]) (by kernel_rfl) (by simp) ?_
          refine AllReadyH.cons (o := ⟨some 32, _, _, _, _, _⟩) rfl (fun Kr hKr => ?_) AllReadyH.nil
          -- operation 5: a call
          go_simp
          refine (ex_write A1 a1 D k gu HKK.out _ HTB.out (HX4.out.below hS) HDU.out).mono ?_
          rintro e ww ⟨A6, n6, a6, B6, m6, b6, rfl, htw, haw, hvw⟩
          have HTW := Lib.hid htw
          have HAW := Lib.hid haw
          have HZW := Lib.hid (show _ ≤ _ from hvw.size)
          try replace HK6 := Lib.hid (Bk.below HK6.out hvw)
          clear htw haw
          show Kr _ _
          refine hKr.out _ _ ?_ (fun _ => ?_)
          · exact since_trans hS hvw
          clear hKr Kr
          replace hS : Since w4 ww := since_trans hS hvw
          try simp only [Act.put, List.setIfInBounds_toArray, List.set_cons_zero, List.set_cons_succ]
          refine wpAnyH_take (i := 6) (oi := ⟨some 26, _, _, _, _, _⟩) (v := ?_) rfl (by kernel_rfl) (by kernel_rfl) (by kernel_rfl) (fun _ _ _ h => h) (Or.inl ⟨by rfl, ?_⟩) hS ?_
          rotate_left
          · intro W hW; go_simp; with_reducible rfl
          try simp only [Act.put, List.setIfInBounds_toArray, List.set_cons_zero, List.set_cons_succ]
          refine wpAnyH_take (i := 7) (oi := ⟨some 33, _, _, _, _, _⟩) (v := ?_) rfl (by kernel_rfl) (by kernel_rfl) (by kernel_rfl) (fun _ _ _ h => h) (Or.inl ⟨by rfl, ?_⟩) hS ?_
          rotate_left
          · intro W hW; go_simp; with_reducible rfl
          try simp only [Act.put, List.setIfInBounds_toArray, List.set_cons_zero, List.set_cons_succ]
          refine wpAnyH_take (i := 8) (oi := ⟨some 34, _, _, _, _, _⟩) (v := ?_) rfl (by kernel_rfl) (by kernel_rfl) (by kernel_rfl) (fun _ _ _ h => h) (Or.inl ⟨by rfl, ?_⟩) hS ?_
          rotate_left
          · intro W hW; go_simp; with_reducible rfl
          try simp only [Act.put, List.setIfInBounds_toArray, List.set_cons_zero, List.set_cons_succ]
          refine wpAnyH_ready (rs := [10]) (by kernel_rfl) (by simp) ?_
          refine AllReadyH.cons (o := ⟨none, _, _, _, _, _⟩) rfl (fun Kr hKr => ?_) AllReadyH.nil
          -- operation 10: a step
          have haw6 : Away A6 B6 g6 := HAW.out g6 (by have h1 := HZB.out; have h2 := HZK.out; have h3 := HZU.out; have h4 := HZW.out; have h5 := HZ0.out; have h7 := HZM.out; first | (refine .inr ?_; omega) | (refine .inl ⟨by omega, fun b o e => ?_, fun b o e => by cases e⟩; have h6 := h1.1 b o e; omega))
          refine wp_store_bk 30 (.tmp 6) (.tmp 33) rfl g6 (vtC A6 n6 a6 B6 m6 b6) rfl rfl 30 _ HK6.out (by kernel_rfl) rfl vt_one ?_
          intro wS hkS hgS
          have HKS := Lib.hid (show Bk wS g6 (vtC A6 n6 a6 B6 m6 b6) 30 from hkS)
          have HTS := Lib.hid (HTW.out.off HK6.out vtc_by haw6 ((Turn.refl (fun q => q = g6) _).grown hgS (fun q e => .inl (by injection e with e; exact e.symm))))
          have HSZ := Lib.hid (show w4.heap.size ≤ g6 by have h1 := HZB.out; have h2 := HZK.out; have h3 := HZU.out; have h4 := HZW.out; have h5 := HZ0.out; have h7 := HZM.out; omega)
          clear haw6 hkS
          show Kr _ _
          refine hKr.out _ _ ?_ (fun _ => ?_)
          · exact Below.grown hS hgS hS.size (fun q e => by injection e with e; have := HSZ.out; omega)
          clear hKr Kr
          replace hS : Since w4 wS := Below.grown hS hgS hS.size (fun q e => by injection e with e; have := HSZ.out; omega)
          try simp only [Act.put, List.setIfInBounds_toArray, List.set_cons_zero, List.set_cons_succ]
          refine wpAnyH_take (i := 11) (oi := ⟨some 7, _, _, _, _, _⟩) (v := ?_) rfl (by kernel_rfl) (by kernel_rfl) (by kernel_rfl) (fun _ _ _ h => h) (Or.inl ⟨by rfl, ?_⟩) hS ?_
          rotate_left
          · intro W hW; go_simp; with_reducible rfl
          try simp only [Act.put, List.setIfInBounds_toArray, List.set_cons_zero, List.set_cons_succ]
          refine wpAnyH_done (by kernel_rfl) ?_ _
          have HSS := Lib.hid hS
          clear hS
          go_wp2_with fail
          go_meet
          case rel => exact ⟨g6, A6, n6, a6, B6, m6, b6, rfl, rfl, HKS, HTS, HSS⟩
        · skip
          -- operation 4: a step
          refine wp_mark (.tmp 30) rfl gu 1 1 rfl ?_
          intro wm halm hgm
          try replace HTB := Lib.hid (HTB.out.alike halm)
          replace HDU := Lib.hid (HDU.out.alike halm)
          try replace HK6 := Lib.hid (Bk.far HK6.out hgm (bk_ne HK6.out HKU.out))
          have HZM := Lib.hid (show _ ≤ _ from halm.s)
          clear halm
          show Kr _ _
          refine hKr.out _ _ ?_ (fun _ => ?_)
          · exact Below.grown hS hgm hS.size (fun q e => by injection e with e; have := HGV.out; omega)
          clear hKr Kr
          replace hS : Since w4 wm := Below.grown hS hgm hS.size (fun q e => by injection e with e; have := HGV.out; omega)
          try simp only [Act.put, List.setIfInBounds_toArray, List.set_cons_zero, List.set_cons_succ]
          refine wpAnyH_ready (rs := [0]) (by kernel_rfl) (by simp) ?_
          refine AllReadyH.cons (o := ⟨some 27, _, _, _, _, _⟩) rfl (fun Kr hKr => ?_) AllReadyH.nil
          -- operation 0: a call
          go_simp
          refine (blank_any 2 (by omega) _).mono ?_
          rintro e wb ⟨A1, a1, rfl, ht1, hab, hvb⟩
          have HTB := Lib.hid (show VtAt RVo wb A1 2 a1 none 0 0 exT from ht1)
          have HZB := Lib.hid (show (∀ b o, A1 = some ⟨b, o, none⟩ → _ ≤ b ∧ b < _) ∧ _ ≤ _ from ⟨fun b o e => ⟨hab b o e, by obtain ⟨ss, hss⟩ := ht1.base; rcases hss.at_.lt b o e with h | h; (have h9 := hss.l; rw [h] at h9; simp at h9); exact h⟩, hvb.size⟩)
          try replace HDU := Lib.hid (HDU.out.below hvb)
          try replace HKU := Lib.hid (HKU.out.below hvb)
          try replace HK6 := Lib.hid (Bk.below HK6.out hvb)
          clear ht1 hab
          show Kr _ _
          refine hKr.out _ _ ?_ (fun _ => ?_)
          · exact since_trans hS hvb
          clear hKr Kr
          replace hS : Since w4 wb := since_trans hS hvb
          try simp only [Act.put, List.setIfInBounds_toArray, List.set_cons_zero, List.set_cons_succ]
          refine wpAnyH_ready (rs := [5]) (by kernel_rfl) (by simp) ?_
          refine AllReadyH.cons (o := ⟨some 32, _, _, _, _, _⟩) rfl (fun Kr hKr => ?_) AllReadyH.nil
          -- operation 5: a call
          go_simp
          refine (ex_write A1 a1 D k gu HKK.out _ HTB.out (HX4.out.below hS) HDU.out).mono ?_
          rintro e ww ⟨A6, n6, a6, B6, m6, b6, rfl, htw, haw, hvw⟩
          have HTW := Lib.hid htw
          have HAW := Lib.hid haw
          have HZW := Lib.hid (show _ ≤ _ from hvw.size)
          try replace HK6 := Lib.hid (Bk.below HK6.out hvw)
          clear htw haw
          show Kr _ _
          refine hKr.out _ _ ?_ (fun _ => ?_)
          · exact since_trans hS hvw
          clear hKr Kr
          replace hS : Since w4 ww := since_trans hS hvw
          try simp only [Act.put, List.setIfInBounds_toArray, List.set_cons_zero, List.set_cons_succ]
          refine wpAnyH_take (i := 6) (oi := ⟨some 26, _, _, _, _, _⟩) (v := ?_) rfl (by kernel_rfl) (by kernel_rfl) (by kernel_rfl) (fun _ _ _ h => h) (Or.inl ⟨by rfl, ?_⟩) hS ?_
          rotate_left
          · intro W hW; go_simp; with_reducible rfl
          try simp only [Act.put, List.setIfInBounds_toArray, List.set_cons_zero, List.set_cons_succ]
          refine wpAnyH_take (i := 7) (oi := ⟨some 33, _, _, _, _, _⟩) (v := ?_) rfl (by kernel_rfl) (by kernel_rfl) (by kernel_rfl) (fun _ _ _ h => h) (Or.inl ⟨by rfl, ?_⟩) hS ?_
          rotate_left
          · intro W hW; go_simp; with_reducible rfl
          try simp only [Act.put, List.setIfInBounds_toArray, List.set_cons_zero, List.set_cons_succ]
          refine wpAnyH_take (i := 8) (oi := ⟨some 34, _, _, _, _, _⟩) (v := ?_) rfl (by kernel_rfl) (by kernel_rfl) (by kernel_rfl) (fun _ _ _ h => h) (Or.inl ⟨by rfl, ?_⟩) hS ?_
          rotate_left
          · intro W hW; go_simp; with_reducible rfl
          try simp only [Act.put, List.setIfInBounds_toArray, List.set_cons_zero, List.set_cons_succ]
          refine wpAnyH_ready (rs := [10]) (by kernel_rfl) (by simp) ?_
          refine AllReadyH.cons (o := ⟨none, _, _, _, _, _⟩) rfl (fun Kr hKr => ?_) AllReadyH.nil
          -- operation 10: a step
          have haw6 : Away A6 B6 g6 := HAW.out g6 (by have h1 := HZB.out; have h2 := HZK.out; have h3 := HZU.out; have h4 := HZW.out; have h5 := HZ0.out; have h7 := HZM.out; first | (refine .inr ?_; omega) | (refine .inl ⟨by omega, fun b o e => ?_, fun b o e => by cases e⟩; have h6 := h1.1 b o e; omega))
          refine wp_store_bk 30 (.tmp 6) (.tmp 33) rfl g6 (vtC A6 n6 a6 B6 m6 b6) rfl rfl 30 _ HK6.out (by kernel_rfl) rfl vt_one ?_
          intro wS hkS hgS
          have HKS := Lib.hid (show Bk wS g6 (vtC A6 n6 a6 B6 m6 b6) 30 from hkS)
          have HTS := Lib.hid (HTW.out.off HK6.out vtc_by haw6 ((Turn.refl (fun q => q = g6) _).grown hgS (fun q e => .inl (by injection e with e; exact e.symm))))
          have HSZ := Lib.hid (show w4.heap.size ≤ g6 by have h1 := HZB.out; have h2 := HZK.out; have h3 := HZU.out; have h4 := HZW.out; have h5 := HZ0.out; have h7 := HZM.out; omega)
          clear haw6 hkS
          show Kr _ _
          refine hKr.out _ _ ?_ (fun _ => ?_)
          · exact Below.grown hS hgS hS.size (fun q e => by injection e with e; have := HSZ.out; omega)
          clear hKr Kr
          replace hS : Since w4 wS := Below.grown hS hgS hS.size (fun q e => by injection e with e; have := HSZ.out; omega)
          try simp only [Act.put, List.setIfInBounds_toArray, List.set_cons_zero, List.set_cons_succ]
          refine wpAnyH_take (i := 11) (oi := ⟨some 7, _, _, _, _, _⟩) (v := ?_) rfl (by kernel_rfl) (by kernel_rfl) (by kernel_rfl) (fun _ _ _ h => h) (Or.inl ⟨by rfl, ?_⟩) hS ?_
          rotate_left
          · intro W hW; go_simp; with_reducible rfl
          try simp only [Act.put, List.setIfInBounds_toArray, List.set_cons_zero, List.set_cons_succ]
          refine wpAnyH_done (by kernel_rfl) ?_ _
          have HSS := Lib.hid hS
          clear hS
          go_wp2_with fail
          go_meet
          case rel => exact ⟨g6, A6, n6, a6, B6, m6, b6, rfl, rfl, HKS, HTS, HSS⟩
  case rest =>
    obtain ⟨g6, A, n, a, B, m, b, rfl, rfl, HK6, HT6, HS6⟩ := hcut
    obtain ⟨w5, hw5⟩ : ∃ w5, w5 = wc := ⟨_, rfl⟩
    subst hw5
    have HK5 := Lib.hid (HK4.out.below HS6.out)
    have HX5 := Lib.hid (HX4.out.below HS6.out)
    have HV5 := Lib.hid (HV4.out.trans (Below.mono HS6.out HV4.out.size))
    clear k0 k1' HK4 HX4 HV4 HS6
    have k0 := HK5.out.c 0 _ rfl
    have k1' := HK5.out.c 1 _ rfl
    have t0 := HK6.out.v0
    have t1 := HK6.out.v1
    have HRA := Lib.hid (ex_readA A B n a m b D k w5 HT6.out HX5.out)
    go_wp2_with fail
    refine HRA.out.mono ?_
    rintro e w6 ⟨YA, yc, rfl, hy, hv6⟩
    have HY := Lib.hid hy
    have HK7 := Lib.hid (HK5.out.below hv6)
    have HX7 := Lib.hid (HX5.out.below hv6)
    have HV7 := Lib.hid (HV5.out.trans (hv6.mono HV5.out.size))
    have HU7 := Lib.hid (HK6.out.below hv6)
    have HT7 := Lib.hid (HT6.out.below hv6)
    clear hy hv6 HRA k0 k1' t0 t1 HK5 HX5 HV5 HK6 HT6
    have t0 := HU7.out.v0
    have t1 := HU7.out.v1
    have HPS := Lib.hid (ex_pass A B n a m b w6 HT7.out)
    go_wp2_with fail
    refine HPS.out.mono ?_
    rintro e w7 ⟨A8, n8, a8, B8, m8, b8, rfl, hp, hv7⟩
    have HP8 := Lib.hid hp
    have HK8 := Lib.hid (HK7.out.below hv7)
    have HX8 := Lib.hid (HX7.out.below hv7)
    have HV8 := Lib.hid (HV7.out.trans (hv7.mono HV7.out.size))
    have HY8 := Lib.hid (HY.out.below hv7)
    clear hp hv7 HPS t0 t1 HK7 HX7 HV7 HU7 HT7 HY
    go_upto_region 6 with fail
    obtain ⟨w8, hw8⟩ : ∃ q, q = w7.alloc (.cells (vtC A8 n8 a8 B8 m8 b8) 30) := ⟨_, rfl⟩
    obtain ⟨g9, hg9⟩ : ∃ q, q = w7.heap.size := ⟨_, rfl⟩
    have hb8 : Below w7.heap.size w7 w8 := by rw [hw8]; exact below_new _ _
    have HQ9 := Lib.hid (show Bk w8 g9 (vtC A8 n8 a8 B8 m8 b8) 30 by rw [hw8, hg9]; exact Bk.new _ _ _)
    have HP9 := Lib.hid (HP8.out.below hb8)
    have HK9 := Lib.hid (HK8.out.below hb8)
    have HX9 := Lib.hid (HX8.out.below hb8)
    have HV9 := Lib.hid (HV8.out.trans (hb8.mono HV8.out.size))
    have HY9 := Lib.hid (HY8.out.below hb8)
    rw [← hg9, ← hw8]
    clear hb8 hw8 hg9 HP8 HK8 HX8 HV8 HY8
    have t0 := HQ9.out.v0
    have t1 := HQ9.out.v1
    have k0 := HK9.out.c 0 _ rfl
    have k1' := HK9.out.c 1 _ rfl
    have HRB := Lib.hid (ex_readB A8 B8 n8 a8 m8 b8 D k w8 HP9.out HX9.out)
    go_wp2_with fail
    refine HRB.out.mono ?_
    rintro e w9 ⟨ZA, zc, rfl, hz, hv9⟩
    have HVE := Lib.hid (HV9.out.trans (hv9.mono HV9.out.size))
    obtain ⟨yb, yo, hYA, _, hyc⟩ := dat_first (show DatAt w9 ⟨YA, 32, yc⟩ ((0 : UInt8) :: List.replicate 31 0) from HY9.out.below hv9)
    obtain ⟨zb, zo, hZA, _, hzc⟩ := dat_first (show DatAt w9 ⟨ZA, 32, zc⟩ ((107 : UInt8) :: List.replicate 31 0) from hz)
    subst hYA
    subst hZA
    replace hyc : w9.cell? ⟨yb, yo, none⟩ = some (.int .u8 0) := hyc
    replace hzc : w9.cell? ⟨zb, zo, none⟩ = some (.int .u8 107) := hzc
    clear hv9 hz HRB t0 t1 k0 k1' HV9 HK9 HX9 HP9 HQ9 HY9
    go_wp2_with fail
    go_ret
    exact ⟨rfl, HVE.out⟩
end Go.Proofs.Ytmhnjmfcenbogaa
