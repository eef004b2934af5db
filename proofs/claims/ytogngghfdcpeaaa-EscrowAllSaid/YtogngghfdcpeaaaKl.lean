/-
  A transaction adds to a counter.
-/
import Derived.Test.YtogngghfdcpeaaaKk
namespace Go.Proofs.Ytogngghfdcpeaaa
set_option maxRecDepth 100000
set_option linter.unusedVariables false
set_option linter.unusedSimpArgs false
open Go.RowKit

/-- a table of the program's, as it comes in or was made -/
structure TbO (W : World) (A : Option Addr) (n a : Nat) (B : Option Addr) (m b : Nat) (t : Tb) : Prop where
  tb : TbAto W A n B m t
  na : n ≤ a
  sa : a = 0 ∨ Sp A
  mb : m ≤ b
  sb : b = 0 ∨ Sp B
  vb : ∀ g o, B = some ⟨g, o, none⟩ → g < W.heap.size
section
variable {W V : World} {A B : Option Addr} {n a m b : Nat} {t : Tb}
theorem TbO.below (h : TbO W A n a B m b t) (hb : Below W.heap.size W V) : TbO V A n a B m b t := ⟨h.tb.below hb, h.na, h.sa, h.mb, h.sb, fun g o e => Nat.lt_of_lt_of_le (h.vb g o e) hb.size⟩
theorem TbO.sc (h : TbO W A n a B m b t) : t.C = [] ∨ Sp A := by
  rcases h.sa with h1 | h1
  · exact .inl (List.eq_nil_of_length_eq_zero (by have := h.na; have := h.tb.cl; omega))
  · exact .inr h1
theorem TbO.sp (h : TbO W A n a B m b t) : t.P = [] ∨ Sp B := by
  rcases h.sb with h1 | h1
  · exact .inl (List.eq_nil_of_length_eq_zero (by have := h.mb; have := h.tb.pl; omega))
  · exact .inr h1
theorem TbO.zero (W : World) : TbO W none 0 0 none 0 0 ⟨[], []⟩ := ⟨⟨rfl, rfl, by simp, by simp, .inl rfl, .inl rfl⟩, Nat.le_refl _, .inl rfl, Nat.le_refl _, .inl rfl, fun g o e => by cases e⟩
end
theorem wp_build_one {W : World} {n : Int} {o : Oper} {a : Act} {K : Act → World → Prop} {Q : Exit → Act → World → Prop} (x : Operand) (ho : o.op = .buildSlice 29 1 #[(0, x)]) (hx : a.eval x = .int .i64 n)
    (h : ∀ w' h', W.heap.size ≤ h' → RI.At w' (some ⟨h', 0, none⟩) [n] → Below W.heap.size W w' → K (a.put o.dst (.slice (some ⟨h', 0, none⟩) 1 1)) w') : o.wp Try.prog a W K Q := by
  unfold Oper.wp execOp
  simp only [ho, List.map_toArray, List.map_cons, List.map_nil, hx]
  go_simp
  exact h _ _ (Nat.le_refl _) (Rk.At.new ri_ok W n _) (below_new W _)
theorem ctget_o {C : List Ct} {k n : Nat} (hn : C.length = n) (hk : k < n) : C[k]? = some (C.getD k ctD) := by
  rw [List.getD_eq_getElem?_getD, List.getElem?_eq_getElem (by omega)]; rfl

set_option maxHeartbeats 4000000 in
theorem padd_any (A B : Option Addr) (n a m b : Nat) (t : Tb) (D : Option Addr) (N d : Nat) (c : Int) (T : Tr) (x k z : Int) (hx : okI x) (hz : okI z) (hm : m ≤ 1000) (w : World) (ht : TbO w A n a B m b t) (hr : TrAto w D N T) :
    Calls Try.prog 9 #[tbV A n a B m b, trV D N d c, .int .i64 x, .int .i64 k, .int .i64 z] w fun e w' => ∃ A' n' a' B' m' b', e = .returned (.tuple #[tbV A' n' a' B' m' b', .int .i64 (t.addE T x k z)]) ∧ TbO w' A' n' a' B' m' b' (t.addT T x k z) ∧ Below w.heap.size w w' := by
  have HT := Lib.hid ht
  have HR := Lib.hid hr
  have HOZ := Lib.hid hz
  have HOX := Lib.hid hx
  have HSC := Lib.hid ht.sc
  have HX := Lib.hid (((Bk.new w (tbC A n a B m b) 34).al (.cells (trC D N d c) 38)).al (.cells #[.slice none 0 0, .slice none 0 0] 34))
  have hz0 := Bk.new ((w.alloc (.cells (tbC A n a B m b) 34)).alloc (.cells (trC D N d c) 38)) #[.slice none 0 0, .slice none 0 0] 34
  rw [size_al, size_al] at hz0
  have HZ := Lib.hid hz0
  have hy0 := Bk.new (w.alloc (.cells (tbC A n a B m b) 34)) (trC D N d c) 38
  rw [size_al] at hy0
  have HY := Lib.hid (hy0.al (.cells #[.slice none 0 0, .slice none 0 0] 34))
  clear hz0 hy0
  have HB := Lib.hid (below_two (below_two (below_new w (.cells (tbC A n a B m b) 34)) (below_new _ (.cells (trC D N d c) 38))) (below_new _ (.cells #[.slice none 0 0, .slice none 0 0] 34)))
  have hmy := fun V hV => asked_any A B n a m b t D N d c T x k hm ht.mb ht.sb V (HT.out.tb.below hV) (HR.out.below hV)
  have HSE : Hid (t.addE T x k z = if t.may T x k = 0 then (if t.fits k.toNat z = true then 0 else 8) else t.may T x k) := rfl
  have HST : Hid (t.addT T x k z = if t.addE T x k z = 0 then ⟨t.C, withL t.P ⟨k, x, max z 0, min z 0⟩⟩ else ⟨[], []⟩) := rfl
  have HMZ := Lib.hid (fun h => may_zero (t := t) (T := T) (x := x) (k := k) h)
  clear ht hr hz hx
  generalize t.addT T x k z = st at *
  generalize t.addE T x k z = se at *
  generalize hmm : t.may T x k = mm at *
  clear hmm
  go_enter Try.func9, Try.ntmps9
  go_wp2_with fail
  refine (hmy _ HB.out).mono ?_
  rintro e w1 ⟨rfl, hb⟩
  replace HX := Lib.hid (HX.out.below hb)
  replace HZ := Lib.hid (HZ.out.below hb)
  replace HB := Lib.hid (HB.out.trans (hb.mono HB.out.size))
  clear hb hmy HY
  rcases Classical.em (mm = 0) with h0 | h0
  · subst h0
    obtain ⟨hsn, ⟨hk0, hk1⟩, _, _⟩ := HMZ.out rfl
    obtain ⟨kn, rfl⟩ : ∃ kn : Nat, k = kn := ⟨k.toNat, by omega⟩
    have hkn : kn < n := by rw [HT.out.tb.cl] at hk1; omega
    have HS := Lib.hid (Tb.san hsn)
    have hn64 : n ≤ 64 := by have := HS.out.n; rw [HT.out.tb.cl] at this; exact this
    rw [Int.toNat_natCast, if_pos rfl] at HSE
    have HON := Lib.hid (fun V (hV : Below w.heap.size w V) => on_any A B n a m b t.P (kn : Int) ⟨by omega, by omega⟩ HS.out.up (fun p hp => (HS.out.may p hp).x0) HT.out.tb.pl (by omega) HT.out.mb HT.out.sb V (HT.out.tb.atP.below hV))
    have HAO := Lib.hid (show (∀ x ∈ amt (onL t.P (kn : Int)), okI x) ∧ (onL t.P (kn : Int)).length ≤ 1000 from ⟨by rw [amt_on]; exact sumsOf_ok HT.out.tb.okP _, by
      have : (onL t.P (kn : Int)).length ≤ t.P.length := List.length_filter_le ..
      rw [HT.out.tb.pl] at this
      omega⟩)
    obtain ⟨b1, o1, hA, hbl, hget, q0, q1, q2⟩ := ct_cellso HT.out.tb.atC HT.out.tb.cl hkn
    subst hA
    have HBL := Lib.hid hbl
    have HOC := Lib.hid (HT.out.tb.okC _ (List.mem_of_getElem? hget))
    have HSB : Hid (staysC (t.C.getD kn ctD) (amt (onL t.P (kn : Int)) ++ [z]) = t.fits kn z) := Lib.hid (by rw [fits_stays, amt_on])
    generalize t.C.getD kn ctD = cc at *
    obtain ⟨lo, hi, v⟩ := cc
    simp only at q0 q1 q2
    have HV := Lib.hid HOC.out.v
    have HC0 := Lib.hid q0
    have HC1 := Lib.hid q1
    have HC2 := Lib.hid q2
    generalize t.fits kn z = fb at *
    generalize onL t.P (kn : Int) = ol at *
    have hd1 : decide (kn < n) = true := decide_eq_true hkn
    have hi1 : (kn : Int) < (n : Int) := by omega
    clear q0 q1 q2 hbl hget hk0 hk1 hsn HOC HMZ
    go_upto_region 4 with fail
    have X0 : ∀ V, Since w1 V → V.cell? ⟨w.heap.size, 0, none⟩ = some (.slice (some ⟨b1, o1, none⟩) n a) := fun V hV => (HX.out.below hV).t0
    have X1 : ∀ V, Since w1 V → V.cell? ⟨w.heap.size, 1, none⟩ = some (.slice B m b) := fun V hV => (HX.out.below hV).t1
    have C0 : ∀ V, Since w1 V → V.cell? ⟨b1, o1 + kn * 3, none⟩ = some (.int .i64 lo) := fun V hV => ((HB.out.trans (Below.mono hV HB.out.size)).cell (p := ⟨b1, o1 + kn * 3, none⟩) HBL.out).trans HC0.out
    have C1 : ∀ V, Since w1 V → V.cell? ⟨b1, o1 + kn * 3 + 1, none⟩ = some (.int .i64 hi) := fun V hV => ((HB.out.trans (Below.mono hV HB.out.size)).cell (p := ⟨b1, o1 + kn * 3 + 1, none⟩) HBL.out).trans HC1.out
    have C2 : ∀ V, Since w1 V → V.cell? ⟨b1, o1 + kn * 3 + 2, none⟩ = some (.int .i64 v) := fun V hV => ((HB.out.trans (Below.mono hV HB.out.size)).cell (p := ⟨b1, o1 + kn * 3 + 2, none⟩) HBL.out).trans HC2.out
    go_cut [36] from 23 to 57 (fun vv wc => vv = .bool (!fb) ∧ Hid (Since w1 wc))
    case first =>
      refine wp_region_since (by kernel_rfl) ?_
      have hS : Since w1 (World.drew w1) := (Below.refl _ _).drew
      refine wpAnyH_take (i := 0) (oi := ⟨some 23, _, _, _, _, _⟩) (v := ?_) rfl (by kernel_rfl) (by kernel_rfl) (by kernel_rfl) (fun _ _ _ h => h) (Or.inl ⟨by rfl, ?_⟩) hS ?_
      rotate_left
      · intro W hW; go_simp; with_reducible rfl
      try simp only [Act.put, List.setIfInBounds_toArray, List.set_cons_zero, List.set_cons_succ]
      refine wpAnyH_take (i := 1) (oi := ⟨some 24, _, _, _, _, _⟩) (v := ?_) rfl (by kernel_rfl) (by kernel_rfl) (by kernel_rfl) (fun _ _ _ h => h) (Or.inl ⟨by rfl, ?_⟩) hS ?_
      rotate_left
      · intro W hW; go_simp; with_reducible rfl
      try simp only [Act.put, List.setIfInBounds_toArray, List.set_cons_zero, List.set_cons_succ]
      refine wpAnyH_take (i := 2) (oi := ⟨some 25, _, _, _, _, _⟩) (v := ?_) rfl (by kernel_rfl) (by kernel_rfl) (by kernel_rfl) (fun _ _ _ h => h) (Or.inl ⟨by rfl, ?_⟩) hS ?_
      rotate_left
      · intro W hW; go_simp; with_reducible rfl
      try simp only [Act.put, List.setIfInBounds_toArray, List.set_cons_zero, List.set_cons_succ]
      refine wpAnyH_take (i := 3) (oi := ⟨some 26, _, _, _, _, _⟩) (v := ?_) rfl (by kernel_rfl) (by kernel_rfl) (by kernel_rfl) (fun _ _ _ h => h) (Or.inl ⟨by rfl, ?_⟩) hS ?_
      rotate_left
      · intro W hW; go_simp; with_reducible rfl
      try simp only [Act.put, List.setIfInBounds_toArray, List.set_cons_zero, List.set_cons_succ]
      refine wpAnyH_take (i := 4) (oi := ⟨some 27, _, _, _, _, _⟩) (v := ?_) rfl (by kernel_rfl) (by kernel_rfl) (by kernel_rfl) (fun _ _ _ h => h) (Or.inl ⟨by rfl, ?_⟩) hS ?_
      rotate_left
      · intro W hW; go_simp; with_reducible rfl
      try simp only [Act.put, List.setIfInBounds_toArray, List.set_cons_zero, List.set_cons_succ]
      refine wpAnyH_take (i := 5) (oi := ⟨some 28, _, _, _, _, _⟩) (v := ?_) rfl (by kernel_rfl) (by kernel_rfl) (by kernel_rfl) (fun _ _ _ h => h) (Or.inl ⟨by rfl, ?_⟩) hS ?_
      rotate_left
      · intro W hW; go_simp; with_reducible rfl
      try simp only [Act.put, List.setIfInBounds_toArray, List.set_cons_zero, List.set_cons_succ]
      refine wpAnyH_take (i := 6) (oi := ⟨some 29, _, _, _, _, _⟩) (v := ?_) rfl (by kernel_rfl) (by kernel_rfl) (by kernel_rfl) (fun _ _ _ h => h) (Or.inl ⟨by rfl, ?_⟩) hS ?_
      rotate_left
      · intro W hW; go_simp; with_reducible rfl
      try simp only [Act.put, List.setIfInBounds_toArray, List.set_cons_zero, List.set_cons_succ]
      refine wpAnyH_take (i := 9) (oi := ⟨some 32, _, _, _, _, _⟩) (v := ?_) rfl (by kernel_rfl) (by kernel_rfl) (by kernel_rfl) (fun _ _ _ h => h) (Or.inl ⟨by rfl, ?_⟩) hS ?_
      rotate_left
      · intro W hW; go_simp; with_reducible rfl
      try simp only [Act.put, List.setIfInBounds_toArray, List.set_cons_zero, List.set_cons_succ]
      refine wpAnyH_ready (rs := [7, 10]) (by kernel_rfl) (by simp) ?_
      refine AllReadyH.cons (o := ⟨some 30, _, _, _, _, _⟩) rfl (fun Kr hKr => ?_) (AllReadyH.cons (o := ⟨some 33, _, _, _, _, _⟩) rfl (fun Kr hKr => ?_) AllReadyH.nil)
      · skip
        -- operation 7: a call
        go_simp
        refine (HON.out _ (HB.out.trans (Below.mono hS HB.out.size))).mono ?_
        rintro e V7 ⟨A3, n3, c3, rfl, hat3, hln3, hx⟩
        have HL3 := Lib.hid hln3
        have HA3 := Lib.hid hat3
        clear hat3 hln3
        try replace HZ1 := Lib.hid (HZ1.out.below hx)
        show Kr _ _
        refine hKr.out _ _ ?_ (fun _ => ?_)
        · exact since_trans hS hx
        clear hKr Kr
        replace hS : Since w1 V7 := since_trans hS hx
        try simp only [Act.put, List.setIfInBounds_toArray, List.set_cons_zero, List.set_cons_succ]
        refine wpAnyH_ready (rs := [8, 10]) (by kernel_rfl) (by simp) ?_
        refine AllReadyH.cons (o := ⟨some 31, _, _, _, _, _⟩) rfl (fun Kr hKr => ?_) (AllReadyH.cons (o := ⟨some 33, _, _, _, _, _⟩) rfl (fun Kr hKr => ?_) AllReadyH.nil)
        · skip
          -- operation 8: a call
          go_simp
          refine (amounts_any A3 n3 c3 _ HL3.out (by have h1 := HL3.out; have h2 := HAO.out.2; omega) _ HA3.out).mono ?_
          rintro e V8 ⟨lv, rfl, hown, hx⟩
          have HO8 := Lib.hid (Rk.Own.le hown (b := w1.heap.size) hS.size)
          clear hown
          try replace HZ1 := Lib.hid (HZ1.out.below hx)
          show Kr _ _
          refine hKr.out _ _ ?_ (fun _ => ?_)
          · exact since_trans hS hx
          clear hKr Kr
          replace hS : Since w1 V8 := since_trans hS hx
          try simp only [Act.put, List.setIfInBounds_toArray, List.set_cons_zero, List.set_cons_succ]
          refine wpAnyH_ready (rs := [10]) (by kernel_rfl) (by simp) ?_
          refine AllReadyH.cons (o := ⟨some 33, _, _, _, _, _⟩) rfl (fun Kr hKr => ?_) AllReadyH.nil
          -- operation 10: a step
          try rw [if_pos (by kernel_rfl)]
          refine wp_build_one (n := z) _ rfl rfl ?_
          intro VA gb hgb hatz hx
          have HZ1 := Lib.hid hatz
          clear hatz
          try replace HA3 := Lib.hid (HA3.out.below hx)
          try replace HO8 := Lib.hid (HO8.out.below hx)
          show Kr _ _
          refine hKr.out _ _ ?_ (fun _ => ?_)
          · exact since_trans hS hx
          clear hKr Kr
          replace hS : Since w1 VA := since_trans hS hx
          try simp only [Act.put, List.setIfInBounds_toArray, List.set_cons_zero, List.set_cons_succ]
          refine wpAnyH_ready (rs := [11]) (by kernel_rfl) (by simp) ?_
          refine AllReadyH.cons (o := ⟨some 34, _, _, _, _, _⟩) rfl (fun Kr hKr => ?_) AllReadyH.nil
          -- operation 11: a step
          try rw [if_pos (by kernel_rfl)]
          refine Rk.wp_append ri_ok (.tmp 31) (.tmp 33) rfl w1.heap.size lv (amt ol) [z] rfl HO8.out _ 1 1 rfl HZ1.out rfl (.inr ⟨_, _, rfl⟩) (by have := amt_len ol; have := HAO.out.2; rw [List.length_singleton]; omega) hS.size ?_
          intro v4 w4 hx1 hg1 ha1
          obtain ⟨A4, n4, c4, e4, en4, hl4⟩ := own_ls hx1 (ok_app HAO.out.1 HOZ.out)
          subst e4
          have HL4 := Lib.hid hl4
          have HG4 := Lib.hid hg1
          have HLV := Lib.hid (fun q e => (HO8.out.lt q e).1)
          clear hl4 en4 hx1 hg1 ha1
          show Kr _ _
          refine hKr.out _ _ ?_ (fun _ => ?_)
          · exact Below.grown hS HG4.out hS.size (fun q e => HLV.out q e)
          clear hKr Kr
          replace hS : Since w1 w4 := Below.grown hS HG4.out hS.size (fun q e => HLV.out q e)
          try simp only [Act.put, List.setIfInBounds_toArray, List.set_cons_zero, List.set_cons_succ]
          refine wpAnyH_ready (rs := [12]) (by kernel_rfl) (by simp) ?_
          refine AllReadyH.cons (o := ⟨some 35, _, _, _, _, _⟩) rfl (fun Kr hKr => ?_) AllReadyH.nil
          -- operation 12: a call
          go_simp
          refine (staysC_any lo hi v HV.out A4 n4 c4 _ _ HL4.out).mono ?_
          rintro e V9 ⟨he, hx⟩
          rw [HSB.out] at he
          subst he
          show Kr _ _
          refine hKr.out _ _ ?_ (fun _ => ?_)
          · exact since_trans hS hx
          clear hKr Kr
          replace hS : Since w1 V9 := since_trans hS hx
          try simp only [Act.put, List.setIfInBounds_toArray, List.set_cons_zero, List.set_cons_succ]
          refine wpAnyH_take (i := 13) (oi := ⟨some 36, _, _, _, _, _⟩) (v := ?_) rfl (by kernel_rfl) (by kernel_rfl) (by kernel_rfl) (fun _ _ _ h => h) (Or.inl ⟨by rfl, ?_⟩) hS ?_
          rotate_left
          · intro W hW; go_simp; with_reducible rfl
          try simp only [Act.put, List.setIfInBounds_toArray, List.set_cons_zero, List.set_cons_succ]
          refine wpAnyH_done (by kernel_rfl) ?_ _
          go_wp2_with fail
          go_meet
          case rel => exact ⟨rfl, hS⟩
        · skip
          -- operation 10: a step
          try rw [if_pos (by kernel_rfl)]
          refine wp_build_one (n := z) _ rfl rfl ?_
          intro VA gb hgb hatz hx
          have HZ1 := Lib.hid hatz
          clear hatz
          try replace HA3 := Lib.hid (HA3.out.below hx)
          try replace HO8 := Lib.hid (HO8.out.below hx)
          show Kr _ _
          refine hKr.out _ _ ?_ (fun _ => ?_)
          · exact since_trans hS hx
          clear hKr Kr
          replace hS : Since w1 VA := since_trans hS hx
          try simp only [Act.put, List.setIfInBounds_toArray, List.set_cons_zero, List.set_cons_succ]
          refine wpAnyH_ready (rs := [8]) (by kernel_rfl) (by simp) ?_
          refine AllReadyH.cons (o := ⟨some 31, _, _, _, _, _⟩) rfl (fun Kr hKr => ?_) AllReadyH.nil
          -- operation 8: a call
          go_simp
          refine (amounts_any A3 n3 c3 _ HL3.out (by have h1 := HL3.out; have h2 := HAO.out.2; omega) _ HA3.out).mono ?_
          rintro e V8 ⟨lv, rfl, hown, hx⟩
          have HO8 := Lib.hid (Rk.Own.le hown (b := w1.heap.size) hS.size)
          clear hown
          try replace HZ1 := Lib.hid (HZ1.out.below hx)
          show Kr _ _
          refine hKr.out _ _ ?_ (fun _ => ?_)
          · exact since_trans hS hx
          clear hKr Kr
          replace hS : Since w1 V8 := since_trans hS hx
          try simp only [Act.put, List.setIfInBounds_toArray, List.set_cons_zero, List.set_cons_succ]
          refine wpAnyH_ready (rs := [11]) (by kernel_rfl) (by simp) ?_
          refine AllReadyH.cons (o := ⟨some 34, _, _, _, _, _⟩) rfl (fun Kr hKr => ?_) AllReadyH.nil
          -- operation 11: a step
          try rw [if_pos (by kernel_rfl)]
          refine Rk.wp_append ri_ok (.tmp 31) (.tmp 33) rfl w1.heap.size lv (amt ol) [z] rfl HO8.out _ 1 1 rfl HZ1.out rfl (.inr ⟨_, _, rfl⟩) (by have := amt_len ol; have := HAO.out.2; rw [List.length_singleton]; omega) hS.size ?_
          intro v4 w4 hx1 hg1 ha1
          obtain ⟨A4, n4, c4, e4, en4, hl4⟩ := own_ls hx1 (ok_app HAO.out.1 HOZ.out)
          subst e4
          have HL4 := Lib.hid hl4
          have HG4 := Lib.hid hg1
          have HLV := Lib.hid (fun q e => (HO8.out.lt q e).1)
          clear hl4 en4 hx1 hg1 ha1
          show Kr _ _
          refine hKr.out _ _ ?_ (fun _ => ?_)
          · exact Below.grown hS HG4.out hS.size (fun q e => HLV.out q e)
          clear hKr Kr
          replace hS : Since w1 w4 := Below.grown hS HG4.out hS.size (fun q e => HLV.out q e)
          try simp only [Act.put, List.setIfInBounds_toArray, List.set_cons_zero, List.set_cons_succ]
          refine wpAnyH_ready (rs := [12]) (by kernel_rfl) (by simp) ?_
          refine AllReadyH.cons (o := ⟨some 35, _, _, _, _, _⟩) rfl (fun Kr hKr => ?_) AllReadyH.nil
          -- operation 12: a call
          go_simp
          refine (staysC_any lo hi v HV.out A4 n4 c4 _ _ HL4.out).mono ?_
          rintro e V9 ⟨he, hx⟩
          rw [HSB.out] at he
          subst he
          show Kr _ _
          refine hKr.out _ _ ?_ (fun _ => ?_)
          · exact since_trans hS hx
          clear hKr Kr
          replace hS : Since w1 V9 := since_trans hS hx
          try simp only [Act.put, List.setIfInBounds_toArray, List.set_cons_zero, List.set_cons_succ]
          refine wpAnyH_take (i := 13) (oi := ⟨some 36, _, _, _, _, _⟩) (v := ?_) rfl (by kernel_rfl) (by kernel_rfl) (by kernel_rfl) (fun _ _ _ h => h) (Or.inl ⟨by rfl, ?_⟩) hS ?_
          rotate_left
          · intro W hW; go_simp; with_reducible rfl
          try simp only [Act.put, List.setIfInBounds_toArray, List.set_cons_zero, List.set_cons_succ]
          refine wpAnyH_done (by kernel_rfl) ?_ _
          go_wp2_with fail
          go_meet
          case rel => exact ⟨rfl, hS⟩
      · skip
        -- operation 10: a step
        try rw [if_pos (by kernel_rfl)]
        refine wp_build_one (n := z) _ rfl rfl ?_
        intro VA gb hgb hatz hx
        have HZ1 := Lib.hid hatz
        clear hatz
        try replace HA3 := Lib.hid (HA3.out.below hx)
        try replace HO8 := Lib.hid (HO8.out.below hx)
        show Kr _ _
        refine hKr.out _ _ ?_ (fun _ => ?_)
        · exact since_trans hS hx
        clear hKr Kr
        replace hS : Since w1 VA := since_trans hS hx
        try simp only [Act.put, List.setIfInBounds_toArray, List.set_cons_zero, List.set_cons_succ]
        refine wpAnyH_ready (rs := [7]) (by kernel_rfl) (by simp) ?_
        refine AllReadyH.cons (o := ⟨some 30, _, _, _, _, _⟩) rfl (fun Kr hKr => ?_) AllReadyH.nil
        -- operation 7: a call
        go_simp
        refine (HON.out _ (HB.out.trans (Below.mono hS HB.out.size))).mono ?_
        rintro e V7 ⟨A3, n3, c3, rfl, hat3, hln3, hx⟩
        have HL3 := Lib.hid hln3
        have HA3 := Lib.hid hat3
        clear hat3 hln3
        try replace HZ1 := Lib.hid (HZ1.out.below hx)
        show Kr _ _
        refine hKr.out _ _ ?_ (fun _ => ?_)
        · exact since_trans hS hx
        clear hKr Kr
        replace hS : Since w1 V7 := since_trans hS hx
        try simp only [Act.put, List.setIfInBounds_toArray, List.set_cons_zero, List.set_cons_succ]
        refine wpAnyH_ready (rs := [8]) (by kernel_rfl) (by simp) ?_
        refine AllReadyH.cons (o := ⟨some 31, _, _, _, _, _⟩) rfl (fun Kr hKr => ?_) AllReadyH.nil
        -- operation 8: a call
        go_simp
        refine (amounts_any A3 n3 c3 _ HL3.out (by have h1 := HL3.out; have h2 := HAO.out.2; omega) _ HA3.out).mono ?_
        rintro e V8 ⟨lv, rfl, hown, hx⟩
        have HO8 := Lib.hid (Rk.Own.le hown (b := w1.heap.size) hS.size)
        clear hown
        try replace HZ1 := Lib.hid (HZ1.out.below hx)
        show Kr _ _
        refine hKr.out _ _ ?_ (fun _ => ?_)
        · exact since_trans hS hx
        clear hKr Kr
        replace hS : Since w1 V8 := since_trans hS hx
        try simp only [Act.put, List.setIfInBounds_toArray, List.set_cons_zero, List.set_cons_succ]
        refine wpAnyH_ready (rs := [11]) (by kernel_rfl) (by simp) ?_
        refine AllReadyH.cons (o := ⟨some 34, _, _, _, _, _⟩) rfl (fun Kr hKr => ?_) AllReadyH.nil
        -- operation 11: a step
        try rw [if_pos (by kernel_rfl)]
        refine Rk.wp_append ri_ok (.tmp 31) (.tmp 33) rfl w1.heap.size lv (amt ol) [z] rfl HO8.out _ 1 1 rfl HZ1.out rfl (.inr ⟨_, _, rfl⟩) (by have := amt_len ol; have := HAO.out.2; rw [List.length_singleton]; omega) hS.size ?_
        intro v4 w4 hx1 hg1 ha1
        obtain ⟨A4, n4, c4, e4, en4, hl4⟩ := own_ls hx1 (ok_app HAO.out.1 HOZ.out)
        subst e4
        have HL4 := Lib.hid hl4
        have HG4 := Lib.hid hg1
        have HLV := Lib.hid (fun q e => (HO8.out.lt q e).1)
        clear hl4 en4 hx1 hg1 ha1
        show Kr _ _
        refine hKr.out _ _ ?_ (fun _ => ?_)
        · exact Below.grown hS HG4.out hS.size (fun q e => HLV.out q e)
        clear hKr Kr
        replace hS : Since w1 w4 := Below.grown hS HG4.out hS.size (fun q e => HLV.out q e)
        try simp only [Act.put, List.setIfInBounds_toArray, List.set_cons_zero, List.set_cons_succ]
        refine wpAnyH_ready (rs := [12]) (by kernel_rfl) (by simp) ?_
        refine AllReadyH.cons (o := ⟨some 35, _, _, _, _, _⟩) rfl (fun Kr hKr => ?_) AllReadyH.nil
        -- operation 12: a call
        go_simp
        refine (staysC_any lo hi v HV.out A4 n4 c4 _ _ HL4.out).mono ?_
        rintro e V9 ⟨he, hx⟩
        rw [HSB.out] at he
        subst he
        show Kr _ _
        refine hKr.out _ _ ?_ (fun _ => ?_)
        · exact since_trans hS hx
        clear hKr Kr
        replace hS : Since w1 V9 := since_trans hS hx
        try simp only [Act.put, List.setIfInBounds_toArray, List.set_cons_zero, List.set_cons_succ]
        refine wpAnyH_take (i := 13) (oi := ⟨some 36, _, _, _, _, _⟩) (v := ?_) rfl (by kernel_rfl) (by kernel_rfl) (by kernel_rfl) (fun _ _ _ h => h) (Or.inl ⟨by rfl, ?_⟩) hS ?_
        rotate_left
        · intro W hW; go_simp; with_reducible rfl
        try simp only [Act.put, List.setIfInBounds_toArray, List.set_cons_zero, List.set_cons_succ]
        refine wpAnyH_done (by kernel_rfl) ?_ _
        go_wp2_with fail
        go_meet
        case rel => exact ⟨rfl, hS⟩
    case rest =>
      obtain ⟨rfl, HS1⟩ := hcut
      obtain ⟨w2, hw2⟩ : ∃ w2, w2 = wc := ⟨_, rfl⟩
      subst hw2
      have HX2 := Lib.hid (HX.out.below HS1.out)
      have HZ2 := Lib.hid (HZ.out.below HS1.out)
      have HB2 := Lib.hid (HB.out.trans (Below.mono HS1.out HB.out.size))
      clear X0 X1 C0 C1 C2 HX HZ HB HON HC0 HC1 HC2
      cases fb with
      | false =>
        rw [if_neg (by decide)] at HSE
        rw [HSE.out, if_neg (by decide)] at HST
        have z0 : w2.cell? ⟨w.heap.size + 1 + 1, 0, none⟩ = some (.slice none 0 0) := HZ2.out.c 0 _ rfl
        have z1 : w2.cell? ⟨w.heap.size + 1 + 1, 1, none⟩ = some (.slice none 0 0) := HZ2.out.c 1 _ rfl
        have f0 := HZ2.out.fr 0
        have f1 := HZ2.out.fr 1
        go_wp2_with fail
        refine bodyPost_ret (v := .tuple #[tbV none 0 0 none 0 0, .int .i64 8]) (by rw [results_cell_tmp rfl]; go_simp) rfl ⟨none, 0, 0, none, 0, 0, by rw [HSE.out], by rw [HST.out]; exact TbO.zero _, (HB2.out.setCell (show w.heap.size ≤ w.heap.size + 1 + 1 from by omega) _).setCell (show w.heap.size ≤ w.heap.size + 1 + 1 from by omega) _⟩
      | true =>
        rw [if_pos rfl] at HSE
        rw [HSE.out, if_pos rfl] at HST
        go_upto_region 6 with fail
        have X0 : ∀ V, Since w2 V → V.cell? ⟨w.heap.size, 0, none⟩ = some (.slice (some ⟨b1, o1, none⟩) n a) := fun V hV => (HX2.out.below hV).t0
        have X1 : ∀ V, Since w2 V → V.cell? ⟨w.heap.size, 1, none⟩ = some (.slice B m b) := fun V hV => (HX2.out.below hV).t1
        refine wp_region_since (by kernel_rfl) ?_
        have hS : Since w2 (World.drew w2) := (Below.refl _ _).drew
        refine wpAnyH_take (i := 0) (oi := ⟨some 38, _, _, _, _, _⟩) (v := ?_) rfl (by kernel_rfl) (by kernel_rfl) (by kernel_rfl) (fun _ _ _ h => h) (Or.inl ⟨by rfl, ?_⟩) hS ?_
        rotate_left
        · intro W hW; go_simp; with_reducible rfl
        try simp only [Act.put, List.setIfInBounds_toArray, List.set_cons_zero, List.set_cons_succ]
        refine wpAnyH_take (i := 1) (oi := ⟨some 39, _, _, _, _, _⟩) (v := ?_) rfl (by kernel_rfl) (by kernel_rfl) (by kernel_rfl) (fun _ _ _ h => h) (Or.inl ⟨by rfl, ?_⟩) hS ?_
        rotate_left
        · intro W hW; go_simp; with_reducible rfl
        try simp only [Act.put, List.setIfInBounds_toArray, List.set_cons_zero, List.set_cons_succ]
        refine wpAnyH_take (i := 2) (oi := ⟨some 40, _, _, _, _, _⟩) (v := ?_) rfl (by kernel_rfl) (by kernel_rfl) (by kernel_rfl) (fun _ _ _ h => h) (Or.inl ⟨by rfl, ?_⟩) hS ?_
        rotate_left
        · intro W hW; go_simp; with_reducible rfl
        try simp only [Act.put, List.setIfInBounds_toArray, List.set_cons_zero, List.set_cons_succ]
        refine wpAnyH_take (i := 4) (oi := ⟨some 42, _, _, _, _, _⟩) (v := ?_) rfl (by kernel_rfl) (by kernel_rfl) (by kernel_rfl) (fun _ _ _ h => h) (Or.inl ⟨by rfl, ?_⟩) hS ?_
        rotate_left
        · intro W hW; go_simp; with_reducible rfl
        try simp only [Act.put, List.setIfInBounds_toArray, List.set_cons_zero, List.set_cons_succ]
        refine wpAnyH_take (i := 5) (oi := ⟨some 43, _, _, _, _, _⟩) (v := ?_) rfl (by kernel_rfl) (by kernel_rfl) (by kernel_rfl) (fun _ _ _ h => h) (Or.inl ⟨by rfl, ?_⟩) hS ?_
        rotate_left
        · intro W hW; go_simp; with_reducible rfl
        try simp only [Act.put, List.setIfInBounds_toArray, List.set_cons_zero, List.set_cons_succ]
        refine wpAnyH_ready (rs := [3]) (by kernel_rfl) (by simp) ?_
        refine AllReadyH.cons (o := ⟨some 41, _, _, _, _, _⟩) rfl (fun Kr hKr => ?_) AllReadyH.nil
        -- operation 3: a call
        go_simp
        refine (cloneC_any _ n a t.C HT.out.tb.cl (by omega) HSC.out _ ((HT.out.tb.atC.below HB2.out).below hS)).mono ?_
        rintro e V3 ⟨cv, rfl, hown, hx⟩
        obtain ⟨A5, c5, rfl⟩ := own_slice rc_oko hown HT.out.tb.cl
        have HC5 := Lib.hid (Rk.Own.le hown (b := w.heap.size) (Nat.le_trans HB2.out.size hS.size))
        have HA5 := Lib.hid (show ∀ q o, A5 = some ⟨q, o, none⟩ → w.heap.size + 1 + 1 < q from fun q o e => Nat.lt_of_lt_of_le HZ2.out.lt (Nat.le_trans hS.size ((own_parts rc_oko hown HT.out.tb.cl).2.2.2 q o e).1))
        have HCX := Lib.hid (show ∀ q, (Value.slice A5 n c5).ownBlock = some q → w2.heap.size ≤ q from fun q e => Nat.le_trans hS.size (hown.lt q e).1)
        clear hown
        show Kr _ _
        refine hKr.out _ _ ?_ (fun _ => ?_)
        · exact since_trans hS hx
        clear hKr Kr
        replace hS : Since w2 V3 := since_trans hS hx
        have HV3 := Lib.hid hS
        try simp only [Act.put, List.setIfInBounds_toArray, List.set_cons_zero, List.set_cons_succ]
        refine wpAnyH_take (i := 6) (oi := ⟨some 44, _, _, _, _, _⟩) (v := ?_) rfl (by kernel_rfl) (by kernel_rfl) (by kernel_rfl) (fun _ _ _ h => h) (Or.inl ⟨by rfl, ?_⟩) hS ?_
        rotate_left
        · intro W hW; go_simp; with_reducible rfl
        try simp only [Act.put, List.setIfInBounds_toArray, List.set_cons_zero, List.set_cons_succ]
        refine wpAnyH_ready (rs := [7]) (by kernel_rfl) (by simp) ?_
        refine AllReadyH.cons (o := ⟨some 45, _, _, _, _, _⟩) rfl (fun Kr hKr => ?_) AllReadyH.nil
        -- operation 7: a step
        go_simp
        show Kr _ _
        refine hKr.out _ _ ?_ (fun _ => ?_)
        · exact since_trans hS (below_new _ _)
        clear hKr Kr
        replace hS : Since w2 (V3.alloc (.cells (hrC x A5 n c5 (.slice none 0 0) B m b) 85)) := since_trans hS (below_new _ _)
        try simp only [Act.put, List.setIfInBounds_toArray, List.set_cons_zero, List.set_cons_succ]
        refine wpAnyH_take (i := 8) (oi := ⟨some 13, _, _, _, _, _⟩) (v := ?_) rfl (by kernel_rfl) (by kernel_rfl) (by kernel_rfl) (fun _ _ _ h => h) (Or.inl ⟨by rfl, ?_⟩) hS ?_
        rotate_left
        · intro W hW; go_simp; with_reducible rfl
        try simp only [Act.put, List.setIfInBounds_toArray, List.set_cons_zero, List.set_cons_succ]
        refine wpAnyH_done (by kernel_rfl) ?_ _
        obtain ⟨w3, hw3⟩ : ∃ w3, w3 = V3 := ⟨_, rfl⟩
        subst hw3
        have HX3 := Lib.hid (HZ2.out.below HV3.out)
        have HB3 := Lib.hid (HB2.out.trans (Below.mono HV3.out HB2.out.size))
        obtain ⟨q1, q2, q3, q4⟩ := own_parts rc_oko HC5.out HT.out.tb.cl
        have HNA := Lib.hid (⟨q2, q3⟩ : n ≤ c5 ∧ Sp A5)
        have HG3 := Lib.hid (show w.heap.size + 1 + 1 < w3.heap.size from HX3.out.lt)
        have HVB := Lib.hid (show ∀ g o, B = some ⟨g, o, none⟩ → g < w.heap.size from HT.out.vb)
        have HW2 := Lib.hid HB2.out.size
        obtain ⟨g, hg⟩ : ∃ g, g = w3.heap.size := ⟨_, rfl⟩
        obtain ⟨w4, hw4⟩ : ∃ w4, w4 = w3.alloc (.cells (hrC x A5 n c5 (.slice none 0 0) B m b) 85) := ⟨_, rfl⟩
        have hb34 : Below w3.heap.size w3 w4 := by rw [hw4]; exact below_new w3 _
        have HH4 := Lib.hid (show Hr w4 g w.heap.size x A5 n c5 t.C (.slice none 0 0) [] B m b t.P from
          ⟨by rw [hw4, hg]; exact Bk.new w3 _ _, HC5.out.below hb34, HT.out.tb.cl, fun q e => by have := (HC5.out.lt q e).2; omega, Rk.Own.nil _ _ _,
            (HT.out.tb.atP.below HB3.out).below hb34, HT.out.tb.pl, HT.out.mb, HT.out.sb, fun b o e => ⟨by have := HVB.out b o e; have := HG3.out; omega, fun e2 => by have h1 := HCX.out b e2; have h2 := HVB.out b o e; have h3 := HW2.out; omega⟩⟩)
        have HZ4 := Lib.hid (HX3.out.below hb34)
        have HB4 := Lib.hid (HB3.out.trans (Below.mono hb34 HB3.out.size))
        have HGG := Lib.hid (show w.heap.size + 1 + 1 < g by have := HG3.out; omega)
        clear q1 q2 q3 q4 hb34 X0 X1 hS HX3 HB3 HX2 HZ2 HB2 HC5
        have HLL := Lib.hid (show ∀ p : Pd, (withL t.P p).length ≤ 1001 from fun p => by have := withL_len1 t.P p; have := HT.out.tb.pl; omega)
        go_upto_if 47 with fail
        rw [← hw4, ← hg]
        clear hw4 hg
        go_cut [] from 46 to 57 (fun wc => ∃ (pv : Value) (X : List Pd) (rA : Option Addr) (rn rc : Nat) (R : List Pd), Hid (Hr wc g w.heap.size x A5 n c5 t.C pv X rA rn rc R) ∧ Hid (X ++ R = withL t.P ⟨(kn : Int), x, max z 0, min z 0⟩) ∧ Hid (X.length + rn ≤ 3000) ∧ Hid (Below g w4 wc))
        case first =>
          rcases Classical.em (z = 0) with hz | hz
          · have q1 : (z != 0) = false := by simp [hz]
            have q2 : (z == 0) = true := by simp [hz]
            have HWL := Lib.hid (show withL t.P ⟨(kn : Int), x, max z 0, min z 0⟩ = t.P by unfold withL; rw [if_pos ⟨by show max z 0 = 0; omega, by show min z 0 = 0; omega⟩])
            clear hz
            go_wp2_with fail
            go_meet
            case rel => exact ⟨_, [], B, m, b, t.P, HH4, by rw [HWL.out]; rfl, by show ([] : List Pd).length + m ≤ 3000; rw [List.length_nil]; omega, Below.refl _ _⟩
          · have q1 : (z != 0) = true := by simp [hz]
            have q2 : (z == 0) = false := by simp [hz]
            obtain ⟨L1, L2, hsp, hl1, hl2⟩ := rise_split HS.out.up (keyP (kn : Int) x)
            have HWL := Lib.hid (show withL t.P ⟨(kn : Int), x, max z 0, min z 0⟩ = L1 ++ putP ⟨(kn : Int), x, max z 0, min z 0⟩ L2 by
              rw [hsp]
              exact with_rise (fun h => hz (by have h1 : max z 0 = 0 := h.1; have h2 : min z 0 = 0 := h.2; omega)) hl1 hl2 (HS.out.up.sub (by rw [hsp]; exact List.sublist_append_right _ _)))
            have hke := keep_any g w.heap.size x A5 n c5 t.C (.slice none 0 0) [] B m b t.P L1 L2 (kn : Int) 0 (max z 0) (min z 0) w4 HH4.out hsp hl1 hl2 (by rw [List.length_nil]; omega)
            clear hsp hl1 hl2 hz
            go_wp2_with fail
            refine hke.mono ?_
            rintro e w5 ⟨rfl, ⟨pv5, rA5, rn5, rc5, hh5, _⟩, ht5⟩
            have hb5 : Below g w4 w5 := ht5.below (fun q h => by rcases h with h | h; omega; cases h) (Nat.le_of_lt HH4.out.bk.lt)
            clear ht5
            have HH5 := Lib.hid hh5
            have HB5 := Lib.hid hb5
            clear hke hh5 hb5
            go_wp2_with fail
            go_meet
            case rel =>
              have he : ([] ++ L1 ++ [putH ⟨(kn : Int), x, max z 0, min z 0⟩ L2]) ++ putT ⟨(kn : Int), x, max z 0, min z 0⟩ L2 = withL t.P ⟨(kn : Int), x, max z 0, min z 0⟩ := by
                rw [HWL.out, putP_eq]; simp
              exact ⟨_, _, _, _, _, _, HH5, he, by
                have h1 := HLL.out ⟨(kn : Int), x, max z 0, min z 0⟩
                rw [← he, List.length_append, HH5.out.rl] at h1
                show _ ≤ 3000
                omega, HB5⟩
        case rest =>
          obtain ⟨pv, X, rA, rn, rc, R, HH6, HWL, HLE, HB6⟩ := hcut
          obtain ⟨w6, hw6⟩ : ∃ w6, w6 = wc := ⟨_, rfl⟩
          subst hw6
          have htb := table_any g w.heap.size x A5 n c5 t.C pv X rA rn rc R (by have := HLE.out; omega) w6 HH6.out
          have HZ6 := Lib.hid (HZ4.out.turn (S := fun q => g ≤ q) ⟨HB6.out.os, HB6.out.tape, HB6.out.output, HB6.out.size, fun q _ hn => HB6.out.block q (by omega)⟩ (by have := HGG.out; omega))
          have HW6 := Lib.hid (show Below w.heap.size w w6 from HB4.out.trans (HB6.out.mono (by have := HGG.out; omega)))
          have HGS := Lib.hid (show g < w6.heap.size from HH6.out.bk.lt)
          clear HH4 HB4 HZ4
          go_wp2_with fail
          refine htb.mono ?_
          rintro e w7 ⟨B7, m7, b7, rfl, hp7, hl7, hm7, hs7, hv7, hc7, hb7⟩
          have HP7 := Lib.hid hp7
          have HC7 := Lib.hid hc7
          have HK7 := Lib.hid (⟨hl7, hm7, hs7⟩ : (X ++ R).length = m7 ∧ m7 ≤ b7 ∧ Sp B7)
          have HV7 := Lib.hid hv7
          have HZ7 := Lib.hid (HZ6.out.turn (S := fun q => g ≤ q) ⟨hb7.os, hb7.tape, hb7.output, hb7.size, fun q _ hn => hb7.block q (by omega)⟩ (by have := HGG.out; omega))
          have HW7 := Lib.hid (show Below w.heap.size w w7 from HW6.out.trans (hb7.mono (by have := HGG.out; omega)))
          clear hp7 hl7 hm7 hs7 hv7 hc7 hb7 htb
          have z0 : w7.cell? ⟨w.heap.size + 1 + 1, 0, none⟩ = some (.slice none 0 0) := HZ7.out.c 0 _ rfl
          have z1 : w7.cell? ⟨w.heap.size + 1 + 1, 1, none⟩ = some (.slice none 0 0) := HZ7.out.c 1 _ rfl
          have f0 := HZ7.out.fr 0
          have f1 := HZ7.out.fr 1
          go_wp2_with fail
          refine bodyPost_ret (v := .tuple #[tbV A5 n c5 B7 m7 b7, .int .i64 0]) (by rw [results_cell_tmp rfl]; go_simp) rfl ⟨A5, n, c5, B7, m7, b7, by rw [HSE.out], ?_, (HW7.out.setCell (show w.heap.size ≤ w.heap.size + 1 + 1 from by omega) _).setCell (show w.heap.size ≤ w.heap.size + 1 + 1 from by omega) _⟩
          have hT := ((Turn.refl (fun q => q = w.heap.size + 1 + 1) w7).setCell ⟨w.heap.size + 1 + 1, 0, none⟩ (.slice A5 n c5) (.inl rfl)).setCell ⟨w.heap.size + 1 + 1, 1, none⟩ (.slice B7 m7 b7) (.inl rfl)
          rw [HST.out, ← HWL.out]
          refine ⟨⟨HT.out.tb.cl, HK7.out.1, HT.out.tb.okC, ?_, HC7.out.turn hT (fun q o e => .inr fun h => by have := HA5.out q o e; omega), HP7.out.turn hT (fun q o e => .inr fun h => by have := (HV7.out q o e).1; have := HGG.out; omega)⟩, HNA.out.1, .inr HNA.out.2, HK7.out.2.1, .inr HK7.out.2.2, fun q o e => Nat.lt_of_lt_of_le (HV7.out q o e).2 hT.size⟩
          rw [HWL.out]
          exact withL_ok HT.out.tb.okP ⟨by show okI (kn : Int); unfold okI; omega, HOX.out, by show okI (max z 0); have := HOZ.out; unfold okI at this ⊢; omega, by show okI (min z 0); have := HOZ.out; unfold okI at this ⊢; omega⟩
  · rw [if_neg h0] at HSE
    rw [HSE.out, if_neg h0] at HST
    have q1 : (mm == 0) = false := by simpa using h0
    have q2 : (mm != 0) = true := by simpa using h0
    clear h0
    have z0 : w1.cell? ⟨w.heap.size + 1 + 1, 0, none⟩ = some (.slice none 0 0) := HZ.out.c 0 _ rfl
    have z1 : w1.cell? ⟨w.heap.size + 1 + 1, 1, none⟩ = some (.slice none 0 0) := HZ.out.c 1 _ rfl
    have f0 := HZ.out.fr 0
    have f1 := HZ.out.fr 1
    go_wp2_with fail
    refine bodyPost_ret (v := .tuple #[tbV none 0 0 none 0 0, .int .i64 mm]) (by rw [results_cell_tmp rfl]; go_simp) rfl ⟨none, 0, 0, none, 0, 0, by rw [HSE.out], by rw [HST.out]; exact TbO.zero _, (HB.out.setCell (show w.heap.size ≤ w.heap.size + 1 + 1 from by omega) _).setCell (show w.heap.size ≤ w.heap.size + 1 + 1 from by omega) _⟩
end Go.Proofs.Ytogngghfdcpeaaa
