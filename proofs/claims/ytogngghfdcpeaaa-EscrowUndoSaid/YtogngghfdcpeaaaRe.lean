/-
  What is seen: the document's answer.
-/
import Derived.Test.YtogngghfdcpeaaaRd
namespace Go.Proofs.Ytogngghfdcpeaaa
set_option maxRecDepth 100000
set_option linter.unusedVariables false
set_option linter.unusedSimpArgs false
open Go.RowKit

theorem may_zero {t : Tb} {T : Tr} {x k : Int} (h : t.may T x k = 0) : t.sane = true ∧ (0 ≤ k ∧ k < (t.C.length : Int)) ∧ (0 ≤ x ∧ x < (T.l.length : Int) ∧ x ≤ 63) ∧ (T.tx x.toNat).s = 1 := by
  unfold Tb.may at h
  split at h
  · omega
  · next h2 =>
    split at h
    · omega
    · next h3 =>
      have hs : t.sane = true := by cases hq : t.sane with | true => rfl | false => exact absurd (.inl hq) h2
      refine ⟨hs, by omega, by omega, ?_⟩
      exact Classical.not_not.1 h3
def Tb.seeV (t : Tb) (T : Tr) (x k : Int) : Int := if t.may T x k = 0 then (seeGo (standsR T x) k t.P (t.C.getD k.toNat ctD).v).getD 0 else 0
def Tb.seeE (t : Tb) (T : Tr) (x k : Int) : Int := if t.may T x k = 0 then (if (seeGo (standsR T x) k t.P (t.C.getD k.toNat ctD).v).isSome = true then 0 else 9) else t.may T x k
theorem seeGo_drop {st : Int → Bool} {k : Int} {P : List Pd} {i : Nat} {p : Pd} (h : P[i]? = some p) (n : Int) :
    seeGo st k (P.drop i) n = if p.c = k then (if st p.x = true then seeGo st k (P.drop (i + 1)) (w64 (w64 (n + p.u) + p.d)) else none) else seeGo st k (P.drop (i + 1)) n := by
  have hl : i < P.length := (List.getElem?_eq_some_iff.1 h).1
  have e : P[i] = p := (List.getElem?_eq_some_iff.1 h).2
  rw [List.drop_eq_getElem_cons hl, e]
  rfl

set_option maxHeartbeats 2000000 in
theorem refsee_any (A B : Option Addr) (n a m b : Nat) (t : Tb) (D : Option Addr) (N d : Nat) (c : Int) (T : Tr) (x k : Int) (hm : m ≤ 1000) (hN : N ≤ 100000) (w : World) (ht : TbAt w A n B m t) (hr : TrAt w D N T) :
    Calls Try.prog 12 #[tbV A n a B m b, trV D N d c, .int .i64 x, .int .i64 k] w fun e w' => e = .returned (.tuple #[.int .i64 (t.seeV T x k), .int .i64 (t.seeE T x k)]) ∧ Below w.heap.size w w' := by
  have HT := Lib.hid ht
  have HR := Lib.hid hr
  have HX := Lib.hid ((Bk.new w (tbC A n a B m b) 25).al (.cells (trC D N d c) 28))
  have HY := Bk.new (w.alloc (.cells (tbC A n a B m b) 25)) (trC D N d c) 28
  rw [size_al] at HY
  have HY := Lib.hid HY
  have HB := Lib.hid (below_two (below_new w (.cells (tbC A n a B m b) 25)) (below_new _ (.cells (trC D N d c) 28)))
  have hmy := fun V hV => refmay_any A B n a m b t D N d c T x k hm V (HT.out.below hV) (HR.out.below hV)
  have HSV : Hid (t.seeV T x k = if t.may T x k = 0 then (seeGo (standsR T x) k t.P (t.C.getD k.toNat ctD).v).getD 0 else 0) := rfl
  have HSE : Hid (t.seeE T x k = if t.may T x k = 0 then (if (seeGo (standsR T x) k t.P (t.C.getD k.toNat ctD).v).isSome = true then 0 else 9) else t.may T x k) := rfl
  have HMZ := Lib.hid (fun h => may_zero (t := t) (T := T) (x := x) (k := k) h)
  have HCS := Lib.hid (t.may_cases T x k)
  clear ht hr
  generalize t.seeV T x k = sv at *
  generalize t.seeE T x k = se at *
  generalize hmm : t.may T x k = mm at *
  have HMM := Lib.hid hmm
  clear hmm
  rcases Classical.em (mm = 0) with h0 | h0
  · subst h0
    obtain ⟨_, ⟨hk0, hk1⟩, _, _⟩ := HMZ.out rfl
    obtain ⟨kn, rfl⟩ : ∃ kn : Nat, k = kn := ⟨k.toNat, by omega⟩
    have hkn : kn < n := by rw [HT.out.cl] at hk1; omega
    rw [Int.toNat_natCast] at HSV HSE
    obtain ⟨b1, o1, hA, hbl, hok, h0, h1, h2⟩ := HT.out.c hkn
    subst hA
    have HBL := Lib.hid hbl
    have HC2 := Lib.hid h2
    generalize (t.C.getD kn ctD).v = vv at *
    have hi1 : (kn : Int) < (n : Int) := by omega
    clear h0 h1 h2 hbl hok hk0 hk1 HMZ HCS
    rw [if_pos rfl] at HSV HSE
    go_enter Try.func12, Try.ntmps12
    go_wp2_with fail
    refine (hmy _ HB.out).mono ?_
    rintro e w1 ⟨rfl, hb⟩
    replace HX := Lib.hid (HX.out.below hb)
    replace HY := Lib.hid (HY.out.below hb)
    replace HB := Lib.hid (HB.out.trans (hb.mono HB.out.size))
    clear hb hmy
    have x0 := HX.out.t0
    have x1 := HX.out.t1
    have c2 := (HB.out.cell (p := ⟨b1, o1 + kn * 3 + 2, none⟩) HBL.out).trans HC2.out
    go_wp2_with fail
    clear x0 x1 c2
    go_loopw [11, 12] (fun v u wr => ∃ (j : Nat) (z : Int), v = .int .i64 z ∧ u = .int .i64 (j : Int) ∧ j ≤ m ∧ Hid (seeGo (standsR T x) (kn : Int) t.P vv = seeGo (standsR T x) (kn : Int) (t.P.drop j) z) ∧ Hid (Bk wr w.heap.size (tbC (some ⟨b1, o1, none⟩) n a B m b) 25) ∧ Hid (Bk wr (w.heap.size + 1) (trC D N d c) 28) ∧ Hid (Below w.heap.size w wr)) (fun _ u _ => m - (intOf u).toNat)
    case atStart => exact ⟨0, vv, rfl, rfl, Nat.zero_le _, Lib.hid rfl, HX, HY, HB⟩
    case round =>
      obtain ⟨j, z, rfl, rfl, hj, HS, HXj, HYj, HBj⟩ := hrel
      have x0 := HXj.out.t0
      have x1 := HXj.out.t1
      have y0 := HYj.out.r_0
      have y1 := HYj.out.r_1
      rcases Nat.lt_or_ge j m with hlt | hge
      · obtain ⟨b2, o2, hB2, hbl, hok, hget, h0, h1, h2, h3⟩ := HT.out.p hlt
        subst hB2
        have hst := seeGo_drop (st := standsR T x) (k := (kn : Int)) hget z
        rw [← HS.out] at hst
        generalize t.P.getD j pdD = p at *
        obtain ⟨pc, px, u, d2⟩ := p
        simp only at hst h0 h1 h2 h3
        have HST := Lib.hid hst
        have HC0 := Lib.hid ((HBj.out.cell (p := ⟨b2, o2 + j * 4, none⟩) hbl).trans h0)
        have HC1 := Lib.hid ((HBj.out.cell (p := ⟨b2, o2 + j * 4 + 1, none⟩) hbl).trans h1)
        have HC2 := Lib.hid ((HBj.out.cell (p := ⟨b2, o2 + j * 4 + 2, none⟩) hbl).trans h2)
        have HC3 := Lib.hid ((HBj.out.cell (p := ⟨b2, o2 + j * 4 + 3, none⟩) hbl).trans h3)
        have HBLJ := Lib.hid (Nat.lt_of_lt_of_le hbl HBj.out.size)
        have hd4 : decide ((j : Int) < (m : Int)) = true := decide_eq_true (by omega)
        have hd5 : decide (j < m) = true := decide_eq_true hlt
        have hi3 : (j : Int) < (m : Int) := by omega
        have hw := fun V (hV : Below wr.heap.size wr V) => refwithin_any D N d T c x px hN V (HR.out.below (HBj.out.trans (hV.mono HBj.out.size)))
        have HW := Lib.hid hw
        have c0 := HC0.out
        clear h0 h1 h2 h3 hbl hok hget hst hw
        rcases Classical.em (pc = (kn : Int)) with hpk | hpk
        · rw [if_pos hpk] at HST
          have q1 : (pc == (kn : Int)) = true := by simpa using hpk
          have q2 : (pc != (kn : Int)) = false := by simp [hpk]
          clear hpk
          go_upto_region 9 with fail
          clear x0 x1 y0 y1 c0 q1 q2
          have X0 : ∀ V, Since wr V → V.cell? ⟨w.heap.size, 1, none⟩ = some (.slice (some ⟨b2, o2, none⟩) m b) := fun V hV => (HXj.out.below hV).t1
          have Y0 : ∀ V, Since wr V → V.cell? ⟨w.heap.size + 1, 0, none⟩ = some (.slice D N d) := fun V hV => (HYj.out.below hV).r_0
          have Y1 : ∀ V, Since wr V → V.cell? ⟨w.heap.size + 1, 1, none⟩ = some (.int .i64 c) := fun V hV => (HYj.out.below hV).r_1
          have C1 : ∀ V, Since wr V → V.cell? ⟨b2, o2 + j * 4 + 1, none⟩ = some (.int .i64 px) := fun V hV => (hV.cell (p := ⟨b2, o2 + j * 4 + 1, none⟩) HBLJ.out).trans HC1.out
          have hw := HW.out
          generalize standsR T x px = sb at *
          refine wp_region_since (by kernel_rfl) ?_
          have hS : Since wr (World.drew wr) := (Below.refl _ _).drew
          refine wpAnyH_take (i := 0) (oi := ⟨some 42, _, _, _, _, _⟩) (v := ?_) rfl (by kernel_rfl) (by kernel_rfl) (by kernel_rfl) (fun _ _ _ h => h) (Or.inl ⟨by rfl, ?_⟩) hS ?_
          rotate_left
          · intro W hW; go_simp; with_reducible rfl
          try simp only [Act.put, List.setIfInBounds_toArray, List.set_cons_zero, List.set_cons_succ]
          refine wpAnyH_take (i := 1) (oi := ⟨some 43, _, _, _, _, _⟩) (v := ?_) rfl (by kernel_rfl) (by kernel_rfl) (by kernel_rfl) (fun _ _ _ h => h) (Or.inl ⟨by rfl, ?_⟩) hS ?_
          rotate_left
          · intro W hW; go_simp; with_reducible rfl
          try simp only [Act.put, List.setIfInBounds_toArray, List.set_cons_zero, List.set_cons_succ]
          refine wpAnyH_take (i := 2) (oi := ⟨some 44, _, _, _, _, _⟩) (v := ?_) rfl (by kernel_rfl) (by kernel_rfl) (by kernel_rfl) (fun _ _ _ h => h) (Or.inl ⟨by rfl, ?_⟩) hS ?_
          rotate_left
          · intro W hW; go_simp; with_reducible rfl
          try simp only [Act.put, List.setIfInBounds_toArray, List.set_cons_zero, List.set_cons_succ]
          refine wpAnyH_take (i := 3) (oi := ⟨some 45, _, _, _, _, _⟩) (v := ?_) rfl (by kernel_rfl) (by kernel_rfl) (by kernel_rfl) (fun _ _ _ h => h) (Or.inl ⟨by rfl, ?_⟩) hS ?_
          rotate_left
          · intro W hW; go_simp; with_reducible rfl
          try simp only [Act.put, List.setIfInBounds_toArray, List.set_cons_zero, List.set_cons_succ]
          refine wpAnyH_take (i := 4) (oi := ⟨some 46, _, _, _, _, _⟩) (v := ?_) rfl (by kernel_rfl) (by kernel_rfl) (by kernel_rfl) (fun _ _ _ h => h) (Or.inl ⟨by rfl, ?_⟩) hS ?_
          rotate_left
          · intro W hW; go_simp; with_reducible rfl
          try simp only [Act.put, List.setIfInBounds_toArray, List.set_cons_zero, List.set_cons_succ]
          refine wpAnyH_take (i := 5) (oi := ⟨some 47, _, _, _, _, _⟩) (v := ?_) rfl (by kernel_rfl) (by kernel_rfl) (by kernel_rfl) (fun _ _ _ h => h) (Or.inl ⟨by rfl, ?_⟩) hS ?_
          rotate_left
          · intro W hW; go_simp; with_reducible rfl
          try simp only [Act.put, List.setIfInBounds_toArray, List.set_cons_zero, List.set_cons_succ]
          refine wpAnyH_take (i := 6) (oi := ⟨some 48, _, _, _, _, _⟩) (v := ?_) rfl (by kernel_rfl) (by kernel_rfl) (by kernel_rfl) (fun _ _ _ h => h) (Or.inl ⟨by rfl, ?_⟩) hS ?_
          rotate_left
          · intro W hW; go_simp; with_reducible rfl
          try simp only [Act.put, List.setIfInBounds_toArray, List.set_cons_zero, List.set_cons_succ]
          refine wpAnyH_take (i := 7) (oi := ⟨some 49, _, _, _, _, _⟩) (v := ?_) rfl (by kernel_rfl) (by kernel_rfl) (by kernel_rfl) (fun _ _ _ h => h) (Or.inl ⟨by rfl, ?_⟩) hS ?_
          rotate_left
          · intro W hW; go_simp; with_reducible rfl
          try simp only [Act.put, List.setIfInBounds_toArray, List.set_cons_zero, List.set_cons_succ]
          refine wpAnyH_ready (rs := [8]) (by kernel_rfl) (by simp) ?_
          refine AllReadyH.cons (o := ⟨some 50, _, _, _, _, _⟩) rfl (fun Kr hKr => ?_) AllReadyH.nil
          -- operation 8: a call
          go_simp
          refine (hw _ hS).mono ?_
          rintro e w4 ⟨rfl, hb4⟩
          show Kr _ _
          refine hKr.out _ _ ?_ (fun _ => ?_)
          · exact since_trans hS hb4
          clear hKr Kr
          replace hS : Since wr w4 := since_trans hS hb4
          try simp only [Act.put, List.setIfInBounds_toArray, List.set_cons_zero, List.set_cons_succ]
          refine wpAnyH_take (i := 9) (oi := ⟨some 51, _, _, _, _, _⟩) (v := ?_) rfl (by kernel_rfl) (by kernel_rfl) (by kernel_rfl) (fun _ _ _ h => h) (Or.inl ⟨by rfl, ?_⟩) hS ?_
          rotate_left
          · intro W hW; go_simp; with_reducible rfl
          try simp only [Act.put, List.setIfInBounds_toArray, List.set_cons_zero, List.set_cons_succ]
          refine wpAnyH_done (by kernel_rfl) ?_ _
          clear X0 Y0 Y1 C1 hw
          have HX4 := Lib.hid (HXj.out.below hS)
          have HY4 := Lib.hid (HYj.out.below hS)
          have HB4 := Lib.hid (HBj.out.trans (hS.mono HBj.out.size))
          cases sb with
          | false =>
            rw [if_neg (by decide)] at HST
            have HF1 := Lib.hid (show sv = 0 from by rw [HSV.out, HST.out]; rfl)
            have HF2 := Lib.hid (show se = 9 from by rw [HSE.out, HST.out]; rfl)
            go_wp2_with fail
            go_ret2
            exact ⟨by rw [HF1.out, HF2.out]; rfl, HB4.out⟩
          | true =>
            rw [if_pos rfl] at HST
            have c2 := (hS.cell (p := ⟨b2, o2 + j * 4 + 2, none⟩) HBLJ.out).trans HC2.out
            have c3 := (hS.cell (p := ⟨b2, o2 + j * 4 + 3, none⟩) HBLJ.out).trans HC3.out
            have x0 := HX4.out.t0
            have x1 := HX4.out.t1
            have ew1 : IntKind.i64.wrap (z + u) = w64 (z + u) := rfl
            have ew2 : IntKind.i64.wrap (w64 (z + u) + d2) = w64 (w64 (z + u) + d2) := rfl
            go_wp2_with fail
            go_quiet (fail)
            go_wp2_with fail
            exact ⟨⟨j + 1, _, rfl, rfl, hlt, HST, Lib.hid (HX4.out.below (below_drewN (Below.refl _ _) _)), Lib.hid (HY4.out.below (below_drewN (Below.refl _ _) _)), Lib.hid (below_drewN HB4.out _)⟩, by simp [intOf]; omega⟩
        · rw [if_neg hpk] at HST
          have q1 : (pc == (kn : Int)) = false := by simpa using hpk
          have q2 : (pc != (kn : Int)) = true := by simpa using hpk
          clear hpk
          go_wp2_with fail
          exact ⟨⟨j + 1, z, rfl, rfl, hlt, HST, HXj, HYj, HBj⟩, by simp [intOf]; omega⟩
      · obtain rfl : j = m := by omega
        have hd4 : decide ((j : Int) < (j : Int)) = false := decide_eq_false (by omega)
        have hd5 : decide (j < j) = false := decide_eq_false (by omega)
        have HD := Lib.hid (show seeGo (standsR T x) (kn : Int) t.P vv = some z from by rw [HS.out, List.drop_of_length_le (by rw [HT.out.pl]; exact Nat.le_refl _)]; rfl)
        have HF1 := Lib.hid (show sv = z from by rw [HSV.out, HD.out]; rfl)
        have HF2 := Lib.hid (show se = 0 from by rw [HSE.out, HD.out]; rfl)
        go_wp2_with fail
        go_ret2
        exact ⟨by rw [HF1.out, HF2.out]; rfl, HBj.out⟩
  · rw [if_neg h0] at HSV HSE
    have q1 : (mm == 0) = false := by simpa using h0
    have q2 : (mm != 0) = true := by simpa using h0
    clear h0
    go_enter Try.func12, Try.ntmps12
    go_wp2_with fail
    refine (hmy _ HB.out).mono ?_
    rintro e w1 ⟨rfl, hb⟩
    replace HB := Lib.hid (HB.out.trans (hb.mono HB.out.size))
    clear hb hmy
    go_wp2_with fail
    go_ret2
    exact ⟨by rw [HSV.out, HSE.out]; rfl, HB.out⟩
end Go.Proofs.Ytogngghfdcpeaaa
