/-
  SpanSums: a sum is the same in whatever order, and of parts' sums.
-/
import Derived.Test.YtimpebilgoekdaaAw
import Derived.Test.YtimpebilgoekdaaRw
import Derived.Test.YtimpebilgoekdaaAp2
namespace Go.Proofs.Ytimpebilgoekdaa
set_option maxRecDepth 100000
set_option linter.unusedVariables false
set_option linter.unusedSimpArgs false
open Go.RowKit

set_option maxHeartbeats 1000000 in
theorem sums_walk (A : Option Addr) (n c : Nat) (l : List Int) (at_ : Int) (w : World) (hl : Ls w A n l) (hcap : n ≤ c) (hsp : c = 0 ∨ Sp A) :
    Calls Try.prog 7 #[.slice A n c, .int .i64 at_] w fun e w' => e = .returned (.bool true) ∧ Below w.heap.size w w' := by
  have HL := Lib.hid hl
  have HCS := Lib.hid (And.intro hcap hsp)
  clear hl hcap hsp
  obtain ⟨t, ht, et⟩ := low at_ 65535 16 (by decide) (by decide)
  go_enter Try.func7, Try.ntmps7
  go_wp2_with fail
  refine (awake_any _).mono ?_
  rintro e w1 ⟨rfl, hb⟩
  have HL1 := Lib.hid (HL.out.below hb)
  have HB := Lib.hid hb
  clear hb HL
  rcases Nat.lt_or_ge 200 n with hbig | hfew
  · have hd : decide ((n : Int) > 200) = true := decide_eq_true (by omega)
    have hd2 : decide ((200 : Int) < (n : Int)) = true := decide_eq_true (by omega)
    have hd3 : decide (200 < n) = true := decide_eq_true hbig
    go_wp2_with fail
    go_ret
    exact ⟨rfl, HB.out⟩
  have hd : decide ((n : Int) > 200) = false := decide_eq_false (by omega)
  have hd2 : decide ((200 : Int) < (n : Int)) = false := decide_eq_false (by omega)
  have hd3 : decide (200 < n) = false := decide_eq_false (by omega)
  obtain ⟨k, hk, hkn⟩ : ∃ k : Nat, (t : Int) % ((n : Int) + 1) = (k : Int) ∧ k ≤ n := ⟨t % (n + 1), by rw [Int.natCast_emod]; rfl, by have := Nat.mod_lt t (show n + 1 > 0 by omega); omega⟩
  have q1 : IntKind.i64.wrap ((n : Int) + 1) = (n : Int) + 1 := by rw [IntKind.wrap_i64]; omega
  have q2 : ¬ (n : Int) + 1 = 0 := by omega
  have q3 : ((n : Int) + 1 == 0) = false := by simpa using q2
  obtain ⟨A1, n1, c1, hD, hDA, r1, r1'⟩ := run_cut_from HL1.out HCS.out.1 HCS.out.2 hkn
  obtain ⟨A2, hT, hTA, r2, r2'⟩ := run_cut_to HL1.out HCS.out.1 HCS.out.2 hkn
  have HD := Lib.hid hD
  have HT := Lib.hid hT
  have HDA := Lib.hid hDA
  have HTA := Lib.hid hTA
  have HDL : Hid ((l.drop k).length = n - k) := by show _ = _; rw [List.length_drop, HL1.out.len]
  have HTL : Hid ((l.take k).length = k) := by show _ = _; rw [List.length_take, HL1.out.len]; omega
  clear hD hT hDA hTA HCS
  go_upto_region 5 with fail
  rw [hk]
  clear hk et ht q1 q2 q3
  refine wp_region_since (by kernel_rfl) ?_
  have hS : Since w1 (World.drew w1) := (Below.refl _ _).drew
  refine wpAnyH_take (i := 1) (oi := ⟨some 32, _, _, _, _, _⟩) (v := ?_) rfl (by kernel_rfl) (by kernel_rfl) (by kernel_rfl) (fun _ _ _ h => h) (Or.inl ⟨by rfl, ?_⟩) hS ?_
  rotate_left
  · intro W hW; go_simp; with_reducible rfl
  try simp only [Act.put, List.setIfInBounds_toArray, List.set_cons_zero, List.set_cons_succ]
  refine wpAnyH_take (i := 2) (oi := ⟨some 33, _, _, _, _, _⟩) (v := ?_) rfl (by kernel_rfl) (by kernel_rfl) (by kernel_rfl) (fun _ _ _ h => h) (Or.inl ⟨by rfl, ?_⟩) hS ?_
  rotate_left
  · intro W hW; go_simp; with_reducible rfl
  try simp only [Act.put, List.setIfInBounds_toArray, List.set_cons_zero, List.set_cons_succ]
  refine wpAnyH_take (i := 3) (oi := ⟨some 34, _, _, _, _, _⟩) (v := ?_) rfl (by kernel_rfl) (by kernel_rfl) (by kernel_rfl) (fun _ _ _ h => h) (Or.inl ⟨by rfl, ?_⟩) hS ?_
  rotate_left
  · intro W hW; go_simp; with_reducible rfl
  try simp only [Act.put, List.setIfInBounds_toArray, List.set_cons_zero, List.set_cons_succ]
  refine wpAnyH_take (i := 5) (oi := ⟨some 36, _, _, _, _, _⟩) (v := ?_) rfl (by kernel_rfl) (by kernel_rfl) (by kernel_rfl) (fun _ _ _ h => h) (Or.inl ⟨by rfl, ?_⟩) hS ?_
  rotate_left
  · intro W hW; go_simp; with_reducible rfl
  try simp only [Act.put, List.setIfInBounds_toArray, List.set_cons_zero, List.set_cons_succ]
  refine wpAnyH_take (i := 6) (oi := ⟨some 37, _, _, _, _, _⟩) (v := ?_) rfl (by kernel_rfl) (by kernel_rfl) (by kernel_rfl) (fun _ _ _ h => h) (Or.inl ⟨by rfl, ?_⟩) hS ?_
  rotate_left
  · intro W hW; go_simp; with_reducible rfl
  try simp only [Act.put, List.setIfInBounds_toArray, List.set_cons_zero, List.set_cons_succ]
  refine wpAnyH_take (i := 7) (oi := ⟨some 38, _, _, _, _, _⟩) (v := ?_) rfl (by kernel_rfl) (by kernel_rfl) (by kernel_rfl) (fun _ _ _ h => h) (Or.inl ⟨by rfl, ?_⟩) hS ?_
  rotate_left
  · intro W hW; go_simp; with_reducible rfl
  try simp only [Act.put, List.setIfInBounds_toArray, List.set_cons_zero, List.set_cons_succ]
  refine wpAnyH_ready (rs := [0]) (by kernel_rfl) (by simp) ?_
  refine AllReadyH.cons (o := ⟨some 31, _, _, _, _, _⟩) rfl (fun Kr hKr => ?_) AllReadyH.nil
  -- operation 0: a step
  try rw [if_pos (by kernel_rfl)]
  go_simp
  have HO0 := Lib.hid (own_lit (World.drew w1) (World.drew w1).heap.size (Nat.le_refl _))
  have HG0 := Lib.hid (below_new (World.drew w1) (.cells #[] 3))
  show Kr _ _
  refine hKr.out _ _ ?_ (fun _ => ?_)
  · exact since_trans hS (below_new _ _)
  clear hKr Kr
  replace hS : Since w1 ((World.drew w1).alloc (.cells #[] 3)) := since_trans hS (below_new _ _)
  try simp only [Act.put, List.setIfInBounds_toArray, List.set_cons_zero, List.set_cons_succ]
  refine wpAnyH_ready (rs := [4]) (by kernel_rfl) (by simp) ?_
  refine AllReadyH.cons (o := ⟨some 35, _, _, _, _, _⟩) rfl (fun Kr hKr => ?_) AllReadyH.nil
  -- operation 4: a step
  try rw [if_pos (by kernel_rfl)]
  refine Rk.wp_append2 ri_ok (.tmp 31) (.tmp 34) rfl (World.drew w1).heap.size (.slice (some ⟨(World.drew w1).heap.size, 0, none⟩) 0 0) [] (l.drop k) rfl HO0.out A1 n1 c1 rfl (HD.out _ hS).at_ (HD.out _ hS).len HDA.out (by rw [HDL.out, List.length_nil]; omega) HG0.out.size ?_
  intro v4 w4 hx1 hg1 ha1
  have HO1 := Lib.hid hx1
  have HG1 := Lib.hid (show Below (World.drew w1).heap.size (World.drew w1) w4 from Below.grown HG0.out hg1 HG0.out.size (fun k e => by have e : some (World.drew w1).heap.size = some k := e; injection e with e; omega))
  have hS4 : Since w1 w4 := since_trans ((Below.refl _ _).drew) HG1.out
  show Kr _ _
  refine hKr.out _ _ ?_ (fun _ => ?_)
  · exact hS4
  clear hKr Kr
  replace hS : Since w1 w4 := hS4
  try simp only [Act.put, List.setIfInBounds_toArray, List.set_cons_zero, List.set_cons_succ]
  refine wpAnyH_ready (rs := [8]) (by kernel_rfl) (by simp) ?_
  refine AllReadyH.cons (o := ⟨some 39, _, _, _, _, _⟩) rfl (fun Kr hKr => ?_) AllReadyH.nil
  -- operation 8: a step
  try rw [if_pos (by kernel_rfl)]
  refine Rk.wp_append2 ri_ok (.tmp 35) (.tmp 38) rfl (World.drew w1).heap.size v4 ([] ++ l.drop k) (l.take k) rfl HO1.out A2 k c (by rfl) (HT.out _ hS).at_ (HT.out _ hS).len HTA.out (by rw [List.nil_append, HDL.out, HTL.out]; omega) HG1.out.size ?_
  intro v8 w8 hx1 hg1 ha1
  have HO2 := Lib.hid hx1
  have HG2 := Lib.hid (show Below (World.drew w1).heap.size (World.drew w1) w8 from Below.grown HG1.out hg1 HG1.out.size (fun k e => (HO1.out.lt k e).1))
  have hS8 : Since w1 w8 := since_trans ((Below.refl _ _).drew) HG2.out
  show Kr _ _
  refine hKr.out _ _ ?_ (fun _ => ?_)
  · exact hS8
  clear hKr Kr
  replace hS : Since w1 w8 := hS8
  try simp only [Act.put, List.setIfInBounds_toArray, List.set_cons_zero, List.set_cons_succ]
  refine wpAnyH_take (i := 9) (oi := ⟨some 7, _, _, _, _, _⟩) (v := ?_) rfl (by kernel_rfl) (by kernel_rfl) (by kernel_rfl) (fun _ _ _ h => h) (Or.inl ⟨by rfl, ?_⟩) hS ?_
  rotate_left
  · intro W hW; go_simp; with_reducible rfl
  try simp only [Act.put, List.setIfInBounds_toArray, List.set_cons_zero, List.set_cons_succ]
  refine wpAnyH_done (by kernel_rfl) ?_ _
  rw [List.nil_append] at HO2
  have hok2 : ∀ z ∈ l.drop k ++ l.take k, okI z := fun z hz => by
    rcases List.mem_append.1 hz with h | h
    · exact HL1.out.ok z (List.mem_of_mem_drop h)
    · exact HL1.out.ok z (List.mem_of_mem_take h)
  obtain ⟨A3, n3, c3, e3, en3, hl3⟩ := own_ls HO2.out hok2
  subst e3
  have hln : l.length = n := HL1.out.len
  have hrs : sumI (l.drop k ++ l.take k) = sumI l := sum_rot l k
  have hrl : (l.drop k ++ l.take k).length = n := by rw [List.length_append, HDL.out, HTL.out]; omega
  have hst : sumI (l.take k) + sumI (l.drop k) = sumI l := by rw [← sumI_append, List.take_append_drop]
  have s0 := fun V hV => sum_any A n c l V (HL1.out.below hV)
  have s3 := fun V hV => sum_any A3 n3 c3 _ V (hl3.below hV)
  have s1 := fun V hV => sum_any A1 n1 c1 _ V (HD.out V hV)
  have s2 := fun V hV => sum_any A2 k c _ V (HT.out V hV)
  rw [sumV_few (by omega), sumE_few (by omega)] at s0
  rw [sumV_few (by omega), sumE_few (by omega), hrs] at s3
  rw [sumV_few (by rw [HDL.out]; omega), sumE_few (by rw [HDL.out]; omega)] at s1
  rw [sumV_few (by rw [HTL.out]; omega), sumE_few (by rw [HTL.out]; omega)] at s2
  replace HB := Lib.hid (HB.out.trans (hS.mono HB.out.size))
  have HW1 := Lib.hid hS
  have HST := Lib.hid hst
  clear hrs hrl hst hln HDL HTL HDA HTA HD HT HO0 HO1 HO2 HG0 HG1 HG2 hS hl3 en3 hok2 hS4 hS8 ha1 hg1 hx1
  generalize sumI (l.drop k) = sd at *
  generalize sumI (l.take k) = st at *
  generalize sumI l = sl at *
  have ht1 := tlE_bd st
  have ht2 := tlE_bd sd
  have HE1 : Hid (tlE st = 0 → tlV st = st ∧ okI st) := fun h => by unfold tlE at h; unfold tlV; split at h <;> simp_all
  have HE2 : Hid (tlE sd = 0 → tlV sd = sd ∧ okI sd) := fun h => by unfold tlE at h; unfold tlV; split at h <;> simp_all
  go_wp2_with fail
  refine (s0 _ HW1.out).mono ?_
  rintro e wa ⟨rfl, hb⟩
  replace HB := Lib.hid (HB.out.trans (hb.mono HB.out.size))
  have HW8 := Lib.hid hb
  replace HW1 := Lib.hid (HW1.out.trans (hb.mono HW1.out.size))
  clear hb s0
  go_wp2_with fail
  refine (s3 _ HW8.out).mono ?_
  rintro e wb ⟨rfl, hb⟩
  replace HB := Lib.hid (HB.out.trans (hb.mono HB.out.size))
  replace HW1 := Lib.hid (HW1.out.trans (hb.mono HW1.out.size))
  clear hb s3 HW8
  go_wp2_with fail
  refine (s2 _ HW1.out).mono ?_
  rintro e wc ⟨rfl, hb⟩
  replace HB := Lib.hid (HB.out.trans (hb.mono HB.out.size))
  replace HW1 := Lib.hid (HW1.out.trans (hb.mono HW1.out.size))
  clear hb s2
  go_wp2_with fail
  refine (s1 _ HW1.out).mono ?_
  rintro e wd ⟨rfl, hb⟩
  replace HB := Lib.hid (HB.out.trans (hb.mono HB.out.size))
  clear hb s1 HW1 HL1
  go_upto_region 12 with fail
  have HOK : Hid ((tlE st = 0 ∧ tlE sd = 0) ∨ ¬ (tlE st = 0 ∧ tlE sd = 0)) := Classical.em _
  rcases HOK.out with ⟨h1, h2⟩ | hno
  · obtain ⟨v1, o1⟩ := HE1.out h1
    obtain ⟨v2, o2⟩ := HE2.out h2
    have hxy : sumV [st, sd] = tlV sl ∧ sumE [st, sd] = tlE sl := by
      rw [sumV_few (by simp), sumE_few (by simp), sumI_cons, sumI_cons, sumI_nil, Int.add_zero, HST.out]; exact ⟨rfl, rfl⟩
    have HLN := Lib.hid (Ls.new wd [st, sd] (by intro x hx; simp at hx; rcases hx with rfl | rfl <;> assumption))
    have h3 := sum_any _ 2 2 _ _ HLN.out
    rw [hxy.1, hxy.2] at h3
    have HBX := Lib.hid (HB.out.trans ((below_new wd (.cells (([st, sd] : List Int).map (Value.int .i64)).toArray 3)).mono HB.out.size))
    rw [h1, h2, v1, v2]
    clear h1 h2 v1 v2 o1 o2 hxy HLN HOK HE1 HE2 ht1 ht2 HST
    generalize tlV sl = sv at *
    generalize tlE sl = se at *
    go_wp2_with fail
    refine h3.mono ?_
    rintro e wf ⟨rfl, hb⟩
    replace HB := Lib.hid (HBX.out.trans (hb.mono HBX.out.size))
    clear hb h3 HBX
    go_upto_region 16 with fail
    have HLG := Ls.new wf [9223372036854775807, 9223372036854775807, -9223372036854775808, -9223372036854775808, 2] (by decide)
    have HBG := Lib.hid (HB.out.trans ((below_new wf (.cells (([9223372036854775807, 9223372036854775807, -9223372036854775808, -9223372036854775808, 2] : List Int).map (Value.int .i64)).toArray 3)).mono HB.out.size))
    have hgr := sum_any _ 5 5 _ _ HLG
    rw [show sumV [9223372036854775807, 9223372036854775807, -9223372036854775808, -9223372036854775808, 2] = 0 from by decide, show sumE [9223372036854775807, 9223372036854775807, -9223372036854775808, -9223372036854775808, 2] = 0 from by decide] at hgr
    clear HLG
    go_wp2_with fail
    refine hgr.mono ?_
    rintro e wg ⟨rfl, hb⟩
    have HBH := Lib.hid (HBG.out.trans (hb.mono HBG.out.size))
    clear hb hgr
    go_wp2_with fail
    go_ret
    exact ⟨rfl, HBH.out⟩
  · clear HE1 HE2 HST HOK
    generalize tlE st = e1 at *
    generalize tlE sd = e2 at *
    rcases ht1 with rfl | rfl
    · obtain rfl : e2 = 12 := by rcases ht2 with h | h; exact absurd ⟨rfl, h⟩ hno; exact h
      clear ht2 hno
      go_upto_region 16 with fail
      have HLG := Ls.new wd [9223372036854775807, 9223372036854775807, -9223372036854775808, -9223372036854775808, 2] (by decide)
      have HBG := Lib.hid (HB.out.trans ((below_new wd (.cells (([9223372036854775807, 9223372036854775807, -9223372036854775808, -9223372036854775808, 2] : List Int).map (Value.int .i64)).toArray 3)).mono HB.out.size))
      have hgr := sum_any _ 5 5 _ _ HLG
      rw [show sumV [9223372036854775807, 9223372036854775807, -9223372036854775808, -9223372036854775808, 2] = 0 from by decide, show sumE [9223372036854775807, 9223372036854775807, -9223372036854775808, -9223372036854775808, 2] = 0 from by decide] at hgr
      clear HLG
      go_wp2_with fail
      refine hgr.mono ?_
      rintro e wg ⟨rfl, hb⟩
      have HBH := Lib.hid (HBG.out.trans (hb.mono HBG.out.size))
      clear hb hgr
      go_wp2_with fail
      go_ret
      exact ⟨rfl, HBH.out⟩
    · clear ht2 hno
      go_upto_region 16 with fail
      have HLG := Ls.new wd [9223372036854775807, 9223372036854775807, -9223372036854775808, -9223372036854775808, 2] (by decide)
      have HBG := Lib.hid (HB.out.trans ((below_new wd (.cells (([9223372036854775807, 9223372036854775807, -9223372036854775808, -9223372036854775808, 2] : List Int).map (Value.int .i64)).toArray 3)).mono HB.out.size))
      have hgr := sum_any _ 5 5 _ _ HLG
      rw [show sumV [9223372036854775807, 9223372036854775807, -9223372036854775808, -9223372036854775808, 2] = 0 from by decide, show sumE [9223372036854775807, 9223372036854775807, -9223372036854775808, -9223372036854775808, 2] = 0 from by decide] at hgr
      clear HLG
      go_wp2_with fail
      refine hgr.mono ?_
      rintro e wg ⟨rfl, hb⟩
      have HBH := Lib.hid (HBG.out.trans (hb.mono HBG.out.size))
      clear hb hgr
      go_wp2_with fail
      go_ret
      exact ⟨rfl, HBH.out⟩
end Go.Proofs.Ytimpebilgoekdaa
