/-
  OplistIs: the walk.
-/
import Derived.Test.YtpphhhalmccnbaaQp
namespace Go.Proofs.Ytpphhhalmccnbaa
set_option maxRecDepth 100000
set_option linter.unusedVariables false
set_option linter.unusedSimpArgs false
open Go.RowKit

theorem do_len {l : List En} {e : En} (h : l.length ≤ 900) : (doE l e).1.length ≤ 1000 := by
  unfold doE
  split
  · split
    · simp; omega
    · simp
  · simp

theorem run_list_o (A : Option Addr) (n c : Nat) (W : World) : (Instr.field 32 (liV A n c) 0).run Try.prog W = .ok (.slice A n c) W := by
  simp only [Instr.field, Sem.run_bind, run_underlying Try.underlying32, Result.andThen_ok, liV]
  go_simp
  simp [asAgg, Result.andThen]

theorem run_list_r (A : Option Addr) (n c : Nat) (W : World) : (Instr.field 24 (liV A n c) 0).run Try.prog W = .ok (.slice A n c) W := by
  simp only [Instr.field, Sem.run_bind, run_underlying Try.underlying24, Result.andThen_ok, liV]
  go_simp
  simp [asAgg, Result.andThen]

set_option maxHeartbeats 8000000 in
theorem is_walk (A0 : Option Addr) (n0 a0 : Nat) (l : List En) (A1 : Option Addr) (N1 d1 : Nat) (c1 : Int) (T1 : Tr) (tx co b : Int) (h2 : okI tx) (h3 : okI co) (h4 : okI b) (a5 : Option Addr) (len5 cap5 : Nat) (l5 : List Int) (w : World)
    (u0 : EsAt REr w A0 n0 l) (s0 : l = [] ∨ Sp A0) (u1 : TrAt w A1 N1 T1) (b5 : Ls w a5 len5 l5) :
    Calls Try.prog 3 #[liV A0 n0 a0, trV A1 N1 d1 c1, .int .i64 tx, .int .i64 co, .int .i64 b, .slice a5 len5 cap5] w fun e w' => e = .returned (.bool true) ∧ Below w.heap.size w w' := by
  have HL := Lib.hid u0
  have HSP := Lib.hid s0
  have HTR := Lib.hid u1
  have HT := Lib.hid b5
  have HOK := Lib.hid (And.intro h2 (And.intro h3 h4))
  have HX := Lib.hid ((Bk.new w (liC A0 n0 a0) 24).al (.cells (trC A1 N1 d1 c1) 27))
  have HY := Bk.new (w.alloc (.cells (liC A0 n0 a0) 24)) (trC A1 N1 d1 c1) 27
  rw [size_al] at HY
  have HY := Lib.hid HY
  have HB := Lib.hid (below_two (below_new w (.cells (liC A0 n0 a0) 24)) (below_new _ (.cells (trC A1 N1 d1 c1) 27)))
  clear u0 s0 u1 b5 h2 h3 h4
  go_enter Try.func3, Try.ntmps3
  go_wp2_with fail
  refine (awake_any _).mono ?_
  rintro r w1 ⟨rfl, hb1⟩
  have HX1 := Lib.hid (HX.out.below hb1)
  have HY1 := Lib.hid (HY.out.below hb1)
  have HB1 := Lib.hid (HB.out.trans (hb1.mono HB.out.size))
  clear hb1
  have x6 : w1.cell? ⟨w.heap.size, 0, none⟩ = some (.slice A0 n0 a0) := HX1.out.c 0 _ rfl
  have x70 := HY1.out.r_0
  have x71 := HY1.out.r_1
  by_cases hbig : 270 < n0 ∨ 66 < N1 ∨ 60 < len5
  · rcases Nat.lt_or_ge 270 n0 with g0 | g0
    · have hd2 : decide ((270 : Int) < (n0 : Int)) = true := decide_eq_true (by omega)
      have hd3 : decide (270 < n0) = true := decide_eq_true (by omega)
      clear hbig
      go_wp2_with fail
      go_ret
      exact ⟨rfl, HB1.out⟩
    · have hd2 : decide ((270 : Int) < (n0 : Int)) = false := decide_eq_false (by omega)
      have hd3 : decide (270 < n0) = false := decide_eq_false (by omega)
      rcases Nat.lt_or_ge 66 N1 with g1 | g1
      · have he2 : decide ((66 : Int) < (N1 : Int)) = true := decide_eq_true (by omega)
        have he3 : decide (66 < N1) = true := decide_eq_true (by omega)
        clear hbig
        go_wp2_with fail
        go_ret
        exact ⟨rfl, HB1.out⟩
      · have he2 : decide ((66 : Int) < (N1 : Int)) = false := decide_eq_false (by omega)
        have he3 : decide (66 < N1) = false := decide_eq_false (by omega)
        have hf2 : decide ((60 : Int) < (len5 : Int)) = true := decide_eq_true (by omega)
        have hf3 : decide (60 < len5) = true := decide_eq_true (by omega)
        clear hbig
        go_wp2_with fail
        go_ret
        exact ⟨rfl, HB1.out⟩
  · have hn0 : n0 ≤ 270 := by omega
    have hN1 : N1 ≤ 66 := by omega
    have hl5 : len5 ≤ 60 := by omega
    have hd2 : decide ((270 : Int) < (n0 : Int)) = false := decide_eq_false (by omega)
    have hd3 : decide (270 < n0) = false := decide_eq_false (by omega)
    have he2 : decide ((66 : Int) < (N1 : Int)) = false := decide_eq_false (by omega)
    have he3 : decide (66 < N1) = false := decide_eq_false (by omega)
    have hf2 : decide ((60 : Int) < (len5 : Int)) = false := decide_eq_false (by omega)
    have hf3 : decide (60 < len5) = false := decide_eq_false (by omega)
    have HOU := Lib.hid (ours_any A0 n0 a0 l (by omega) w1 (HL.out.below HB1.out))
    clear hbig
    go_wp2_with fail
    refine HOU.out.mono ?_
    rintro r w2 ⟨hb2, Ag, cg, rfl, heg, hog⟩
    have hspg : l = [] ∨ Sp Ag ∧ n0 ≤ cg := by
      obtain ⟨A9, c9, e, hle, _, h⟩ := hog.form re_oko
      injection e with e1 e2 e3
      subst e1; subst e3
      refine .inr ⟨by rcases h with h | ⟨g, h, _⟩; exact .inl h; exact .inr ⟨g, 0, h⟩, by rw [heg.len] at hle; exact hle⟩
    have hspg2 : l = [] ∨ Sp Ag := hspg.imp id And.left
    have HSG := Lib.hid hspg2
    have hb3 := hb2.trans ((below_new w2 (.cells (liC Ag n0 cg) 32)).mono hb2.size)
    have HEG := Lib.hid (heg.below (below_new w2 (.cells (liC Ag n0 cg) 32)))
    have HKG := Lib.hid (Bk.new w2 (liC Ag n0 cg) 32)
    have HX3 := Lib.hid (HX1.out.below hb3)
    have HY3 := Lib.hid (HY1.out.below hb3)
    have HB3 := Lib.hid (HB1.out.trans (hb3.mono HB1.out.size))
    clear hb2 heg hog hspg hspg2 hb3 HOU hd2 hd3 he2 he3 hf2 hf3 x6 x70 x71 HX HY HX1 HY1
    go_upto_region 5 with fail
    generalize w2.heap.size = g14 at *
    generalize w2.alloc (.cells #[.slice Ag n0 cg] 32) = w3 at *
    have x14 := HKG.out.c 0 _ rfl
    obtain ⟨dr, hdr⟩ : ∃ dr, dr = doE l (newE tx co b) := ⟨_, rfl⟩
    have hdl : dr.1.length ≤ 1000 := by rw [hdr]; exact do_len (by have := HL.out.len; omega)
    have HDO := Lib.hid (do_any Ag n0 cg l tx co b HOK.out.1 HOK.out.2.1 HOK.out.2.2 (by omega) HSG.out w3 HEG.out)
    have hdf := fun V hV => refdo_any A0 n0 a0 l tx co b HOK.out.1 HOK.out.2.1 HOK.out.2.2 (by omega) HSP.out V (HL.out.below hV)
    rw [← hdr] at HDO
    simp only [← hdr] at hdf
    have HDF := Lib.hid hdf
    clear hdr hdf
    obtain ⟨dl, de⟩ := dr
    have hdl : dl.length ≤ 1000 := hdl
    go_wp2_with fail
    refine HDO.out.mono ?_
    rintro r w4 ⟨hb4, Aa, na, aa, rfl, hea, _, _⟩
    have hb5 := hb4.trans ((below_new w4 (.cells (liC Aa na aa) 32)).mono hb4.size)
    have HEA := Lib.hid (show EsAt REo _ Aa na dl from hea.below (below_new w4 (.cells (liC Aa na aa) 32)))
    have HKA := Lib.hid (Bk.new w4 (liC Aa na aa) 32)
    have HX5 := Lib.hid (HX3.out.below hb5)
    have HY5 := Lib.hid (HY3.out.below hb5)
    have HB5 := Lib.hid (HB3.out.trans (hb5.mono HB3.out.size))
    have HKG5 := Lib.hid (HKG.out.below hb5)
    have HEG5 := Lib.hid (HEG.out.below hb5)
    clear hb4 hea hb5 HDO x14 HX3 HY3 HKG HEG
    go_upto_region 6 with fail
    generalize w4.heap.size = g15 at *
    generalize w4.alloc (.cells #[.slice Aa na aa] 32) = w5 at *
    have x6 : w5.cell? ⟨w.heap.size, 0, none⟩ = some (.slice A0 n0 a0) := HX5.out.c 0 _ rfl
    have HDG := Lib.hid (HDF.out w5 HB5.out)
    go_wp2_with fail
    refine HDG.out.mono ?_
    rintro r w6 ⟨hb6, Ab, nb, ab, rfl, heb⟩
    have hnb : nb = na := by have h1 := heb.len; have h2 := HEA.out.len; rw [← h2]; exact h1.symm
    subst hnb
    have hb7 := hb6.trans ((below_new w6 (.cells (liC Ab nb ab) 24)).mono hb6.size)
    have HEB7 := Lib.hid (show EsAt REr _ Ab nb dl from heb.below (below_new w6 (.cells (liC Ab nb ab) 24)))
    have HKB := Lib.hid (Bk.new w6 (liC Ab nb ab) 24)
    have HX7 := Lib.hid (HX5.out.below hb7)
    have HY7 := Lib.hid (HY5.out.below hb7)
    have HB7 := Lib.hid (HB5.out.trans (hb7.mono HB5.out.size))
    have HKG7 := Lib.hid (HKG5.out.below hb7)
    have HEG7 := Lib.hid (HEG5.out.below hb7)
    have HKA7 := Lib.hid (HKA.out.below hb7)
    have HEA7 := Lib.hid (HEA.out.below hb7)
    clear hb6 heb hb7 HDG x6 HX5 HY5 HKG5 HEG5 HKA HEA HDF
    go_upto_region 7 with fail
    generalize w6.heap.size = g17 at *
    generalize w6.alloc (.cells #[.slice Ab nb ab] 24) = wz at *
    obtain ⟨na, hna⟩ : ∃ na, na = nb := ⟨_, rfl⟩
    subst hna
    have hna3 : na ≤ 3000 := by have := HEA7.out.len; omega
    obtain ⟨sb, hsb⟩ : ∃ sb, sb = saneE l := ⟨_, rfl⟩
    have HSB := Lib.hid hsb
    have HT1 := Lib.hid (fun V (hV : Since wz V) => theirs2_any Aa na aa dl hna3 V (HEA7.out.below hV))
    have HEB := Lib.hid (fun V (hV : Since wz V) => HEB7.out.below hV)
    have HSO := Lib.hid (fun V (hV : Since wz V) => show Calls Try.prog 14 #[liV Ag n0 cg] V fun r w' => r = .returned (.bool sb) ∧ Below V.heap.size V w' from by rw [hsb]; exact sane_any Ag n0 cg l (by omega) V (HEG7.out.below hV))
    have HSR := Lib.hid (fun V (hV : Since wz V) => show Calls Try.prog 15 #[liV A0 n0 a0] V fun r w' => r = .returned (.bool sb) ∧ Below V.heap.size V w' from by rw [hsb]; exact refsane_any A0 n0 a0 l (by omega) V (HL.out.below (HB7.out.trans (hV.mono HB7.out.size))))
    have X15 : ∀ V, Since wz V → V.cell? ⟨g15, 0, none⟩ = some (.slice Aa na aa) := fun V hV => (HKA7.out.below hV).c 0 _ rfl
    have X17 : ∀ V, Since wz V → V.cell? ⟨g17, 0, none⟩ = some (.slice Ab na ab) := fun V hV => (HKB.out.below hV).c 0 _ rfl
    have X14 : ∀ V, Since wz V → V.cell? ⟨g14, 0, none⟩ = some (.slice Ag n0 cg) := fun V hV => (HKG7.out.below hV).c 0 _ rfl
    have X6 : ∀ V, Since wz V → V.cell? ⟨w.heap.size, 0, none⟩ = some (.slice A0 n0 a0) := fun V hV => (HX7.out.below hV).c 0 _ rfl
    have hde : (de != de) = false := by simp
    have hsbb : (sb != sb) = false := by simp
    clear hsb
    refine wp_region_since (by kernel_rfl) ?_
    have hS : Since wz (World.drew wz) := (Below.refl _ _).drew
    refine wpAnyH_take (i := 0) (oi := ⟨some 58, _, _, _, _, _⟩) (v := ?_) rfl (by kernel_rfl) (by kernel_rfl) (by kernel_rfl) (fun _ _ _ h => h) (Or.inl ⟨by rfl, ?_⟩) hS ?_
    rotate_left
    · intro W hW; go_simp; with_reducible rfl
    try simp only [Act.put, List.setIfInBounds_toArray, List.set_cons_zero, List.set_cons_succ]
    refine wpAnyH_take (i := 1) (oi := ⟨some 59, _, _, _, _, _⟩) (v := ?_) rfl (by kernel_rfl) (by kernel_rfl) (by kernel_rfl) (fun _ _ _ h => h) (Or.inl ⟨by rfl, ?_⟩) hS ?_
    rotate_left
    · intro W hW
      have q0 := X15 W hW
      go_simp
      with_reducible rfl
    try simp only [Act.put, List.setIfInBounds_toArray, List.set_cons_zero, List.set_cons_succ]
    refine wpAnyH_take (i := 3) (oi := ⟨some 61, _, _, _, _, _⟩) (v := ?_) rfl (by kernel_rfl) (by kernel_rfl) (by kernel_rfl) (fun _ _ _ h => h) (Or.inl ⟨by rfl, ?_⟩) hS ?_
    rotate_left
    · intro W hW; go_simp; with_reducible rfl
    try simp only [Act.put, List.setIfInBounds_toArray, List.set_cons_zero, List.set_cons_succ]
    refine wpAnyH_take (i := 4) (oi := ⟨some 62, _, _, _, _, _⟩) (v := ?_) rfl (by kernel_rfl) (by kernel_rfl) (by kernel_rfl) (fun _ _ _ h => h) (Or.inl ⟨by rfl, ?_⟩) hS ?_
    rotate_left
    · intro W hW
      have q0 := X17 W hW
      go_simp
      with_reducible rfl
    try simp only [Act.put, List.setIfInBounds_toArray, List.set_cons_zero, List.set_cons_succ]
    refine wpAnyH_ready (rs := [2]) (by kernel_rfl) (by simp) ?_
    refine AllReadyH.cons (o := ⟨some 60, _, _, _, _, _⟩) rfl (fun Kr hKr => ?_) AllReadyH.nil
    -- operation 2: a call
    go_simp
    refine (HT1.out _ hS).mono ?_
    rintro r wt ⟨hbt, At, ct, rfl, het⟩
    have HET := Lib.hid het
    show Kr _ _
    refine hKr.out _ _ ?_ (fun _ => ?_)
    · exact since_trans hS hbt
    clear hKr Kr
    replace hS : Since wz wt := since_trans hS hbt
    try simp only [Act.put, List.setIfInBounds_toArray, List.set_cons_zero, List.set_cons_succ]
    refine wpAnyH_ready (rs := [5]) (by kernel_rfl) (by simp) ?_
    refine AllReadyH.cons (o := ⟨some 63, _, _, _, _, _⟩) rfl (fun Kr hKr => ?_) AllReadyH.nil
    -- operation 5: a call
    go_simp
    refine (same_any At Ab na ct ab _ hna3 _ HET.out (HEB.out _ hS)).mono ?_
    rintro r ws ⟨rfl, hbs⟩
    show Kr _ _
    refine hKr.out _ _ ?_ (fun _ => ?_)
    · exact since_trans hS hbs
    clear hKr Kr
    replace hS : Since wz ws := since_trans hS hbs
    try simp only [Act.put, List.setIfInBounds_toArray, List.set_cons_zero, List.set_cons_succ]
    refine wpAnyH_take (i := 6) (oi := ⟨some 64, _, _, _, _, _⟩) (v := ?_) rfl (by kernel_rfl) (by kernel_rfl) (by kernel_rfl) (fun _ _ _ h => h) (Or.inl ⟨by rfl, ?_⟩) hS ?_
    rotate_left
    · intro W hW; go_simp; with_reducible rfl
    try simp only [Act.put, List.setIfInBounds_toArray, List.set_cons_zero, List.set_cons_succ]
    refine wpAnyH_take (i := 7) (oi := ⟨some 65, _, _, _, _, _⟩) (v := ?_) rfl (by kernel_rfl) (by kernel_rfl) (by kernel_rfl) (fun _ _ _ h => h) (Or.inl ⟨by rfl, ?_⟩) hS ?_
    rotate_left
    · intro W hW; go_simp; with_reducible rfl
    try simp only [Act.put, List.setIfInBounds_toArray, List.set_cons_zero, List.set_cons_succ]
    refine wpAnyH_take (i := 8) (oi := ⟨some 66, _, _, _, _, _⟩) (v := ?_) rfl (by kernel_rfl) (by kernel_rfl) (by kernel_rfl) (fun _ _ _ h => h) (Or.inl ⟨by rfl, ?_⟩) hS ?_
    rotate_left
    · intro W hW; go_simp; with_reducible rfl
    try simp only [Act.put, List.setIfInBounds_toArray, List.set_cons_zero, List.set_cons_succ]
    refine wpAnyH_take (i := 9) (oi := ⟨some 67, _, _, _, _, _⟩) (v := ?_) rfl (by kernel_rfl) (by kernel_rfl) (by kernel_rfl) (fun _ _ _ h => h) (Or.inl ⟨by rfl, ?_⟩) hS ?_
    rotate_left
    · intro W hW; go_simp; with_reducible rfl
    try simp only [Act.put, List.setIfInBounds_toArray, List.set_cons_zero, List.set_cons_succ]
    refine wpAnyH_take (i := 10) (oi := ⟨some 68, _, _, _, _, _⟩) (v := ?_) rfl (by kernel_rfl) (by kernel_rfl) (by kernel_rfl) (fun _ _ _ h => h) (Or.inl ⟨by rfl, ?_⟩) hS ?_
    rotate_left
    · intro W hW; go_simp; with_reducible rfl
    try simp only [Act.put, List.setIfInBounds_toArray, List.set_cons_zero, List.set_cons_succ]
    refine wpAnyH_take (i := 11) (oi := ⟨some 69, _, _, _, _, _⟩) (v := ?_) rfl (by kernel_rfl) (by kernel_rfl) (by kernel_rfl) (fun _ _ _ h => h) (Or.inl ⟨by rfl, ?_⟩) hS ?_
    rotate_left
    · intro W hW; go_simp; with_reducible rfl
    try simp only [Act.put, List.setIfInBounds_toArray, List.set_cons_zero, List.set_cons_succ]
    refine wpAnyH_take (i := 12) (oi := ⟨some 70, _, _, _, _, _⟩) (v := ?_) rfl (by kernel_rfl) (by kernel_rfl) (by kernel_rfl) (fun _ _ _ h => h) (Or.inl ⟨by rfl, ?_⟩) hS ?_
    rotate_left
    · intro W hW; go_simp; with_reducible rfl
    try simp only [Act.put, List.setIfInBounds_toArray, List.set_cons_zero, List.set_cons_succ]
    refine wpAnyH_take (i := 13) (oi := ⟨some 71, _, _, _, _, _⟩) (v := ?_) rfl (by kernel_rfl) (by kernel_rfl) (by kernel_rfl) (fun _ _ _ h => h) (Or.inl ⟨by rfl, ?_⟩) hS ?_
    rotate_left
    · intro W hW
      have q0 := X14 W hW
      go_simp
      with_reducible rfl
    try simp only [Act.put, List.setIfInBounds_toArray, List.set_cons_zero, List.set_cons_succ]
    refine wpAnyH_take (i := 15) (oi := ⟨some 73, _, _, _, _, _⟩) (v := ?_) rfl (by kernel_rfl) (by kernel_rfl) (by kernel_rfl) (fun _ _ _ h => h) (Or.inl ⟨by rfl, ?_⟩) hS ?_
    rotate_left
    · intro W hW
      have q0 := X6 W hW
      go_simp
      with_reducible rfl
    try simp only [Act.put, List.setIfInBounds_toArray, List.set_cons_zero, List.set_cons_succ]
    refine wpAnyH_ready (rs := [14]) (by kernel_rfl) (by simp) ?_
    refine AllReadyH.cons (o := ⟨some 72, _, _, _, _, _⟩) rfl (fun Kr hKr => ?_) AllReadyH.nil
    -- operation 14: a call
    go_simp
    refine (HSO.out _ hS).mono ?_
    rintro r wu ⟨rfl, hbu⟩
    show Kr _ _
    refine hKr.out _ _ ?_ (fun _ => ?_)
    · exact since_trans hS hbu
    clear hKr Kr
    replace hS : Since wz wu := since_trans hS hbu
    try simp only [Act.put, List.setIfInBounds_toArray, List.set_cons_zero, List.set_cons_succ]
    refine wpAnyH_ready (rs := [16]) (by kernel_rfl) (by simp) ?_
    refine AllReadyH.cons (o := ⟨some 74, _, _, _, _, _⟩) rfl (fun Kr hKr => ?_) AllReadyH.nil
    -- operation 16: a call
    go_simp
    refine (HSR.out _ hS).mono ?_
    rintro r wv ⟨rfl, hbv⟩
    show Kr _ _
    refine hKr.out _ _ ?_ (fun _ => ?_)
    · exact since_trans hS hbv
    clear hKr Kr
    replace hS : Since wz wv := since_trans hS hbv
    try simp only [Act.put, List.setIfInBounds_toArray, List.set_cons_zero, List.set_cons_succ]
    refine wpAnyH_take (i := 17) (oi := ⟨some 75, _, _, _, _, _⟩) (v := ?_) rfl (by kernel_rfl) (by kernel_rfl) (by kernel_rfl) (fun _ _ _ h => h) (Or.inl ⟨by rfl, ?_⟩) hS ?_
    rotate_left
    · intro W hW; go_simp; with_reducible rfl
    try simp only [Act.put, List.setIfInBounds_toArray, List.set_cons_zero, List.set_cons_succ]
    refine wpAnyH_take (i := 18) (oi := ⟨some 76, _, _, _, _, _⟩) (v := ?_) rfl (by kernel_rfl) (by kernel_rfl) (by kernel_rfl) (fun _ _ _ h => h) (Or.inl ⟨by rfl, ?_⟩) hS ?_
    rotate_left
    · intro W hW; go_simp; with_reducible rfl
    try simp only [Act.put, List.setIfInBounds_toArray, List.set_cons_zero, List.set_cons_succ]
    refine wpAnyH_done (by kernel_rfl) ?_ _
    have HSS := Lib.hid hS
    clear hS HET
    clear X15 X17 X14 X6 HT1 HEB HSO hde hsbb hbt het hbs hbu hbv
    have HX8 := Lib.hid (HX7.out.below HSS.out)
    have HY8 := Lib.hid (HY7.out.below HSS.out)
    have HB8 := Lib.hid (HB7.out.trans (Below.mono HSS.out HB7.out.size))
    have HKG8 := Lib.hid (HKG7.out.below HSS.out)
    have HEG8 := Lib.hid (HEG7.out.below HSS.out)
    have HSV := Lib.hid (HSR.out wv HSS.out)
    clear HX7 HY7 HKG7 HEG7 HKA7 HEA7 HKB HEB7 HSR HSS HB7
    have x6 : wv.cell? ⟨w.heap.size, 0, none⟩ = some (.slice A0 n0 a0) := HX8.out.c 0 _ rfl
    go_wp2_with fail
    refine HSV.out.mono ?_
    rintro r wx ⟨rfl, hbx⟩
    have HX9 := Lib.hid (HX8.out.below hbx)
    have HY9 := Lib.hid (HY8.out.below hbx)
    have HB9 := Lib.hid (HB8.out.trans (hbx.mono HB8.out.size))
    have HKG9 := Lib.hid (HKG8.out.below hbx)
    have HEG9 := Lib.hid (HEG8.out.below hbx)
    clear hbx x6 HSV HX8 HY8 HKG8 HEG8 HB8
    cases sb with
    | false =>
      go_wp2_with fail
      go_ret
      exact ⟨rfl, HB9.out⟩
    | true =>
      obtain ⟨P, hP⟩ := saneE_iff.mp HSB.out.symm
      have HPP := Lib.hid hP
      clear hP HSB
      have x14 := HKG9.out.c 0 _ rfl
      have HN1 := Lib.hid (net_any Ag n0 cg l co (by omega) wx HEG9.out)
      have hnr := fun V hV => refnet_any A0 n0 a0 l co (by omega) V (HL.out.below hV)
      obtain ⟨sv, hsv⟩ : ∃ sv, sv = sumV (netE l co) := ⟨_, rfl⟩
      obtain ⟨se, hse⟩ : ∃ se, se = sumE (netE l co) := ⟨_, rfl⟩
      rw [← hsv, ← hse] at HN1
      simp only [← hsv, ← hse] at hnr
      have HNR := Lib.hid hnr
      clear hsv hse hnr
      go_wp2_with fail
      refine HN1.out.mono ?_
      rintro r wp ⟨rfl, hbp⟩
      have HXp := Lib.hid (HX9.out.below hbp)
      have HYp := Lib.hid (HY9.out.below hbp)
      have HBp := Lib.hid (HB9.out.trans (hbp.mono HB9.out.size))
      have HKGp := Lib.hid (HKG9.out.below hbp)
      have HEGp := Lib.hid (HEG9.out.below hbp)
      clear hbp x14 HN1 HX9 HY9 HKG9 HEG9 HB9
      have x6 : wp.cell? ⟨w.heap.size, 0, none⟩ = some (.slice A0 n0 a0) := HXp.out.c 0 _ rfl
      have HN2 := Lib.hid (HNR.out wp HBp.out)
      go_wp2_with fail
      refine HN2.out.mono ?_
      rintro r wy ⟨rfl, hby⟩
      have HXy := Lib.hid (HXp.out.below hby)
      have HYy := Lib.hid (HYp.out.below hby)
      have HBy := Lib.hid (HBp.out.trans (hby.mono HBp.out.size))
      have HKGy := Lib.hid (HKGp.out.below hby)
      have HEGy := Lib.hid (HEGp.out.below hby)
      clear hby x6 HN2 HXp HYp HKGp HEGp HBp HNR
      have HLR := Lib.hid (fun V (hV : Since wy V) => HL.out.below (HBy.out.trans (Below.mono hV HBy.out.size)))
      have HLO := Lib.hid (fun V (hV : Since wy V) => HEGy.out.below hV)
      have HTV := Lib.hid (fun V (hV : Since wy V) => HT.out.below (HBy.out.trans (Below.mono hV HBy.out.size)))
      have HUO := Lib.hid (fun V (hV : Since wy V) => undo_any Ag n0 cg l P a5 len5 cap5 l5 HPP.out.op (by omega) (by omega) HSG.out V (HLO.out V hV) (HTV.out V hV))
      have HUR := Lib.hid (fun V (hV : Since wy V) => refundo_any A0 n0 a0 l P a5 len5 cap5 l5 HPP.out.op (by omega) (by omega) HSP.out V (HLR.out V hV) (HTV.out V hV))
      have HWL := Lib.hid (show (withU (amongE l5) l P).length ≤ 1000 from by unfold withU; rw [List.length_append]; have h1 := undoL_le (sel := amongE l5) (P := P); have h2 := (open_fit HPP.out.op).len; have h3 := HL.out.len; omega)
      obtain ⟨mo, hmo⟩ : ∃ mo, (openT P tx).length = mo := ⟨_, rfl⟩
      have hmo1000 : mo ≤ 1000 := by rw [← hmo]; have h1 := openT_few (open_fit HPP.out.op) (t := tx); have h2 := HL.out.len; omega
      have HOO := Lib.hid (fun V (hV : Since wy V) => open2_any Ag n0 cg mo l P tx HPP.out.op (by omega) V (HLO.out V hV) hmo)
      have HOR := Lib.hid (fun V (hV : Since wy V) => refopen2_any A0 n0 a0 mo l P tx HPP.out.op (by omega) V (HLR.out V hV) hmo)
      have HGV := Lib.hid (fun V (hV : Since wy V) => grove_any A1 N1 d1 c1 T1 (by omega) V (HTR.out.below (HBy.out.trans (Below.mono hV HBy.out.size))))
      obtain ⟨mp, hmp⟩ : ∃ mp, (opsO (pickO (fun e => standsR T1 e.t tx) P)).length = mp := ⟨_, rfl⟩
      have HMP := Lib.hid hmp
      have hmp1000 : mp ≤ 1000 := by rw [← hmp, opsO_len]; have h1 := pickO_le (sel := fun e => standsR T1 e.t tx) (P := P); have h2 := (open_fit HPP.out.op).len; have h3 := HL.out.len; omega
      have HPO := Lib.hid (fun V (hV : Since wy V) (Ag2 : Option Addr) (ag : Nat) (ht : TrAto V Ag2 N1 T1) => show Calls Try.prog 23 #[liV Ag n0 cg, trV Ag2 N1 ag c1, .int .i64 tx] V fun r w' => Below V.heap.size V w' ∧ ∃ A' c', r = .returned (.slice A' mp c') ∧ RQ.At w' A' (opsO (pickO (fun e => standsR T1 e.t tx) P)) from by
        refine (ops_any Ag n0 cg l P Ag2 N1 ag T1 c1 tx HPP.out.op HPP.out.may (by omega) ht.len (by omega) V (HLO.out V hV) ht.at_).mono ?_
        rintro r w' ⟨v, rfl, ho, hb⟩
        obtain ⟨A', c', rfl⟩ := own_slice rq_ok ho HMP.out
        exact ⟨hb, A', c', rfl, ho.at_ rq_ok⟩)
      have HPR := Lib.hid (fun V (hV : Since wy V) => show Calls Try.prog 25 #[liV A0 n0 a0, trV A1 N1 d1 c1, .int .i64 tx] V fun r w' => Below V.heap.size V w' ∧ ∃ A' c', r = .returned (.slice A' mp c') ∧ RQ.At w' A' (opsO (pickO (fun e => standsR T1 e.t tx) P)) from by
        refine (refops_any A0 n0 a0 l P A1 N1 d1 T1 c1 tx HPP.out.op (by omega) (by omega) V (HLR.out V hV) (HTR.out.below (HBy.out.trans (Below.mono hV HBy.out.size)))).mono ?_
        rintro r w' ⟨v, rfl, ho, hb⟩
        obtain ⟨A', c', rfl⟩ := own_slice rq_ok ho HMP.out
        exact ⟨hb, A', c', rfl, ho.at_ rq_ok⟩)
      have HTO := Lib.hid (fun V (hV : Since wy V) => theirs2_any Ag n0 cg l (by omega) V (HLO.out V hV))
      have X14 : ∀ V, Since wy V → V.cell? ⟨g14, 0, none⟩ = some (.slice Ag n0 cg) := fun V hV => (HKGy.out.below hV).c 0 _ rfl
      have X6 : ∀ V, Since wy V → V.cell? ⟨w.heap.size, 0, none⟩ = some (.slice A0 n0 a0) := fun V hV => (HXy.out.below hV).c 0 _ rfl
      have X70 : ∀ V, Since wy V → V.cell? ⟨w.heap.size + 1, 0, none⟩ = some (.slice A1 N1 d1) := fun V hV => (HYy.out.below hV).r_0
      have X71 : ∀ V, Since wy V → V.cell? ⟨w.heap.size + 1, 1, none⟩ = some (.int .i64 c1) := fun V hV => (HYy.out.below hV).r_1
      have hq1 : (sv == sv) = true := by simp
      have hq2 : (se == se) = true := by simp
      clear hmo hmp
      go_upto_region 13 with fail
      refine wp_region_since (by kernel_rfl) ?_
      have hS : Since wy (World.drew wy) := (Below.refl _ _).drew
      refine wpAnyH_take (i := 0) (oi := ⟨some 93, _, _, _, _, _⟩) (v := ?_) rfl (by kernel_rfl) (by kernel_rfl) (by kernel_rfl) (fun _ _ _ h => h) (Or.inl ⟨by rfl, ?_⟩) hS ?_
      rotate_left
      · intro W hW; go_simp; with_reducible rfl
      try simp only [Act.put, List.setIfInBounds_toArray, List.set_cons_zero, List.set_cons_succ]
      refine wpAnyH_take (i := 1) (oi := ⟨some 94, _, _, _, _, _⟩) (v := ?_) rfl (by kernel_rfl) (by kernel_rfl) (by kernel_rfl) (fun _ _ _ h => h) (Or.inl ⟨by rfl, ?_⟩) hS ?_
      rotate_left
      · intro W hW; go_simp; with_reducible rfl
      try simp only [Act.put, List.setIfInBounds_toArray, List.set_cons_zero, List.set_cons_succ]
      refine wpAnyH_take (i := 2) (oi := ⟨some 95, _, _, _, _, _⟩) (v := ?_) rfl (by kernel_rfl) (by kernel_rfl) (by kernel_rfl) (fun _ _ _ h => h) (Or.inl ⟨by rfl, ?_⟩) hS ?_
      rotate_left
      · intro W hW; go_simp; with_reducible rfl
      try simp only [Act.put, List.setIfInBounds_toArray, List.set_cons_zero, List.set_cons_succ]
      refine wpAnyH_take (i := 3) (oi := ⟨some 96, _, _, _, _, _⟩) (v := ?_) rfl (by kernel_rfl) (by kernel_rfl) (by kernel_rfl) (fun _ _ _ h => h) (Or.inl ⟨by rfl, ?_⟩) hS ?_
      rotate_left
      · intro W hW; go_simp; with_reducible rfl
      try simp only [Act.put, List.setIfInBounds_toArray, List.set_cons_zero, List.set_cons_succ]
      refine wpAnyH_take (i := 4) (oi := ⟨some 97, _, _, _, _, _⟩) (v := ?_) rfl (by kernel_rfl) (by kernel_rfl) (by kernel_rfl) (fun _ _ _ h => h) (Or.inl ⟨by rfl, ?_⟩) hS ?_
      rotate_left
      · intro W hW; go_simp; with_reducible rfl
      try simp only [Act.put, List.setIfInBounds_toArray, List.set_cons_zero, List.set_cons_succ]
      refine wpAnyH_take (i := 5) (oi := ⟨some 98, _, _, _, _, _⟩) (v := ?_) rfl (by kernel_rfl) (by kernel_rfl) (by kernel_rfl) (fun _ _ _ h => h) (Or.inl ⟨by rfl, ?_⟩) hS ?_
      rotate_left
      · intro W hW; go_simp; with_reducible rfl
      try simp only [Act.put, List.setIfInBounds_toArray, List.set_cons_zero, List.set_cons_succ]
      refine wpAnyH_take (i := 6) (oi := ⟨some 99, _, _, _, _, _⟩) (v := ?_) rfl (by kernel_rfl) (by kernel_rfl) (by kernel_rfl) (fun _ _ _ h => h) (Or.inl ⟨by rfl, ?_⟩) hS ?_
      rotate_left
      · intro W hW; go_simp; with_reducible rfl
      try simp only [Act.put, List.setIfInBounds_toArray, List.set_cons_zero, List.set_cons_succ]
      refine wpAnyH_take (i := 7) (oi := ⟨some 100, _, _, _, _, _⟩) (v := ?_) rfl (by kernel_rfl) (by kernel_rfl) (by kernel_rfl) (fun _ _ _ h => h) (Or.inl ⟨by rfl, ?_⟩) hS ?_
      rotate_left
      · intro W hW; go_simp; with_reducible rfl
      try simp only [Act.put, List.setIfInBounds_toArray, List.set_cons_zero, List.set_cons_succ]
      refine wpAnyH_take (i := 8) (oi := ⟨some 101, _, _, _, _, _⟩) (v := ?_) rfl (by kernel_rfl) (by kernel_rfl) (by kernel_rfl) (fun _ _ _ h => h) (Or.inl ⟨by rfl, ?_⟩) hS ?_
      rotate_left
      · intro W hW; go_simp; with_reducible rfl
      try simp only [Act.put, List.setIfInBounds_toArray, List.set_cons_zero, List.set_cons_succ]
      refine wpAnyH_take (i := 9) (oi := ⟨some 102, _, _, _, _, _⟩) (v := ?_) rfl (by kernel_rfl) (by kernel_rfl) (by kernel_rfl) (fun _ _ _ h => h) (Or.inl ⟨by rfl, ?_⟩) hS ?_
      rotate_left
      · intro W hW; go_simp; with_reducible rfl
      try simp only [Act.put, List.setIfInBounds_toArray, List.set_cons_zero, List.set_cons_succ]
      refine wpAnyH_take (i := 10) (oi := ⟨some 103, _, _, _, _, _⟩) (v := ?_) rfl (by kernel_rfl) (by kernel_rfl) (by kernel_rfl) (fun _ _ _ h => h) (Or.inl ⟨by rfl, ?_⟩) hS ?_
      rotate_left
      · intro W hW; go_simp; with_reducible rfl
      try simp only [Act.put, List.setIfInBounds_toArray, List.set_cons_zero, List.set_cons_succ]
      refine wpAnyH_take (i := 11) (oi := ⟨some 104, _, _, _, _, _⟩) (v := ?_) rfl (by kernel_rfl) (by kernel_rfl) (by kernel_rfl) (fun _ _ _ h => h) (Or.inl ⟨by rfl, ?_⟩) hS ?_
      rotate_left
      · intro W hW; go_simp; with_reducible rfl
      try simp only [Act.put, List.setIfInBounds_toArray, List.set_cons_zero, List.set_cons_succ]
      refine wpAnyH_take (i := 12) (oi := ⟨some 105, _, _, _, _, _⟩) (v := ?_) rfl (by kernel_rfl) (by kernel_rfl) (by kernel_rfl) (fun _ _ _ h => h) (Or.inl ⟨by rfl, ?_⟩) hS ?_
      rotate_left
      · intro W hW
        have q0 := X14 W hW
        go_simp
        with_reducible rfl
      try simp only [Act.put, List.setIfInBounds_toArray, List.set_cons_zero, List.set_cons_succ]
      refine wpAnyH_take (i := 13) (oi := ⟨some 106, _, _, _, _, _⟩) (v := ?_) rfl (by kernel_rfl) (by kernel_rfl) (by kernel_rfl) (fun _ _ _ h => h) (Or.inl ⟨by rfl, ?_⟩) hS ?_
      rotate_left
      · intro W hW; go_simp; with_reducible rfl
      try simp only [Act.put, List.setIfInBounds_toArray, List.set_cons_zero, List.set_cons_succ]
      refine wpAnyH_take (i := 17) (oi := ⟨some 110, _, _, _, _, _⟩) (v := ?_) rfl (by kernel_rfl) (by kernel_rfl) (by kernel_rfl) (fun _ _ _ h => h) (Or.inl ⟨by rfl, ?_⟩) hS ?_
      rotate_left
      · intro W hW
        have q0 := X6 W hW
        go_simp
        with_reducible rfl
      try simp only [Act.put, List.setIfInBounds_toArray, List.set_cons_zero, List.set_cons_succ]
      refine wpAnyH_take (i := 18) (oi := ⟨some 111, _, _, _, _, _⟩) (v := ?_) rfl (by kernel_rfl) (by kernel_rfl) (by kernel_rfl) (fun _ _ _ h => h) (Or.inl ⟨by rfl, ?_⟩) hS ?_
      rotate_left
      · intro W hW; go_simp; with_reducible rfl
      try simp only [Act.put, List.setIfInBounds_toArray, List.set_cons_zero, List.set_cons_succ]
      refine wpAnyH_ready (rs := [14]) (by kernel_rfl) (by simp) ?_
      refine AllReadyH.cons (o := ⟨some 107, _, _, _, _, _⟩) rfl (fun Kr hKr => ?_) AllReadyH.nil
      -- operation 14: a call
      go_simp
      refine (HUO.out _ hS).mono ?_
      rintro r wa ⟨hba, Au, nu, cu, rfl, heu, _, _⟩
      have HEU := Lib.hid heu
      have hnu : nu ≤ 1000 := by have h1 := HEU.out.len; have h2 := HWL.out; omega
      show Kr _ _
      refine hKr.out _ _ ?_ (fun _ => ?_)
      · exact since_trans hS hba
      clear hKr Kr
      replace hS : Since wy wa := since_trans hS hba
      try simp only [Act.put, List.setIfInBounds_toArray, List.set_cons_zero, List.set_cons_succ]
      refine wpAnyH_take (i := 15) (oi := ⟨some 108, _, _, _, _, _⟩) (v := ?_) rfl (by kernel_rfl) (by kernel_rfl) (by kernel_rfl) (fun _ _ _ h => h) (Or.inl ⟨by rfl, ?_⟩) hS ?_
      rotate_left
      · intro W hW
        have q0 := run_list_o Au nu cu W
        go_simp
        with_reducible rfl
      try simp only [Act.put, List.setIfInBounds_toArray, List.set_cons_zero, List.set_cons_succ]
      refine wpAnyH_ready (rs := [16]) (by kernel_rfl) (by simp) ?_
      refine AllReadyH.cons (o := ⟨some 109, _, _, _, _, _⟩) rfl (fun Kr hKr => ?_) AllReadyH.nil
      -- operation 16: a call
      go_simp
      refine (theirs2_any Au nu cu _ (by omega) _ HEU.out).mono ?_
      rintro r wb ⟨hbb, At, ct, rfl, het⟩
      have HET := Lib.hid het
      show Kr _ _
      refine hKr.out _ _ ?_ (fun _ => ?_)
      · exact since_trans hS hbb
      clear hKr Kr
      replace hS : Since wy wb := since_trans hS hbb
      try simp only [Act.put, List.setIfInBounds_toArray, List.set_cons_zero, List.set_cons_succ]
      refine wpAnyH_ready (rs := [19]) (by kernel_rfl) (by simp) ?_
      refine AllReadyH.cons (o := ⟨some 112, _, _, _, _, _⟩) rfl (fun Kr hKr => ?_) AllReadyH.nil
      -- operation 19: a call
      go_simp
      refine (HUR.out _ hS).mono ?_
      rintro r wc ⟨hbc, Av, nv, av, rfl, hev⟩
      have hnv : nv = nu := by have h1 := hev.len; have h2 := HEU.out.len; omega
      subst hnv
      have HEV := Lib.hid hev
      replace HET := Lib.hid (HET.out.below hbc)
      clear hev
      show Kr _ _
      refine hKr.out _ _ ?_ (fun _ => ?_)
      · exact since_trans hS hbc
      clear hKr Kr
      replace hS : Since wy wc := since_trans hS hbc
      try simp only [Act.put, List.setIfInBounds_toArray, List.set_cons_zero, List.set_cons_succ]
      refine wpAnyH_take (i := 20) (oi := ⟨some 113, _, _, _, _, _⟩) (v := ?_) rfl (by kernel_rfl) (by kernel_rfl) (by kernel_rfl) (fun _ _ _ h => h) (Or.inl ⟨by rfl, ?_⟩) hS ?_
      rotate_left
      · intro W hW
        have q0 := run_list_r Av nv av W
        go_simp
        with_reducible rfl
      try simp only [Act.put, List.setIfInBounds_toArray, List.set_cons_zero, List.set_cons_succ]
      refine wpAnyH_ready (rs := [21]) (by kernel_rfl) (by simp) ?_
      refine AllReadyH.cons (o := ⟨some 114, _, _, _, _, _⟩) rfl (fun Kr hKr => ?_) AllReadyH.nil
      -- operation 21: a call
      go_simp
      refine (same_any At Av _ ct av _ (by omega) _ HET.out HEV.out).mono ?_
      rintro r wd ⟨rfl, hbd⟩
      clear HET HEV HEU
      show Kr _ _
      refine hKr.out _ _ ?_ (fun _ => ?_)
      · exact since_trans hS hbd
      clear hKr Kr
      replace hS : Since wy wd := since_trans hS hbd
      try simp only [Act.put, List.setIfInBounds_toArray, List.set_cons_zero, List.set_cons_succ]
      refine wpAnyH_take (i := 22) (oi := ⟨some 115, _, _, _, _, _⟩) (v := ?_) rfl (by kernel_rfl) (by kernel_rfl) (by kernel_rfl) (fun _ _ _ h => h) (Or.inl ⟨by rfl, ?_⟩) hS ?_
      rotate_left
      · intro W hW; go_simp; with_reducible rfl
      try simp only [Act.put, List.setIfInBounds_toArray, List.set_cons_zero, List.set_cons_succ]
      refine wpAnyH_take (i := 23) (oi := ⟨some 116, _, _, _, _, _⟩) (v := ?_) rfl (by kernel_rfl) (by kernel_rfl) (by kernel_rfl) (fun _ _ _ h => h) (Or.inl ⟨by rfl, ?_⟩) hS ?_
      rotate_left
      · intro W hW; go_simp; with_reducible rfl
      try simp only [Act.put, List.setIfInBounds_toArray, List.set_cons_zero, List.set_cons_succ]
      refine wpAnyH_take (i := 24) (oi := ⟨some 117, _, _, _, _, _⟩) (v := ?_) rfl (by kernel_rfl) (by kernel_rfl) (by kernel_rfl) (fun _ _ _ h => h) (Or.inl ⟨by rfl, ?_⟩) hS ?_
      rotate_left
      · intro W hW
        have q0 := X14 W hW
        go_simp
        with_reducible rfl
      try simp only [Act.put, List.setIfInBounds_toArray, List.set_cons_zero, List.set_cons_succ]
      refine wpAnyH_take (i := 25) (oi := ⟨some 118, _, _, _, _, _⟩) (v := ?_) rfl (by kernel_rfl) (by kernel_rfl) (by kernel_rfl) (fun _ _ _ h => h) (Or.inl ⟨by rfl, ?_⟩) hS ?_
      rotate_left
      · intro W hW; go_simp; with_reducible rfl
      try simp only [Act.put, List.setIfInBounds_toArray, List.set_cons_zero, List.set_cons_succ]
      refine wpAnyH_take (i := 28) (oi := ⟨some 121, _, _, _, _, _⟩) (v := ?_) rfl (by kernel_rfl) (by kernel_rfl) (by kernel_rfl) (fun _ _ _ h => h) (Or.inl ⟨by rfl, ?_⟩) hS ?_
      rotate_left
      · intro W hW
        have q0 := X6 W hW
        go_simp
        with_reducible rfl
      try simp only [Act.put, List.setIfInBounds_toArray, List.set_cons_zero, List.set_cons_succ]
      refine wpAnyH_take (i := 29) (oi := ⟨some 122, _, _, _, _, _⟩) (v := ?_) rfl (by kernel_rfl) (by kernel_rfl) (by kernel_rfl) (fun _ _ _ h => h) (Or.inl ⟨by rfl, ?_⟩) hS ?_
      rotate_left
      · intro W hW; go_simp; with_reducible rfl
      try simp only [Act.put, List.setIfInBounds_toArray, List.set_cons_zero, List.set_cons_succ]
      refine wpAnyH_ready (rs := [26]) (by kernel_rfl) (by simp) ?_
      refine AllReadyH.cons (o := ⟨some 119, _, _, _, _, _⟩) rfl (fun Kr hKr => ?_) AllReadyH.nil
      -- operation 26: a call
      go_simp
      refine (HOO.out _ hS).mono ?_
      rintro r we ⟨hbe, Ao, co, rfl, heo⟩
      have HEO := Lib.hid heo
      show Kr _ _
      refine hKr.out _ _ ?_ (fun _ => ?_)
      · exact since_trans hS hbe
      clear hKr Kr
      replace hS : Since wy we := since_trans hS hbe
      try simp only [Act.put, List.setIfInBounds_toArray, List.set_cons_zero, List.set_cons_succ]
      refine wpAnyH_ready (rs := [27]) (by kernel_rfl) (by simp) ?_
      refine AllReadyH.cons (o := ⟨some 120, _, _, _, _, _⟩) rfl (fun Kr hKr => ?_) AllReadyH.nil
      -- operation 27: a call
      go_simp
      refine (theirs2_any Ao mo co _ (by omega) _ HEO.out).mono ?_
      rintro r wf ⟨hbf, Ap, cp, rfl, hep⟩
      have HEP := Lib.hid hep
      show Kr _ _
      refine hKr.out _ _ ?_ (fun _ => ?_)
      · exact since_trans hS hbf
      clear hKr Kr
      replace hS : Since wy wf := since_trans hS hbf
      try simp only [Act.put, List.setIfInBounds_toArray, List.set_cons_zero, List.set_cons_succ]
      refine wpAnyH_ready (rs := [30]) (by kernel_rfl) (by simp) ?_
      refine AllReadyH.cons (o := ⟨some 123, _, _, _, _, _⟩) rfl (fun Kr hKr => ?_) AllReadyH.nil
      -- operation 30: a call
      go_simp
      refine (HOR.out _ hS).mono ?_
      rintro r wg ⟨hbg, Aq, cq, rfl, heq⟩
      have HEQ := Lib.hid heq
      replace HEP := Lib.hid (HEP.out.below hbg)
      show Kr _ _
      refine hKr.out _ _ ?_ (fun _ => ?_)
      · exact since_trans hS hbg
      clear hKr Kr
      replace hS : Since wy wg := since_trans hS hbg
      try simp only [Act.put, List.setIfInBounds_toArray, List.set_cons_zero, List.set_cons_succ]
      refine wpAnyH_ready (rs := [31]) (by kernel_rfl) (by simp) ?_
      refine AllReadyH.cons (o := ⟨some 124, _, _, _, _, _⟩) rfl (fun Kr hKr => ?_) AllReadyH.nil
      -- operation 31: a call
      go_simp
      refine (same_any Ap Aq mo cp cq _ (by omega) _ HEP.out HEQ.out).mono ?_
      rintro r wh ⟨rfl, hbh⟩
      clear HEP HEQ HEO
      show Kr _ _
      refine hKr.out _ _ ?_ (fun _ => ?_)
      · exact since_trans hS hbh
      clear hKr Kr
      replace hS : Since wy wh := since_trans hS hbh
      try simp only [Act.put, List.setIfInBounds_toArray, List.set_cons_zero, List.set_cons_succ]
      refine wpAnyH_take (i := 32) (oi := ⟨some 125, _, _, _, _, _⟩) (v := ?_) rfl (by kernel_rfl) (by kernel_rfl) (by kernel_rfl) (fun _ _ _ h => h) (Or.inl ⟨by rfl, ?_⟩) hS ?_
      rotate_left
      · intro W hW; go_simp; with_reducible rfl
      try simp only [Act.put, List.setIfInBounds_toArray, List.set_cons_zero, List.set_cons_succ]
      refine wpAnyH_take (i := 33) (oi := ⟨some 126, _, _, _, _, _⟩) (v := ?_) rfl (by kernel_rfl) (by kernel_rfl) (by kernel_rfl) (fun _ _ _ h => h) (Or.inl ⟨by rfl, ?_⟩) hS ?_
      rotate_left
      · intro W hW; go_simp; with_reducible rfl
      try simp only [Act.put, List.setIfInBounds_toArray, List.set_cons_zero, List.set_cons_succ]
      refine wpAnyH_take (i := 34) (oi := ⟨some 127, _, _, _, _, _⟩) (v := ?_) rfl (by kernel_rfl) (by kernel_rfl) (by kernel_rfl) (fun _ _ _ h => h) (Or.inl ⟨by rfl, ?_⟩) hS ?_
      rotate_left
      · intro W hW
        have q0 := X14 W hW
        go_simp
        with_reducible rfl
      try simp only [Act.put, List.setIfInBounds_toArray, List.set_cons_zero, List.set_cons_succ]
      refine wpAnyH_take (i := 35) (oi := ⟨some 128, _, _, _, _, _⟩) (v := ?_) rfl (by kernel_rfl) (by kernel_rfl) (by kernel_rfl) (fun _ _ _ h => h) (Or.inl ⟨by rfl, ?_⟩) hS ?_
      rotate_left
      · intro W hW
        have q0 := X70 W hW
        have q1 := X71 W hW
        go_simp
        with_reducible rfl
      try simp only [Act.put, List.setIfInBounds_toArray, List.set_cons_zero, List.set_cons_succ]
      refine wpAnyH_take (i := 37) (oi := ⟨some 130, _, _, _, _, _⟩) (v := ?_) rfl (by kernel_rfl) (by kernel_rfl) (by kernel_rfl) (fun _ _ _ h => h) (Or.inl ⟨by rfl, ?_⟩) hS ?_
      rotate_left
      · intro W hW; go_simp; with_reducible rfl
      try simp only [Act.put, List.setIfInBounds_toArray, List.set_cons_zero, List.set_cons_succ]
      refine wpAnyH_take (i := 39) (oi := ⟨some 132, _, _, _, _, _⟩) (v := ?_) rfl (by kernel_rfl) (by kernel_rfl) (by kernel_rfl) (fun _ _ _ h => h) (Or.inl ⟨by rfl, ?_⟩) hS ?_
      rotate_left
      · intro W hW
        have q0 := X6 W hW
        go_simp
        with_reducible rfl
      try simp only [Act.put, List.setIfInBounds_toArray, List.set_cons_zero, List.set_cons_succ]
      refine wpAnyH_take (i := 40) (oi := ⟨some 133, _, _, _, _, _⟩) (v := ?_) rfl (by kernel_rfl) (by kernel_rfl) (by kernel_rfl) (fun _ _ _ h => h) (Or.inl ⟨by rfl, ?_⟩) hS ?_
      rotate_left
      · intro W hW
        have q0 := X70 W hW
        have q1 := X71 W hW
        go_simp
        with_reducible rfl
      try simp only [Act.put, List.setIfInBounds_toArray, List.set_cons_zero, List.set_cons_succ]
      refine wpAnyH_take (i := 41) (oi := ⟨some 134, _, _, _, _, _⟩) (v := ?_) rfl (by kernel_rfl) (by kernel_rfl) (by kernel_rfl) (fun _ _ _ h => h) (Or.inl ⟨by rfl, ?_⟩) hS ?_
      rotate_left
      · intro W hW; go_simp; with_reducible rfl
      try simp only [Act.put, List.setIfInBounds_toArray, List.set_cons_zero, List.set_cons_succ]
      refine wpAnyH_ready (rs := [36]) (by kernel_rfl) (by simp) ?_
      refine AllReadyH.cons (o := ⟨some 129, _, _, _, _, _⟩) rfl (fun Kr hKr => ?_) AllReadyH.nil
      -- operation 36: a call
      go_simp
      refine (HGV.out _ hS).mono ?_
      rintro r wi ⟨Ag, ag, rfl, htg, hbi⟩
      have HTG := Lib.hid htg
      show Kr _ _
      refine hKr.out _ _ ?_ (fun _ => ?_)
      · exact since_trans hS hbi
      clear hKr Kr
      replace hS : Since wy wi := since_trans hS hbi
      try simp only [Act.put, List.setIfInBounds_toArray, List.set_cons_zero, List.set_cons_succ]
      refine wpAnyH_ready (rs := [38]) (by kernel_rfl) (by simp) ?_
      refine AllReadyH.cons (o := ⟨some 131, _, _, _, _, _⟩) rfl (fun Kr hKr => ?_) AllReadyH.nil
      -- operation 38: a call
      go_simp
      refine (HPO.out _ (since_trans hS (Below.refl _ _)) Ag ag HTG.out).mono ?_
      rintro r wj ⟨hbj, Ar, cr, rfl, hrr⟩
      have HRR := Lib.hid hrr
      show Kr _ _
      refine hKr.out _ _ ?_ (fun _ => ?_)
      · exact since_trans hS hbj
      clear hKr Kr
      replace hS : Since wy wj := since_trans hS hbj
      try simp only [Act.put, List.setIfInBounds_toArray, List.set_cons_zero, List.set_cons_succ]
      refine wpAnyH_ready (rs := [42]) (by kernel_rfl) (by simp) ?_
      refine AllReadyH.cons (o := ⟨some 135, _, _, _, _, _⟩) rfl (fun Kr hKr => ?_) AllReadyH.nil
      -- operation 42: a call
      go_simp
      refine (HPR.out _ hS).mono ?_
      rintro r wk ⟨hbk, As, cs, rfl, hrs⟩
      have HRS := Lib.hid hrs
      replace HRR := Lib.hid (HRR.out.below hbk)
      show Kr _ _
      refine hKr.out _ _ ?_ (fun _ => ?_)
      · exact since_trans hS hbk
      clear hKr Kr
      replace hS : Since wy wk := since_trans hS hbk
      try simp only [Act.put, List.setIfInBounds_toArray, List.set_cons_zero, List.set_cons_succ]
      refine wpAnyH_ready (rs := [43]) (by kernel_rfl) (by simp) ?_
      refine AllReadyH.cons (o := ⟨some 136, _, _, _, _, _⟩) rfl (fun Kr hKr => ?_) AllReadyH.nil
      -- operation 43: a call
      go_simp
      refine (sameops_any Ar As mp cr cs _ HMP.out (by omega) _ HRR.out HRS.out).mono ?_
      rintro r wl ⟨rfl, hbl⟩
      clear HRR HRS HTG
      show Kr _ _
      refine hKr.out _ _ ?_ (fun _ => ?_)
      · exact since_trans hS hbl
      clear hKr Kr
      replace hS : Since wy wl := since_trans hS hbl
      try simp only [Act.put, List.setIfInBounds_toArray, List.set_cons_zero, List.set_cons_succ]
      refine wpAnyH_take (i := 44) (oi := ⟨some 137, _, _, _, _, _⟩) (v := ?_) rfl (by kernel_rfl) (by kernel_rfl) (by kernel_rfl) (fun _ _ _ h => h) (Or.inl ⟨by rfl, ?_⟩) hS ?_
      rotate_left
      · intro W hW; go_simp; with_reducible rfl
      try simp only [Act.put, List.setIfInBounds_toArray, List.set_cons_zero, List.set_cons_succ]
      refine wpAnyH_take (i := 45) (oi := ⟨some 138, _, _, _, _, _⟩) (v := ?_) rfl (by kernel_rfl) (by kernel_rfl) (by kernel_rfl) (fun _ _ _ h => h) (Or.inl ⟨by rfl, ?_⟩) hS ?_
      rotate_left
      · intro W hW; go_simp; with_reducible rfl
      try simp only [Act.put, List.setIfInBounds_toArray, List.set_cons_zero, List.set_cons_succ]
      refine wpAnyH_take (i := 46) (oi := ⟨some 139, _, _, _, _, _⟩) (v := ?_) rfl (by kernel_rfl) (by kernel_rfl) (by kernel_rfl) (fun _ _ _ h => h) (Or.inl ⟨by rfl, ?_⟩) hS ?_
      rotate_left
      · intro W hW; go_simp; with_reducible rfl
      try simp only [Act.put, List.setIfInBounds_toArray, List.set_cons_zero, List.set_cons_succ]
      refine wpAnyH_take (i := 47) (oi := ⟨some 140, _, _, _, _, _⟩) (v := ?_) rfl (by kernel_rfl) (by kernel_rfl) (by kernel_rfl) (fun _ _ _ h => h) (Or.inl ⟨by rfl, ?_⟩) hS ?_
      rotate_left
      · intro W hW
        have q0 := X14 W hW
        go_simp
        with_reducible rfl
      try simp only [Act.put, List.setIfInBounds_toArray, List.set_cons_zero, List.set_cons_succ]
      refine wpAnyH_take (i := 49) (oi := ⟨some 142, _, _, _, _, _⟩) (v := ?_) rfl (by kernel_rfl) (by kernel_rfl) (by kernel_rfl) (fun _ _ _ h => h) (Or.inl ⟨by rfl, ?_⟩) hS ?_
      rotate_left
      · intro W hW; go_simp; with_reducible rfl
      try simp only [Act.put, List.setIfInBounds_toArray, List.set_cons_zero, List.set_cons_succ]
      refine wpAnyH_take (i := 50) (oi := ⟨some 143, _, _, _, _, _⟩) (v := ?_) rfl (by kernel_rfl) (by kernel_rfl) (by kernel_rfl) (fun _ _ _ h => h) (Or.inl ⟨by rfl, ?_⟩) hS ?_
      rotate_left
      · intro W hW
        have q0 := X6 W hW
        go_simp
        with_reducible rfl
      try simp only [Act.put, List.setIfInBounds_toArray, List.set_cons_zero, List.set_cons_succ]
      refine wpAnyH_ready (rs := [48]) (by kernel_rfl) (by simp) ?_
      refine AllReadyH.cons (o := ⟨some 141, _, _, _, _, _⟩) rfl (fun Kr hKr => ?_) AllReadyH.nil
      -- operation 48: a call
      go_simp
      refine (HTO.out _ hS).mono ?_
      rintro r wm ⟨hbm, Ax, cx, rfl, hex⟩
      have HEX := Lib.hid hex
      show Kr _ _
      refine hKr.out _ _ ?_ (fun _ => ?_)
      · exact since_trans hS hbm
      clear hKr Kr
      replace hS : Since wy wm := since_trans hS hbm
      try simp only [Act.put, List.setIfInBounds_toArray, List.set_cons_zero, List.set_cons_succ]
      refine wpAnyH_ready (rs := [51]) (by kernel_rfl) (by simp) ?_
      refine AllReadyH.cons (o := ⟨some 144, _, _, _, _, _⟩) rfl (fun Kr hKr => ?_) AllReadyH.nil
      -- operation 51: a call
      go_simp
      refine (same_any Ax A0 n0 cx a0 _ (by omega) _ HEX.out (HLR.out _ hS)).mono ?_
      rintro r wn ⟨rfl, hbn⟩
      clear HEX
      show Kr _ _
      refine hKr.out _ _ ?_ (fun _ => ?_)
      · exact since_trans hS hbn
      clear hKr Kr
      replace hS : Since wy wn := since_trans hS hbn
      try simp only [Act.put, List.setIfInBounds_toArray, List.set_cons_zero, List.set_cons_succ]
      refine wpAnyH_take (i := 52) (oi := ⟨some 145, _, _, _, _, _⟩) (v := ?_) rfl (by kernel_rfl) (by kernel_rfl) (by kernel_rfl) (fun _ _ _ h => h) (Or.inl ⟨by rfl, ?_⟩) hS ?_
      rotate_left
      · intro W hW; go_simp; with_reducible rfl
      try simp only [Act.put, List.setIfInBounds_toArray, List.set_cons_zero, List.set_cons_succ]
      refine wpAnyH_take (i := 53) (oi := ⟨some 12, _, _, _, _, _⟩) (v := ?_) rfl (by kernel_rfl) (by kernel_rfl) (by kernel_rfl) (fun _ _ _ h => h) (Or.inl ⟨by rfl, ?_⟩) hS ?_
      rotate_left
      · intro W hW; go_simp; with_reducible rfl
      try simp only [Act.put, List.setIfInBounds_toArray, List.set_cons_zero, List.set_cons_succ]
      refine wpAnyH_done (by kernel_rfl) ?_ _
      have HSS := Lib.hid hS
      clear hS
      go_wp2_with fail
      go_ret
      exact ⟨rfl, HBy.out.trans (Below.mono HSS.out HBy.out.size)⟩
end Go.Proofs.Ytpphhhalmccnbaa
