/-
  Sum and Reach: what the program answers of any ints.
-/
import Derived.Test.YtogngghfdcpeaaaFo
namespace Go.Proofs.Ytogngghfdcpeaaa
set_option maxRecDepth 100000
set_option linter.unusedVariables false
set_option linter.unusedSimpArgs false
open Go.RowKit


theorem sumE_few {l : List Int} (h : l.length ≤ 4096) : sumE l = tlE (sumI l) := by unfold sumE tlE; rw [if_neg (by omega)]
theorem sumV_few {l : List Int} (h : l.length ≤ 4096) : sumV l = tlV (sumI l) := by
  unfold sumV; rw [sumE_few h]; unfold tlE tlV
  by_cases hx : okI (sumI l) <;> simp [hx]
theorem sumE_many {l : List Int} (h : 4096 < l.length) : sumE l = 13 := by unfold sumE; rw [if_pos h]
theorem sumV_many {l : List Int} (h : 4096 < l.length) : sumV l = 0 := by unfold sumV; rw [sumE_many h]; rfl

/-- Reach's answer, by its ends -/
theorem reachE_few {v : Int} {l : List Int} (h : l.length ≤ 4096) : reachE v l = if tlE (loI v l) = 0 ∧ tlE (hiI v l) = 0 then 0 else 12 := by
  unfold reachE tlE; rw [if_neg (by omega)]
  by_cases hx : okI (loI v l) <;> by_cases hy : okI (hiI v l) <;> simp [hx, hy]
theorem reachE_many {v : Int} {l : List Int} (h : 4096 < l.length) : reachE v l = 13 := by unfold reachE; rw [if_pos h]
theorem reachLH_no {v : Int} {l : List Int} (h : ¬ reachE v l = 0) : reachL v l = 0 ∧ reachH v l = 0 := by unfold reachL reachH; rw [if_neg h, if_neg h]; exact ⟨rfl, rfl⟩
theorem reachLH_yes {v : Int} {l : List Int} (h : reachE v l = 0) : reachL v l = loI v l ∧ reachH v l = hiI v l := by unfold reachL reachH; rw [if_pos h, if_pos h]; exact ⟨rfl, rfl⟩
theorem reach_okI {v : Int} {l : List Int} (h : reachE v l = 0) : okI (loI v l) ∧ okI (hiI v l) := by
  unfold reachE at h
  split at h
  · omega
  · split at h
    · assumption
    · omega
theorem reach_cases (v : Int) (l : List Int) : reachE v l = 0 ∨ reachE v l = 12 ∨ reachE v l = 13 := by unfold reachE; split <;> (try split) <;> simp
theorem reachL_ok (v : Int) (l : List Int) : okI (reachL v l) := by
  unfold reachL; split
  · next h => exact (reach_okI h).1
  · decide
theorem reachH_ok (v : Int) (l : List Int) : okI (reachH v l) := by
  unfold reachH; split
  · next h => exact (reach_okI h).2
  · decide
/-- what Reach answers -/
abbrev reV (v : Int) (l : List Int) : Value := .tuple #[spV (reachL v l) (reachH v l), .int .i64 (reachE v l)]

set_option maxHeartbeats 1000000 in
theorem reach_any (v : Int) (hv : okI v) (A : Option Addr) (n c : Nat) (l : List Int) (w : World) (hl : Ls w A n l) :
    Calls Try.prog 46 #[.int .i64 v, .slice A n c] w fun e w' => e = .returned (reV v l) ∧ Below w.heap.size w w' := by
  have HN := Lib.hid hl.len
  have HZ := Lib.hid (Bk.new w (spC 0 0) 53)
  have HB := Lib.hid (below_new w (.cells (spC 0 0) 53))
  have z0 := HZ.out.s0
  have z1 := HZ.out.s1
  have f0 := HZ.out.fr 0
  have f1 := HZ.out.fr 1
  rcases Nat.lt_or_ge 4096 n with hbig | hfew
  · have hd : decide ((4096 : Int) < (n : Int)) = true := decide_eq_true (by omega)
    have hd2 : decide (4096 < n) = true := decide_eq_true hbig
    have HE := Lib.hid (reachE_many (v := v) (l := l) (by rw [hl.len]; exact hbig))
    obtain ⟨hL, hH⟩ := reachLH_no (v := v) (l := l) (by rw [HE.out]; decide)
    have HL := Lib.hid hL
    have HH := Lib.hid hH
    clear hl hL hH
    unfold reV
    rw [HL.out, HH.out, HE.out]
    go_enter Try.func46, Try.ntmps46
    go_wp2_with fail
    exact bodyPost_ret (v := .tuple #[spV 0 0, .int .i64 13]) (by rw [results_cell_tmp rfl]; go_simp; first | done | exact ⟨rfl, rfl⟩) rfl ⟨rfl, HB.out⟩
  · have hd : decide ((4096 : Int) < (n : Int)) = false := decide_eq_false (by omega)
    have hd2 : decide (4096 < n) = false := decide_eq_false (by omega)
    have HE := Lib.hid (reachE_few (v := v) (l := l) (by rw [hl.len]; exact hfew))
    have HYE := Lib.hid (fun h => (reachLH_yes (v := v) (l := l) h))
    have HNO := Lib.hid (fun h => (reachLH_no (v := v) (l := l) h))
    have HL := Lib.hid hl
    have hf := fun V hV => efold_any A n c l v hv hfew V (HL.out.below hV)
    have hw := widen_any v hv
    have hn1 := narrow_any (loI v l)
    have hn2 := narrow_any (hiI v l)
    have ht1 := tlE_bd (loI v l)
    have ht2 := tlE_bd (hiI v l)
    have HT1 : Hid (tlE (loI v l) = 0 → tlV (loI v l) = loI v l) := fun h => by unfold tlE at h; unfold tlV; split at h <;> simp_all
    have HT2 : Hid (tlE (hiI v l) = 0 → tlV (hiI v l) = hiI v l) := fun h => by unfold tlE at h; unfold tlV; split at h <;> simp_all
    clear hl hv
    unfold reV
    generalize reachE v l = re at *
    generalize reachL v l = rl at *
    generalize reachH v l = rh at *
    generalize loI v l = lo at *
    generalize hiI v l = hi at *
    go_enter Try.func46, Try.ntmps46
    go_wp2_with fail
    refine (hw _).mono ?_
    rintro e w1 ⟨rfl, hb1⟩
    have HZ1 := Lib.hid (HZ.out.below hb1)
    have HB1 := Lib.hid (below_two HB.out hb1)
    clear hb1 HZ HB z0 z1 f0 f1
    go_wp2_with fail
    refine (hw _).mono ?_
    rintro e w2 ⟨rfl, hb2⟩
    have HZ2 := Lib.hid (HZ1.out.below hb2)
    have HB2 := Lib.hid (below_two HB1.out hb2)
    clear hb2 HZ1 HB1 hw
    go_wp2_with fail
    refine (hf _ HB2.out).mono ?_
    rintro e w3 ⟨rfl, hb3⟩
    have HZ3 := Lib.hid (HZ2.out.below hb3)
    have HB3 := Lib.hid (below_two HB2.out hb3)
    have HK3 := Lib.hid (Bk.new w3 (enC lo hi) 131)
    have HZ4 := Lib.hid (HZ3.out.al (.cells (enC lo hi) 131))
    have HB4 := Lib.hid (below_two HB3.out (below_new w3 (.cells (enC lo hi) 131)))
    clear hb3 HZ2 HB2 hf HZ3 HB3
    have x0 := HK3.out.e0
    have x1 := HK3.out.e1
    have x2 := HK3.out.e2
    have x3 := HK3.out.e3
    go_wp2_with fail
    refine (hn1 _).mono ?_
    rintro e w5 ⟨rfl, hb5⟩
    have HK5 := Lib.hid (HK3.out.below hb5)
    have HZ5 := Lib.hid (HZ4.out.below hb5)
    have HB5 := Lib.hid (below_two HB4.out hb5)
    clear hb5 HK3 HZ4 HB4 hn1 x0 x1 x2 x3
    have x2 := HK5.out.e2
    have x3 := HK5.out.e3
    go_wp2_with fail
    refine (hn2 _).mono ?_
    rintro e w6 ⟨rfl, hb6⟩
    have HZ6 := Lib.hid (HZ5.out.below hb6)
    have HB6 := Lib.hid (below_two HB5.out hb6)
    clear hb6 HK5 HZ5 HB5 hn2 x2 x3
    have z0 := HZ6.out.s0
    have z1 := HZ6.out.s1
    have f0 := HZ6.out.fr 0
    have f1 := HZ6.out.fr 1
    have HD : Hid (Below w.heap.size w w6) := HB6
    generalize tlE lo = el at *
    generalize tlE hi = eh at *
    rcases ht1 with rfl | rfl
    · rcases ht2 with rfl | rfl
      · obtain rfl : re = 0 := by rw [HE.out]; rfl
        obtain ⟨h1, h2⟩ := HYE.out rfl
        have h3 := HT1.out rfl
        have h4 := HT2.out rfl
        rw [h3, h4]
        have HR1 := Lib.hid h1
        have HR2 := Lib.hid h2
        clear h1 h2 h3 h4 HYE HNO HT1 HT2 HE
        go_wp2_with fail
        exact bodyPost_ret (v := .tuple #[spV lo hi, .int .i64 0]) (by rw [results_cell_tmp rfl]; go_simp; first | done | exact ⟨rfl, rfl⟩) rfl ⟨by rw [HR1.out, HR2.out], (HD.out.setCell (Nat.le_refl _) _).setCell (Nat.le_refl _) _⟩
      · obtain rfl : re = 12 := by rw [HE.out]; rfl
        obtain ⟨h1, h2⟩ := HNO.out (by decide)
        have HR1 := Lib.hid h1
        have HR2 := Lib.hid h2
        clear h1 h2 HYE HNO HT1 HT2 HE
        go_wp2_with fail
        exact bodyPost_ret (v := .tuple #[spV 0 0, .int .i64 12]) (by rw [results_cell_tmp rfl]; go_simp; first | done | exact ⟨rfl, rfl⟩) rfl ⟨by rw [HR1.out, HR2.out], (HD.out.setCell (Nat.le_refl _) _).setCell (Nat.le_refl _) _⟩
    · obtain rfl : re = 12 := by rw [HE.out]; rfl
      obtain ⟨h1, h2⟩ := HNO.out (by decide)
      have HR1 := Lib.hid h1
      have HR2 := Lib.hid h2
      clear h1 h2 HYE HNO HT1 HT2 HE ht2
      go_wp2_with fail
      exact bodyPost_ret (v := .tuple #[spV 0 0, .int .i64 12]) (by rw [results_cell_tmp rfl]; go_simp; first | done | exact ⟨rfl, rfl⟩) rfl ⟨by rw [HR1.out, HR2.out], (HD.out.setCell (Nat.le_refl _) _).setCell (Nat.le_refl _) _⟩
end Go.Proofs.Ytogngghfdcpeaaa
