/-
  Sane: may entries be?
-/
import Derived.Test.YtpphhhalmccnbaaQe
namespace Go.Proofs.Ytpphhhalmccnbaa
set_option maxRecDepth 100000
set_option linter.unusedVariables false
set_option linter.unusedSimpArgs false
open Go.RowKit

set_option maxHeartbeats 4000000 in
theorem sane_any (A : Option Addr) (n a : Nat) (l : List En) (hn : n ≤ 1000) (w : World) (hl : EsAt REo w A n l) :
    Calls Try.prog 14 #[liV A n a] w fun r w' => r = .returned (.bool (saneE l)) ∧ Below w.heap.size w w' := by
  have HL := Lib.hid hl
  have HX := Lib.hid (Bk.new w (liC A n a) 32)
  have HB := Lib.hid (below_new w (.cells (liC A n a) 32))
  have HS := Lib.hid (show w.heap.size + 1 ≤ (w.alloc (.cells (liC A n a) 32)).heap.size from by simp)
  have ho := fun V hV => settle_any A n a l hn V (HL.out.below hV)
  have x0 := HX.out.c 0 _ rfl
  clear hl
  go_enter Try.func14, Try.ntmps14
  go_wp2_with fail
  refine (ho _ HB.out).mono ?_
  rintro r w2 ⟨hb2, P, ev, g, rfl, hsd, hgo⟩
  have HX2 := Lib.hid (HX.out.below hb2)
  have HB2 := Lib.hid (HB.out.trans (hb2.mono HB.out.size))
  have HO := Lib.hid (hgo.le (Nat.le_trans HS.out (Nat.le_succ _)))
  have HSD := Lib.hid hsd
  have HFT := Lib.hid (show Fit l P from by have h := hsd.fit; rwa [List.take_of_length_le (by have := HL.out.len; omega)] at h)
  clear ho x0 hb2 hgo hsd
  have x0 := HX2.out.c 0 _ rfl
  go_wp2_with fail
  clear x0
  go_loopw [5, 19] (fun v u wr => ∃ i : Nat, v = .int .i64 ((n + (uptoO P i).length : Nat) : Int) ∧ u = .int .i64 (i : Int) ∧ i ≤ n ∧ Hid (∀ x ∈ l.take i, x.may = true) ∧ Hid (RL.Own wr (w.heap.size + 1) (.slice (some ⟨g, 0, none⟩) n n) (isO n P)) ∧ Hid (Below w.heap.size w wr)) (fun _ u _ => n - (intOf u).toNat)
  case atStart => exact ⟨0, by rw [uptoO_zero]; rfl, rfl, Nat.zero_le _, Lib.hid (by simp), HO, HB2⟩
  case round =>
    obtain ⟨i, rfl, rfl, hi, HMi, HOi, HBi⟩ := hrel
    have HPL : (uptoO P i).length ≤ 1000 := by have h1 := upto_le (P := P) (i := i); have h2 := HFT.out.len; have h3 := HL.out.len; omega
    rcases Nat.lt_or_ge i n with hlt | hge
    · obtain ⟨b2, o, hA, hbl, hok, hget, h0, h1, h2, h3⟩ := HL.out.eo hlt
      subst hA
      have c0 := (HBi.out.cell (p := ⟨b2, o + i * 4, none⟩) hbl).trans h0
      have c1 := (HBi.out.cell (p := ⟨b2, o + i * 4 + 1, none⟩) hbl).trans h1
      have c2 := (HBi.out.cell (p := ⟨b2, o + i * 4 + 2, none⟩) hbl).trans h2
      have c3 := (HBi.out.cell (p := ⟨b2, o + i * 4 + 3, none⟩) hbl).trans h3
      have HG := Lib.hid hget
      have HUP := Lib.hid (upto_len_succ HFT.out hget)
      have hone := fun V => may_any (l.getD i enD) V
      generalize l.getD i enD = e at *
      obtain ⟨t, c, b, u⟩ := e
      simp only at c0 c1 c2 c3 hone
      have hd4 : decide ((i : Int) < (n : Int)) = true := decide_eq_true (by omega)
      have hd5 : decide (i < n) = true := decide_eq_true hlt
      have hi1 : (i : Int) < (n : Int) := by omega
      have hbw := below_new wr (.cells (etC ⟨t, c, b, u⟩) 62)
      have HKk := Lib.hid (Bk.new wr (etC ⟨t, c, b, u⟩) 62)
      have HOk := Lib.hid (HOi.out.below hbw)
      have HBk := Lib.hid (HBi.out.trans (hbw.mono HBi.out.size))
      clear h0 h1 h2 h3 hbl hok hget hbw
      go_upto_region 6 with fail
      clear c0 c1 c2 c3 HOi HBi
      generalize wr.heap.size = gk at *
      generalize wr.alloc (.cells #[.int .i64 t, .int .i64 c, .int .i64 b, .bool u] 62) = wk at *
      have k0 : wk.cell? ⟨gk, 0, none⟩ = some (.int .i64 t) := HKk.out.c 0 _ rfl
      have k1 : wk.cell? ⟨gk, 1, none⟩ = some (.int .i64 c) := HKk.out.c 1 _ rfl
      have k2 : wk.cell? ⟨gk, 2, none⟩ = some (.int .i64 b) := HKk.out.c 2 _ rfl
      have k3 : wk.cell? ⟨gk, 3, none⟩ = some (.bool u) := HKk.out.c 3 _ rfl
      go_wp2_with fail
      refine (hone _).mono ?_
      rintro r w4 ⟨rfl, hb4⟩
      have HB4 := Lib.hid (HBk.out.trans (hb4.mono HBk.out.size))
      have HO4 := Lib.hid (HOk.out.below hb4)
      clear hone k0 k1 k2 k3 hb4
      cases hm : (En.mk t c b u).may with
      | false =>
        have HN := Lib.hid (saneE_not HG.out hm)
        clear hm
        go_wp2_with fail
        go_ret
        exact ⟨by rw [HN.out]; rfl, HB4.out⟩
      | true =>
        have HM2 := Lib.hid (all_take HMi.out HG.out hm)
        have g0 := own_bool HO4.out (i := i) (by rw [isO_len]; exact hlt)
        rw [isO_getD hlt] at g0
        clear hm
        by_cases hp : i ∈ plO P
        · rw [decide_eq_true hp] at g0
          rw [if_pos hp] at HUP
          have hw : IntKind.i64.wrap (((n + (uptoO P i).length : Nat) : Int) + 1) = ((n + (uptoO P (i + 1)).length : Nat) : Int) := by rw [IntKind.wrap_i64, HUP.out]; omega
          clear hp
          go_wp2_with fail
          exact ⟨⟨i + 1, by rw [HUP.out]; congr 1, rfl, hlt, HM2, HO4, HB4⟩, by simp [intOf] <;> omega⟩
        · rw [decide_eq_false hp] at g0
          rw [if_neg hp] at HUP
          clear hp
          go_wp2_with fail
          exact ⟨⟨i + 1, by rw [HUP.out]; rfl, rfl, hlt, HM2, HO4, HB4⟩, by simp [intOf] <;> omega⟩
    · obtain rfl : i = n := by omega
      have hd4 : decide ((i : Int) < (i : Int)) = false := decide_eq_false (by omega)
      have hd5 : decide (i < i) = false := decide_eq_false (by omega)
      have HS := Lib.hid (show saneE l = (ev && decide (((i + (uptoO P i).length : Nat) : Int) ≤ 256)) from by
        have h1 := HL.out.len
        rw [HSD.out.sane h1 (by have h := HMi.out; rwa [List.take_of_length_le (by omega)] at h)]
        have h2 := uptoO_all HFT.out
        rw [h1] at h2
        rw [h2]; congr 1; rw [Bool.eq_iff_iff, decide_eq_true_eq, decide_eq_true_eq]; omega)
      cases ev with
      | false =>
        go_wp2_with fail
        go_ret
        refine ⟨?_, HBi.out⟩
        rw [HS.out]; rfl
      | true =>
        go_wp2_with fail
        go_ret
        refine ⟨?_, HBi.out⟩
        rw [HS.out]; rfl
end Go.Proofs.Ytpphhhalmccnbaa
