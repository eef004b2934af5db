/-
  OplistTwice: the walk.
-/
import Derived.Test.YtpphhhalmccnbaaQp
namespace Go.Proofs.Ytpphhhalmccnbaa
set_option maxRecDepth 100000
set_option linter.unusedVariables false
set_option linter.unusedSimpArgs false
open Go.RowKit

theorem withU_twice {sel : En → Bool} {l : List En} {P : List Pe} : withU sel l (P.filter fun p => !sel p.2) = l := by unfold withU; rw [undoL_twice, List.append_nil]
/-- the last one -/
theorem last_getD {α : Type} {L : List α} {x d : α} {m : Nat} (h : L.length = m) : (L ++ [x]).getD m d = x := by rw [List.getD_eq_getElem?_getD, ← h]; simp

set_option maxHeartbeats 4000000 in
theorem twice_walk (a0 : Option Addr) (len0 cap0 : Nat) (q0 : Nat → Ac) (a1 : Option Addr) (len1 cap1 : Nat) (l1 : List Int) (a2 : Int) (w : World) (hacts : Acts w a0 len0 q0) (hT : Ls w a1 len1 l1) :
    Calls Try.prog 7 #[.slice a0 len0 cap0, .slice a1 len1 cap1, .int .i64 a2] w fun e w' => e = .returned (.bool true) ∧ Below w.heap.size w w' := by
  have HAC := Lib.hid hacts
  have HT := Lib.hid hT
  clear hacts hT
  go_enter Try.func7, Try.ntmps7
  go_wp2_with fail
  refine (awake_any w).mono ?_
  rintro r w1 ⟨rfl, hb1⟩
  have HB1 := Lib.hid hb1
  clear hb1
  rcases Nat.lt_or_ge 150 len0 with h0 | h0
  · have hd : decide ((len0 : Int) > 150) = true := decide_eq_true (by omega)
    have hd2 : decide ((150 : Int) < (len0 : Int)) = true := decide_eq_true (by omega)
    have hd3 : decide (150 < len0) = true := decide_eq_true (by omega)
    go_wp2_with fail
    go_ret
    exact ⟨rfl, HB1.out⟩
  · have hd : decide ((len0 : Int) > 150) = false := decide_eq_false (by omega)
    have hd2 : decide ((150 : Int) < (len0 : Int)) = false := decide_eq_false (by omega)
    have hd3 : decide (150 < len0) = false := decide_eq_false (by omega)
    rcases Nat.lt_or_ge 20 len1 with h1 | h1
    · have he : decide ((len1 : Int) > 20) = true := decide_eq_true (by omega)
      have he2 : decide ((20 : Int) < (len1 : Int)) = true := decide_eq_true (by omega)
      have he3 : decide (20 < len1) = true := decide_eq_true (by omega)
      go_wp2_with fail
      go_ret
      exact ⟨rfl, HB1.out⟩
    · have he : decide ((len1 : Int) > 20) = false := decide_eq_false (by omega)
      have he2 : decide ((20 : Int) < (len1 : Int)) = false := decide_eq_false (by omega)
      have he3 : decide (20 < len1) = false := decide_eq_false (by omega)
      rcases Nat.eq_zero_or_pos len1 with h2 | h2
      · subst h2
        have hf : (((0 : Nat) : Int) == 0) = true := by decide
        go_wp2_with fail
        go_ret
        exact ⟨rfl, HB1.out⟩
      · have hf : ((len1 : Int) == 0) = false := by simp; omega
        obtain ⟨bT, oT, hTA, hTl, hTok, hTg, hT0⟩ := HT.out.get h2
        subst hTA
        have HTL := Lib.hid hTl
        have HT0 := Lib.hid hT0
        clear hTl hTok hTg hT0
        have HGR := Lib.hid (grown_any a0 len0 cap0 q0 (by omega) w1 (HAC.out.below HB1.out))
        clear hd hd2 hd3 he he2 he3
        go_wp2_with fail
        refine HGR.out.mono ?_
        rintro r w2 ⟨hb2, A8, n8, c8, l, P, rfl, he8, hG, hs8, hn8⟩
        have HV8 := Lib.hid (Lv.new he8 hs8 hn8)
        have HB2 := Lib.hid ((HB1.out.trans (hb2.mono HB1.out.size)).trans ((below_new w2 (.cells (liC A8 n8 c8) 32)).mono (HB1.out.trans (hb2.mono HB1.out.size)).size))
        have HG := Lib.hid hG
        have HLL := Lib.hid he8.len
        clear hb2 he8 hs8 hn8 hG HGR
        go_upto_region 5 with fail
        generalize w2.heap.size = g8 at *
        generalize w2.alloc (.cells #[.slice A8 n8 c8] 32) = w3 at *
        have x8 := HV8.out.c0
        have HU1 := Lib.hid (undo_gro A8 n8 c8 l P _ len1 cap1 l1 HG.out (by omega) HV8.out.sp w3 HV8.out.es (HT.out.below HB2.out))
        go_wp2_with fail
        refine HU1.out.mono ?_
        rintro r w4 ⟨hb4, A9, n9, c9, rfl, he9, hs9, hn9⟩
        have HV9 := Lib.hid (Lv.new he9 hs9 hn9)
        have hb5 := hb4.trans ((below_new w4 (.cells (liC A9 n9 c9) 32)).mono hb4.size)
        have HB5 := Lib.hid (HB2.out.trans (hb5.mono HB2.out.size))
        have HG9 := Lib.hid (HG.out.undo l1)
        have HN9 := Lib.hid he9.len
        clear hb4 he9 hs9 hn9 hb5 HU1 x8 HV8
        go_upto_region 6 with fail
        generalize w4.heap.size = g9 at *
        generalize w4.alloc (.cells #[.slice A9 n9 c9] 32) = w5 at *
        have x9 := HV9.out.c0
        have hu2 := undo_gro A9 n9 c9 _ _ _ len1 cap1 l1 HG9.out (by omega) HV9.out.sp w5 HV9.out.es (HT.out.below HB5.out)
        rw [withU_twice] at hu2
        have HU2 := Lib.hid hu2
        generalize hl2 : withU (amongE l1) l P = l2 at *
        generalize hP2 : (P.filter fun p => !amongE l1 p.2) = P2 at *
        clear hu2 hl2 hP2
        go_wp2_with fail
        refine HU2.out.mono ?_
        rintro r w6 ⟨hb6, Aq, nq, cq, rfl, heq, hsq, hnq⟩
        have hnn : nq = n9 := by rw [← HN9.out, ← heq.len]
        subst hnn
        have HVq := Lib.hid (Lv.new heq hsq hnq)
        have hb7 := hb6.trans ((below_new w6 (.cells (liC Aq nq cq) 32)).mono hb6.size)
        have HB7 := Lib.hid (HB5.out.trans (hb7.mono HB5.out.size))
        have HV97 := Lib.hid (HV9.out.below hb7)
        clear hb6 heq hsq hnq hb7 HU2 x9 HV9
        go_upto_region 7 with fail
        generalize w6.heap.size = gq at *
        generalize w6.alloc (.cells #[.slice Aq nq cq] 32) = w7 at *
        have x9 := HV97.out.c0
        have xq := HVq.out.c0
        have tc := (HB7.out.cell (p := ⟨bT, oT + 0, none⟩) HTL.out).trans HT0.out
        obtain ⟨y1, hy1, e1⟩ := low (l1.getD 0 0) 7 3 (by decide) (by decide)
        obtain ⟨y4, hy4, e4⟩ := low a2 255 8 (by decide) (by decide)
        have HY1 := Lib.hid hy1
        have HY4 := Lib.hid hy4
        have hi0 : (0 : Int) < (len1 : Int) := by omega
        have hd0 : decide (0 < len1) = true := decide_eq_true h2
        have hnq1 : (((nq : Nat) : Int) != (nq : Int)) = false := by simp
        generalize l1.getD 0 0 = z1 at *
        have tc2 : w7.cell? ⟨bT, oT, none⟩ = some (.int .i64 z1) := tc
        clear hy1 hy4
        have hew : okI (y1 : Int) ∧ okI (1 : Int) ∧ okI (y4 : Int) := by have := HY1.out; have := HY4.out; unfold okI; omega
        have hmay : (newE (y1 : Int) 1 (y4 : Int)).may = true := by have := HY1.out; have := HY4.out; rw [En.may_iff]; unfold newE; simp only; omega
        have hn256 : nq ≤ 256 := by have := HG9.out.sa.len; have := HN9.out; omega
        have HDO := Lib.hid (do_any A9 nq c9 l2 (y1 : Int) 1 (y4 : Int) hew.1 hew.2.1 hew.2.2 (by omega) HV97.out.sp w7 HV97.out.es)
        have hdd := HG9.out.sa.doE (e := newE (y1 : Int) 1 (y4 : Int)) rfl
        rw [if_pos hmay] at hdd
        have HOE := Lib.hid (show (newE (y1 : Int) 1 (y4 : Int)).Ok from ⟨hew.1, hew.2.1, hew.2.2⟩)
        have HMAY := Lib.hid hmay
        clear hew hmay
        obtain ⟨m, hm⟩ : ∃ m, (openT P2 (y1 : Int)).length = m := ⟨_, rfl⟩
        have hm1000 : m ≤ 1000 := by rw [← hm]; have h1 := openT_few HG9.out.sa.fit (t := (y1 : Int)); have := HG9.out.sa.len; omega
        have HM := Lib.hid hm
        clear hm
        by_cases hfit : l2.length + P2.length ≤ 254
        · rw [if_pos hfit] at hdd
          rw [hdd] at HDO
          have HS3 := Lib.hid (HG9.out.sa.snoc (e := newE (y1 : Int) 1 (y4 : Int)) rfl HMAY.out hfit)
          clear hfit hdd
          go_wp2_with fail
          refine HDO.out.mono ?_
          rintro r w8 ⟨hb8, Aw, nw, cw, rfl, hew, hsw, hnw⟩
          have hnw2 : nw = nq + 1 := by rw [← hew.len, List.length_append, List.length_singleton, HN9.out]
          subst hnw2
          have HVw := Lib.hid (Lv.new hew hsw hnw)
          have hb9 := hb8.trans ((below_new w8 (.cells (liC Aw (nq + 1) cw) 32)).mono hb8.size)
          have HB9 := Lib.hid (HB7.out.trans (hb9.mono HB7.out.size))
          have HV99 := Lib.hid (HV97.out.below hb9)
          clear hb8 hew hsw hnw hb9 HDO x9 xq tc tc2 HV97 HVq
          go_upto_region 11 with fail
          generalize w8.heap.size = gw at *
          generalize w8.alloc (.cells #[.slice Aw (nq + 1) cw] 32) = w9 at *
          have x9 := HV99.out.c0
          have HO1 := Lib.hid (open2_any A9 nq c9 m l2 P2 (y1 : Int) HG9.out.sa.op (by omega) w9 HV99.out.es HM.out)
          go_wp2_with fail
          refine HO1.out.mono ?_
          rintro r wa ⟨hba, Am, cm, rfl, hem⟩
          have HBa := Lib.hid (HB9.out.trans (hba.mono HB9.out.size))
          have HVa := Lib.hid (HVw.out.below hba)
          clear hba hem HO1 x9 HVw HV99
          have x9 := HVa.out.c0
          have HO2 := Lib.hid (open2_any Aw (nq + 1) cw (m + 1) _ _ (y1 : Int) HS3.out.op (by omega) wa HVa.out.es (by rw [openT_snoc, if_pos (show (newE (y1 : Int) 1 (y4 : Int)).t = (y1 : Int) from rfl), List.length_append, HM.out]; rfl))
          go_wp2_with fail
          refine HO2.out.mono ?_
          rintro r wb ⟨hbb, An, cn, rfl, hen⟩
          have HBb := Lib.hid (HBa.out.trans (hbb.mono HBa.out.size))
          obtain ⟨bn, on, hAn, _, _, _, _, _, hn2, _⟩ := hen.eo (i := m) (by omega)
          subst hAn
          rw [openT_snoc, if_pos (show (newE (y1 : Int) 1 (y4 : Int)).t = (y1 : Int) from rfl), last_getD HM.out] at hn2
          replace hn2 : wb.cell? ⟨bn, on + m * 4 + 2, none⟩ = some (.int .i64 (y4 : Int)) := hn2
          have hww : IntKind.i64.wrap (((m + 1 : Nat) : Int) - 1) = (m : Int) := by rw [IntKind.wrap_i64]; omega
          have hwx : IntKind.i64.wrap ((m : Int) + 1) = ((m + 1 : Nat) : Int) := by rw [IntKind.wrap_i64]; omega
          have hmm : (m : Int) < ((m + 1 : Nat) : Int) := by omega
          clear hbb hen HO2 x9
          go_wp2_with fail
          go_ret
          refine ⟨?_, HBb.out⟩
          simp
        · rw [if_neg hfit] at hdd
          rw [hdd] at HDO
          clear hfit hdd
          go_wp2_with fail
          refine HDO.out.mono ?_
          rintro r w8 ⟨hb8, Aw, nw, cw, rfl, hew, hsw, hnw⟩
          have hnw2 : nw = 0 := hew.len.symm
          subst hnw2
          have HVw := Lib.hid (Lv.new hew (.inl rfl) hnw)
          have hb9 := hb8.trans ((below_new w8 (.cells (liC Aw 0 cw) 32)).mono hb8.size)
          have HB9 := Lib.hid (HB7.out.trans (hb9.mono HB7.out.size))
          have HV99 := Lib.hid (HV97.out.below hb9)
          clear hb8 hew hsw hnw hb9 HDO x9 xq tc tc2 HV97 HVq
          go_upto_region 11 with fail
          generalize w8.heap.size = gw at *
          generalize w8.alloc (.cells #[.slice Aw 0 cw] 32) = w9 at *
          have x9 := HV99.out.c0
          have HO1 := Lib.hid (open2_any A9 nq c9 m l2 P2 (y1 : Int) HG9.out.sa.op (by omega) w9 HV99.out.es HM.out)
          go_wp2_with fail
          refine HO1.out.mono ?_
          rintro r wa ⟨hba, Am, cm, rfl, hem⟩
          have HBa := Lib.hid (HB9.out.trans (hba.mono HB9.out.size))
          have HVa := Lib.hid (HVw.out.below hba)
          clear hba hem HO1 x9 HVw HV99
          have x9 := HVa.out.c0
          have HO2 := Lib.hid (open2_any Aw 0 cw 0 [] [] (y1 : Int) rfl (by omega) wa HVa.out.es rfl)
          go_wp2_with fail
          refine HO2.out.mono ?_
          rintro r wb ⟨hbb, An, cn, rfl, hen⟩
          have HBb := Lib.hid (HBa.out.trans (hbb.mono HBa.out.size))
          clear hbb hen HO2 x9
          go_wp2_with fail
          go_ret
          exact ⟨rfl, HBb.out⟩
end Go.Proofs.Ytpphhhalmccnbaa
