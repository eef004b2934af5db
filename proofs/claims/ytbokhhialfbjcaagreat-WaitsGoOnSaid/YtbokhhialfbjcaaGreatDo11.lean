/-
  One thing done in the world.
-/
import Derived.Test.YtbokhhialfbjcaaGreatWe11
import Derived.Test.YtbokhhialfbjcaaGreatQueueWalk
namespace Go.Proofs.YtbokhhialfbjcaaGreat
set_option maxRecDepth 100000
set_option linter.unusedVariables false
set_option linter.unusedSimpArgs false
open Go.RowKit Go.Shelf Go.Sort

theorem wp_store_wt {W : World} {p : Nat} {A : Option Addr} {n k : Nat} {c : Int} {B : Option Addr} {m kb : Nat} {C : Option Addr} {nq kq : Nat} {B' : Option Addr} {m' kb' : Nat} {o : Oper} {a : Act} {K : Act → World → Prop} {Q : Exit → Act → World → Prop} (x u : Operand) (ho : o.op = .store 34 x u) (hx : a.eval x = .pointer (some ⟨p, 2, none⟩)) (hy : a.eval u = .agg #[.slice B' m' kb'])
    (hb : Wc W p A n k c B m kb C nq kq) (h : ∀ w', Wc w' p A n k c B' m' kb' C nq kq → W.grownBy w' (some p) → K (a.put o.dst undef) w') : o.wp Tryz.prog a W K Q := by
  have e : (storeVar 34 ⟨p, 2, none⟩ (.agg #[.slice B' m' kb'])).run Tryz.prog W = .ok () (W.setRow p #[.slice A n k, .int .i64 c, .slice B' m' kb', .slice C nq kq]) := run_store_part1 (o := 2) (v := .slice B' m' kb') hb (by simp) (by simp [Value.oneCell']) table_one
  unfold Oper.wp execOp
  simp only [ho, hx, hy, Instr.storeAt, Instr.sureAddr, Sem.run_bind, Sem.run_pure, Result.andThen_ok, e]
  exact h _ (setRow_heap _ _ _ _ _ _ hb) (setRow_grown _ _ _)

/-- the world, whatever it holds, as it may be -/
def Sw (W : World) (p : Nat) (b : Int) : Prop := ∃ (A : Option Addr) (n k : Nat) (c : Int) (T : Tr) (B : Option Addr) (m kb : Nat) (L : List Lk) (C : Option Addr) (nq kq : Nat) (Q : List Wn), Wp W p A n k c T B m kb L C nq kq Q ∧ Wt T L Q ∧ SQ Q ∧ n ≤ 24 ∧ (0 ≤ c ∧ c ≤ b)
theorem Sw.more {W : World} {p : Nat} {b b' : Int} (h : Sw W p b) (hb : b ≤ b') : Sw W p b' := by
  obtain ⟨A, n, k, c, T, B, m, kb, L, C, nq, kq, Q, h1, h2, h3, h4, h5⟩ := h
  exact ⟨A, n, k, c, T, B, m, kb, L, C, nq, kq, Q, h1, h2, h3, h4, by omega⟩

set_option maxHeartbeats 8000000 in
theorem do_any (p : Nat) (b : Int) (hb : b ≤ 150) (q u v r : Int) (w : World) (hs : Sw w p b) :
    Calls Tryz.prog 16 #[.pointer (some ⟨p, 0, none⟩), .agg #[.int .i64 q, .int .i64 u, .int .i64 v, .int .i64 r]] w fun e w' => e = .returned (.tuple #[]) ∧ Turn (fun q => q = p) w w' ∧ Sw w' p (b + 1) := by
  obtain ⟨A, n, k, c, T, B, m, kb, L, C, nq, kq, Q, hw, hwt, hsq, hn24, hcb⟩ := hs
  obtain ⟨w1, hw1⟩ : ∃ w1, w1 = w.alloc (.cells #[.int .i64 q, .int .i64 u, .int .i64 v, .int .i64 r] 55) := ⟨_, rfl⟩
  have b1 : Below w.heap.size w w1 := by rw [hw1]; exact below_new _ _
  have kz : Bk w1 w.heap.size #[.int .i64 q, .int .i64 u, .int .i64 v, .int .i64 r] 55 := by rw [hw1]; exact Bk.new w _ _
  have HZ := Lib.hid kz
  have HB1 := Lib.hid b1
  have HW := Lib.hid (hw.below b1)
  have HWT := Lib.hid hwt
  have HSQ := Lib.hid hsq
  have HGOOD := Lib.hid hwt.apt.good
  have z1 := kz.c 1 _ rfl
  have c0 := HW.out.c0
  clear hw hwt hsq b1 kz
  go_enter Tryz.func16, Tryz.ntmps16
  go_upto_region 1 with fail
  rw [← hw1]
  clear hw1
  go_upto_if 24 with fail
  go_cut [5] from 17 to 161 (fun iv wc => ∃ z : Int, iv = .int .i64 z ∧ (-1 ≤ z ∧ z < n) ∧ wc = w1)
  case first =>
    have hnc : n = 0 ∨ 0 < n := by omega
    rcases hnc with rfl | hpos
    · go_wp2_with fail
      go_meet
      case rel => exact ⟨-1, rfl, by omega, rfl⟩
    · obtain ⟨x, hx, hlow⟩ := low u 65535 16 (by decide) (by omega)
      have hx2 : x < 65536 := hx
      obtain ⟨y, hy⟩ : ∃ y : Nat, y = x % (n + 1) := ⟨_, rfl⟩
      have hyn : y < n + 1 := by rw [hy]; exact Nat.mod_lt _ (by omega)
      have hmod : (x : Int) % ((n : Int) + 1) = (y : Int) := by rw [hy]; simp
      have hmod2 : Int.tmod (x : Int) ((n : Int) + 1) = (y : Int) := by rw [Int.tmod_eq_emod_of_nonneg (by omega)]; exact hmod
      have hw1 : IntKind.i64.wrap ((n : Int) + 1) = (n : Int) + 1 := by rw [IntKind.wrap_i64]; omega
      have hw2 : IntKind.i64.wrap ((y : Int) - 1) = (y : Int) - 1 := by rw [IntKind.wrap_i64]; omega
      have hw3 : IntKind.i64.wrap (y : Int) = (y : Int) := by rw [IntKind.wrap_i64]; omega
      have hnz : ((n : Int) + 1 == 0) = false := by simp; omega
      have hnz2 : ¬ (n : Int) + 1 = 0 := by omega
      have hposi : (0 : Int) < (n : Int) := by omega
      have hg1 : decide ((n : Int) > 0) = true := decide_eq_true (by omega)
      have hg2 : decide (0 < n) = true := decide_eq_true hpos
      have hg3 : decide (n > 0) = true := decide_eq_true hpos
      have hg4 : ¬ n = 0 := by omega
      clear hx hy hx2
      go_wp2_with fail
      go_meet
      case rel => exact ⟨(y : Int) - 1, rfl, by omega, rfl⟩
  case rest =>
    obtain ⟨z, rfl, hz, hww⟩ := hcut
    replace hww := hww.symm
    subst hww
    have z0 := HZ.out.c 0 _ rfl
    have HSAME := Lib.hid (show Sw w1 p (b + 1) from ⟨A, n, k, c, T, B, m, kb, L, C, nq, kq, Q, HW.out, HWT.out, HSQ.out, hn24, by omega⟩)
    have HZZ := Lib.hid hz
    by_cases q3 : q = 3
    · have q0b : (q == 0) = false := by simp; omega
      have q1b : (q == 1) = false := by simp; omega
      have q2b : (q == 2) = false := by simp; omega
      have q3b : (q == 3) = true := by simpa using q3
      have q3n : (q != 3) = false := by simpa using q3
      have HEND := Lib.hid (end_any p A n k c T B m kb L C nq kq Q z (by omega) HWT.out.apt HSQ.out w1 HW.out)
      clear q3 z1 c0
      go_wp2_with fail
      refine HEND.out.mono ?_
      rintro e w2 ⟨rfl, ht, hr⟩
      have HT2 := Lib.hid ((Turn.ofBelow (S := fun q => q = p) HB1.out).trans ht)
      have HS2 : Sw w2 p (b + 1) := by
        rcases hr with ⟨i, hi, hil, his, A', k', B', m', kb', C', nq', kq', hw2⟩ | ⟨_, hw2⟩
        · refine ⟨A', n, k', c + 1, T.undone i, B', m', kb', _, C', nq', kq', _, hw2, ?_, sq_drop HSQ.out _, hn24, by omega⟩
          have h := HWT.out.undone (id := i)
          rw [HW.out.hn] at h
          exact h
        · exact ⟨A, n, k, c, T, B, m, kb, L, C, nq, kq, Q, hw2, HWT.out, HSQ.out, hn24, by omega⟩
      have HS2 := Lib.hid HS2
      clear hr ht
      go_wp2_with fail
      go_end0
      exact ⟨rfl, HT2.out, HS2.out⟩
    · have q3b : (q == 3) = false := by simpa using q3
      have q3n : (q != 3) = true := by simpa using q3
      have HWA := Lib.hid (waiting_any p A n k c T B m kb L C nq kq Q z (by rw [← HW.out.hq]; exact HSQ.out.n) w1 HW.out)
      obtain ⟨wt, hwt⟩ : ∃ wt, wt = hasL Q z := ⟨_, rfl⟩
      rw [← hwt] at HWA
      have HWT2 := Lib.hid hwt
      clear hwt z1 c0
      cases wt
      · have HNEW := Lib.hid (show ∀ i : Nat, z = (i : Int) → ∀ y ∈ Q, y.x ≠ i from fun i hi y hy e => by
          have h := HWT2.out
          unfold hasL at h
          have h2 := List.any_eq_false.1 h.symm y hy
          simp at h2
          omega)
        have c0 := HW.out.c0
        have c1 := HW.out.c1
        have HBG := Lib.hid (begin_any A T n k c z HW.out.hn HGOOD.out HW.out.hc (by omega) w1 HW.out.x)
        by_cases q01 : q = 0 ∨ q = 1
        · rcases q01 with hq | hq
          · have q0b : (q == 0) = true := by simpa using hq
            clear hq q3
            go_wp2_with fail
            refine HWA.out.mono ?_
            rintro e w9 ⟨rfl, hw9⟩
            replace hw9 := hw9.symm
            subst hw9
            have HBG2 := Lib.hid HBG.out
            clear HBG
            go_wp2_with fail
            refine HBG2.out.mono ?_
            rintro e w2 ⟨hb2, ⟨hm, A2, k2, nn, hnn, rfl, htx⟩ | ⟨E, hE, _, rfl⟩⟩
            · have e1 : nn = n + 1 := by rw [hnn, HW.out.hn]
              subst e1
              have hc2 : (T.begun z).c = c + 1 := by rw [← HW.out.hc]; rfl
              rw [hc2]
              have HC2 := Lib.hid hc2
              have HM := Lib.hid hm
              have HX2 := Lib.hid htx
              have HB2 := Lib.hid hb2
              have HNN := Lib.hid (show (T.begun z).l.length = n + 1 by rw [len_begun, HW.out.hn])
              have HWB2 := Lib.hid ((HW.out.b.below hb2).below (below_new w2 (.cells #[.slice none 0 0, .int .i64 0] 31)))
              have HP2 := Lib.hid (HW.out.b.below hb2).lt
              clear hb2 htx hnn hm hc2 c0 c1
              rcases Nat.lt_or_ge n 24 with hn1 | hn1
              · have hd1 : decide (n < 24) = true := decide_eq_true hn1
                have hd2 : decide ((n : Int) < 24) = true := decide_eq_true (by omega)
                go_wp2_with (first
                  | (refine wpList_store_tree rfl (.tmp 6) (.tmp 100) rfl rfl rfl (TB.new w2 none 0 0 0) ?_; intro w3 hb3 hg3; have k0 := hb3.c0; have k1 := hb3.c1; have HG3 := Lib.hid hg3; have HWB3 := Lib.hid (HWB2.out.far hg3 (fun e => by injection e with e; have := HP2.out; omega)); clear hb3 hg3)
                  | (refine wpList_store_wx rfl (.tmp 112) (.tmp 110) rfl rfl rfl HWB3.out ?_; intro w4 hb4 hg4; have HWB4 := Lib.hid hb4; have HG4 := Lib.hid hg4; clear hb4 hg4)
                  | fail)
                have t3 : Below w2.heap.size w2 w3 := (below_new w2 _).grown HG3.out (by simp) (fun k e => by injection e with e; omega)
                go_end0
                refine ⟨rfl, (((Turn.ofBelow (S := fun q => q = p) HB1.out).trans (Turn.ofBelow HB2.out)).trans (Turn.ofBelow t3)).trans (turn_p HG4.out), ?_⟩
                exact ⟨A2, n + 1, k2, c + 1, T.begun z, B, m, kb, L, C, nq, kq, Q, ⟨HWB4.out, tx_wc (HX2.out.below t3) HWB3.out HG4.out, HNN.out, HC2.out, lk_wc ((HW.out.l.below HB2.out).below t3) HWB3.out HG4.out, HW.out.hm, HW.out.hk, HW.out.s, rw_wc ((HW.out.q.below HB2.out).below t3) HWB3.out HG4.out, HW.out.hq, HW.out.hqk, HW.out.sq⟩, HWT.out.begun HM.out, HSQ.out, by omega, by omega⟩
              · have hd1 : decide (n < 24) = false := decide_eq_false (by omega)
                have hd2 : decide ((n : Int) < 24) = false := decide_eq_false (by omega)
                go_wp2_with (first
                  | (refine wpList_store_tree rfl (.tmp 6) (.tmp 100) rfl rfl rfl (TB.new w2 none 0 0 0) ?_; intro w3 hb3 hg3; have HG3 := Lib.hid hg3; clear hb3 hg3)
                  | fail)
                have t3 : Below w2.heap.size w2 w3 := (below_new w2 _).grown HG3.out (by simp) (fun k e => by injection e with e; omega)
                go_end0
                exact ⟨rfl, ((Turn.ofBelow (S := fun q => q = p) HB1.out).trans (Turn.ofBelow HB2.out)).trans (Turn.ofBelow t3), ⟨A, n, k, c, T, B, m, kb, L, C, nq, kq, Q, (HW.out.below HB2.out).below t3, HWT.out, HSQ.out, hn24, by omega⟩⟩
            · have hEb : (E == 0) = false := by simpa using hE
              have HB2 := Lib.hid hb2
              clear hb2 hE c0 c1
              go_wp2_with (first
                | (refine wpList_store_tree rfl (.tmp 6) (.tmp 100) rfl rfl rfl (TB.new w2 none 0 0 0) ?_; intro w3 hb3 hg3; have HG3 := Lib.hid hg3; clear hb3 hg3)
                | fail)
              have t3 : Below w2.heap.size w2 w3 := (below_new w2 _).grown HG3.out (by simp) (fun k e => by injection e with e; omega)
              go_end0
              exact ⟨rfl, ((Turn.ofBelow (S := fun q => q = p) HB1.out).trans (Turn.ofBelow HB2.out)).trans (Turn.ofBelow t3), ⟨A, n, k, c, T, B, m, kb, L, C, nq, kq, Q, (HW.out.below HB2.out).below t3, HWT.out, HSQ.out, hn24, by omega⟩⟩
          · have q0b : (q == 0) = false := by simp; omega
            have q1b : (q == 1) = true := by simpa using hq
            clear hq q3
            go_wp2_with fail
            refine HWA.out.mono ?_
            rintro e w9 ⟨rfl, hw9⟩
            replace hw9 := hw9.symm
            subst hw9
            have HBG2 := Lib.hid HBG.out
            clear HBG
            go_wp2_with fail
            refine HBG2.out.mono ?_
            rintro e w2 ⟨hb2, ⟨hm, A2, k2, nn, hnn, rfl, htx⟩ | ⟨E, hE, _, rfl⟩⟩
            · have e1 : nn = n + 1 := by rw [hnn, HW.out.hn]
              subst e1
              have hc2 : (T.begun z).c = c + 1 := by rw [← HW.out.hc]; rfl
              rw [hc2]
              have HC2 := Lib.hid hc2
              have HM := Lib.hid hm
              have HX2 := Lib.hid htx
              have HB2 := Lib.hid hb2
              have HNN := Lib.hid (show (T.begun z).l.length = n + 1 by rw [len_begun, HW.out.hn])
              have HWB2 := Lib.hid ((HW.out.b.below hb2).below (below_new w2 (.cells #[.slice none 0 0, .int .i64 0] 31)))
              have HP2 := Lib.hid (HW.out.b.below hb2).lt
              clear hb2 htx hnn hm hc2 c0 c1
              rcases Nat.lt_or_ge n 24 with hn1 | hn1
              · have hd1 : decide (n < 24) = true := decide_eq_true hn1
                have hd2 : decide ((n : Int) < 24) = true := decide_eq_true (by omega)
                go_wp2_with (first
                  | (refine wpList_store_tree rfl (.tmp 6) (.tmp 100) rfl rfl rfl (TB.new w2 none 0 0 0) ?_; intro w3 hb3 hg3; have k0 := hb3.c0; have k1 := hb3.c1; have HG3 := Lib.hid hg3; have HWB3 := Lib.hid (HWB2.out.far hg3 (fun e => by injection e with e; have := HP2.out; omega)); clear hb3 hg3)
                  | (refine wpList_store_wx rfl (.tmp 112) (.tmp 110) rfl rfl rfl HWB3.out ?_; intro w4 hb4 hg4; have HWB4 := Lib.hid hb4; have HG4 := Lib.hid hg4; clear hb4 hg4)
                  | fail)
                have t3 : Below w2.heap.size w2 w3 := (below_new w2 _).grown HG3.out (by simp) (fun k e => by injection e with e; omega)
                go_end0
                refine ⟨rfl, (((Turn.ofBelow (S := fun q => q = p) HB1.out).trans (Turn.ofBelow HB2.out)).trans (Turn.ofBelow t3)).trans (turn_p HG4.out), ?_⟩
                exact ⟨A2, n + 1, k2, c + 1, T.begun z, B, m, kb, L, C, nq, kq, Q, ⟨HWB4.out, tx_wc (HX2.out.below t3) HWB3.out HG4.out, HNN.out, HC2.out, lk_wc ((HW.out.l.below HB2.out).below t3) HWB3.out HG4.out, HW.out.hm, HW.out.hk, HW.out.s, rw_wc ((HW.out.q.below HB2.out).below t3) HWB3.out HG4.out, HW.out.hq, HW.out.hqk, HW.out.sq⟩, HWT.out.begun HM.out, HSQ.out, by omega, by omega⟩
              · have hd1 : decide (n < 24) = false := decide_eq_false (by omega)
                have hd2 : decide ((n : Int) < 24) = false := decide_eq_false (by omega)
                go_wp2_with (first
                  | (refine wpList_store_tree rfl (.tmp 6) (.tmp 100) rfl rfl rfl (TB.new w2 none 0 0 0) ?_; intro w3 hb3 hg3; have HG3 := Lib.hid hg3; clear hb3 hg3)
                  | fail)
                have t3 : Below w2.heap.size w2 w3 := (below_new w2 _).grown HG3.out (by simp) (fun k e => by injection e with e; omega)
                go_end0
                exact ⟨rfl, ((Turn.ofBelow (S := fun q => q = p) HB1.out).trans (Turn.ofBelow HB2.out)).trans (Turn.ofBelow t3), ⟨A, n, k, c, T, B, m, kb, L, C, nq, kq, Q, (HW.out.below HB2.out).below t3, HWT.out, HSQ.out, hn24, by omega⟩⟩
            · have hEb : (E == 0) = false := by simpa using hE
              have HB2 := Lib.hid hb2
              clear hb2 hE c0 c1
              go_wp2_with (first
                | (refine wpList_store_tree rfl (.tmp 6) (.tmp 100) rfl rfl rfl (TB.new w2 none 0 0 0) ?_; intro w3 hb3 hg3; have HG3 := Lib.hid hg3; clear hb3 hg3)
                | fail)
              have t3 : Below w2.heap.size w2 w3 := (below_new w2 _).grown HG3.out (by simp) (fun k e => by injection e with e; omega)
              go_end0
              exact ⟨rfl, ((Turn.ofBelow (S := fun q => q = p) HB1.out).trans (Turn.ofBelow HB2.out)).trans (Turn.ofBelow t3), ⟨A, n, k, c, T, B, m, kb, L, C, nq, kq, Q, (HW.out.below HB2.out).below t3, HWT.out, HSQ.out, hn24, by omega⟩⟩
        · have q0b : (q == 0) = false := by simp; omega
          have q1b : (q == 1) = false := by simp; omega
          have HCM := Lib.hid (commit_any A T n k c z HW.out.hn HGOOD.out HW.out.hc (by omega) w1 HW.out.x)
          by_cases q2 : q = 2
          · have q2b : (q == 2) = true := by simpa using q2
            clear q2 q01 q3 HBG
            go_wp2_with fail
            refine HWA.out.mono ?_
            rintro e w9 ⟨rfl, hw9⟩
            replace hw9 := hw9.symm
            subst hw9
            go_wp2_with fail
            refine HCM.out.mono ?_
            rintro e w2 ⟨hb2, ⟨i, hzi, hm, A2, k2, nn, hnn, rfl, htx⟩ | ⟨E, hE, hno, rfl⟩⟩
            · subst hzi
              have e1 : nn = n := by rw [hnn, HW.out.hn]
              subst e1
              have hc2 : (T.done i).c = c + 1 := by rw [← HW.out.hc]; rfl
              rw [hc2]
              have HC2 := Lib.hid hc2
              have HNEW2 := Lib.hid (HNEW.out i rfl)
              have hin : i < nn := by rw [← HW.out.hn]; exact hm.lt
              obtain ⟨pa, hpa⟩ : ∃ pa, (T.tx i).p = pa := ⟨_, rfl⟩
              have HDN := Lib.hid (HWT.out.done hm (HNEW.out i rfl))
              rw [hpa] at HDN
              have HI63 := Lib.hid (show i ≤ 63 by omega)
              have HP63 := Lib.hid (show pa ≤ 63 by have := HGOOD.out.par i hm.lt; omega)
              have HPA := Lib.hid hpa
              have HX2 := Lib.hid htx
              have HB2 := Lib.hid hb2
              have HNN := Lib.hid (show (T.done i).l.length = nn by rw [← HW.out.hn]; exact len_turned)
              have HWB2 := Lib.hid ((HW.out.b.below hb2).below (below_new w2 (.cells #[.slice none 0 0, .int .i64 0] 31)))
              have HP2 := Lib.hid (HW.out.b.below hb2).lt
              have d1 : decide ((i : Int) ≥ 0) = true := decide_eq_true (by omega)
              have d2 : decide (i < nn) = true := decide_eq_true hin
              have d3 : decide ((i : Int) < (nn : Int)) = true := decide_eq_true (by omega)
              clear hb2 htx hnn hm hc2 hpa c0 c1
              go_upto_region 24 with (first
                | (refine wpList_store_tree rfl (.tmp 9) (.tmp 122) rfl rfl rfl (TB.new w2 none 0 0 0) ?_; intro w5 hb5 hg5; have HU5 := Lib.hid hb5; have HG5 := Lib.hid hg5; have HWB5 := Lib.hid (HWB2.out.far hg5 (fun e => by injection e with e; have := HP2.out; omega)); clear hb5 hg5)
                | fail)
              have t5 : Below w2.heap.size w2 w5 := (below_new w2 _).grown HG5.out (by simp) (fun k e => by injection e with e; omega)
              have HW5 := Lib.hid ((HW.out.below HB2.out).below t5)
              have HX5 := Lib.hid (HX2.out.below t5)
              have HT5 := Lib.hid (((Turn.ofBelow (S := fun q => q = p) HB1.out).trans (Turn.ofBelow HB2.out)).trans (Turn.ofBelow t5))
              obtain ⟨bp, hAe, hbp, pc, _, _, _⟩ := HW5.out.x.get (i := i) (by rw [HW.out.hn]; exact hin)
              subst hAe
              rw [HPA.out] at pc
              have hbpp : bp ≠ p := by
                rcases HW5.out.x.off (HW5.out.b.c 0 _ rfl) bp 0 rfl with h | h
                · have h2 := HW.out.hn
                  rw [h] at h2
                  simp at h2
                  omega
                · exact h
              have e0 : ∀ V, Turn (fun q => q = p) w5 V → V.cell? ⟨bp, i * 4, none⟩ = some (.int .i64 pa) := fun V hV => hV.cell pc hbpp
              have e2 : (World.drew w5).cell? ⟨p, 2, none⟩ = some (.slice B m kb) := HW5.out.c2
              have e3 : (World.drew w5).cell? ⟨p, 0, none⟩ = some (.slice (some ⟨bp, 0, none⟩) nn k) := HW5.out.c0
              clear pc hbpp t5 d1 d2 d3 hbp
              go_cut [] from 135 to 161 (fun wc => ∃ (B6 : Option Addr) (m6 kb6 : Nat), Hid (Wc wc p (some ⟨bp, 0, none⟩) nn k c B6 m6 kb6 C nq kq) ∧ Hid (LkAt wc B6 (passL L (i : Int) pa)) ∧ Hid ((passL L (i : Int) pa).length = m6 ∧ m6 ≤ kb6 ∧ Sp B6) ∧ Hid (Turn (fun q => q = p) w5 wc))
              case first =>
                refine wp_region_turn (X := (fun q => q = p)) (by kernel_rfl) ?_
                have hS : Turn (fun q => q = p) w5 (World.drew w5) := (Turn.refl _ _).drew
                refine wpAnyH_take (i := 0) (oi := ⟨some 135, _, _, _, _, _⟩) (v := ?_) rfl (by kernel_rfl) (by kernel_rfl) (by kernel_rfl) (fun _ _ _ h => h) (Or.inl ⟨by rfl, ?_⟩) hS ?_
                rotate_left
                · intro W hW; go_simp; with_reducible rfl
                try simp only [Act.put, List.setIfInBounds_toArray, List.set_cons_zero, List.set_cons_succ]
                refine wpAnyH_take (i := 1) (oi := ⟨some 136, _, _, _, _, _⟩) (v := ?_) rfl (by kernel_rfl) (by kernel_rfl) (by kernel_rfl) (fun _ _ _ h => h) (Or.inl ⟨by rfl, ?_⟩) hS ?_
                rotate_left
                · intro W hW; go_simp; with_reducible rfl
                try simp only [Act.put, List.setIfInBounds_toArray, List.set_cons_zero, List.set_cons_succ]
                refine wpAnyH_take (i := 2) (oi := ⟨some 137, _, _, _, _, _⟩) (v := ?_) rfl (by kernel_rfl) (by kernel_rfl) (by kernel_rfl) (fun _ _ _ h => h) (Or.inl ⟨by rfl, ?_⟩) hS ?_
                rotate_left
                · intro W hW; go_simp; with_reducible rfl
                try simp only [Act.put, List.setIfInBounds_toArray, List.set_cons_zero, List.set_cons_succ]
                refine wpAnyH_take (i := 3) (oi := ⟨some 138, _, _, _, _, _⟩) (v := ?_) rfl (by kernel_rfl) (by kernel_rfl) (by kernel_rfl) (fun _ _ _ h => h) (Or.inl ⟨by rfl, ?_⟩) hS ?_
                rotate_left
                · intro W hW; go_simp; with_reducible rfl
                try simp only [Act.put, List.setIfInBounds_toArray, List.set_cons_zero, List.set_cons_succ]
                refine wpAnyH_take (i := 5) (oi := ⟨some 140, _, _, _, _, _⟩) (v := ?_) rfl (by kernel_rfl) (by kernel_rfl) (by kernel_rfl) (fun _ _ _ h => h) (Or.inl ⟨by rfl, ?_⟩) hS ?_
                rotate_left
                · intro W hW; go_simp; with_reducible rfl
                try simp only [Act.put, List.setIfInBounds_toArray, List.set_cons_zero, List.set_cons_succ]
                refine wpAnyH_take (i := 6) (oi := ⟨some 141, _, _, _, _, _⟩) (v := ?_) rfl (by kernel_rfl) (by kernel_rfl) (by kernel_rfl) (fun _ _ _ h => h) (Or.inl ⟨by rfl, ?_⟩) hS ?_
                rotate_left
                · intro W hW; go_simp; with_reducible rfl
                try simp only [Act.put, List.setIfInBounds_toArray, List.set_cons_zero, List.set_cons_succ]
                refine wpAnyH_take (i := 7) (oi := ⟨some 142, _, _, _, _, _⟩) (v := ?_) rfl (by kernel_rfl) (by kernel_rfl) (by kernel_rfl) (fun _ _ _ h => h) (Or.inl ⟨by rfl, ?_⟩) hS ?_
                rotate_left
                · intro W hW; go_simp; with_reducible rfl
                try simp only [Act.put, List.setIfInBounds_toArray, List.set_cons_zero, List.set_cons_succ]
                refine wpAnyH_take (i := 8) (oi := ⟨some 143, _, _, _, _, _⟩) (v := ?_) rfl (by kernel_rfl) (by kernel_rfl) (by kernel_rfl) (fun _ _ _ h => h) (Or.inl ⟨by rfl, ?_⟩) hS ?_
                rotate_left
                · intro W hW; go_simp; with_reducible rfl
                try simp only [Act.put, List.setIfInBounds_toArray, List.set_cons_zero, List.set_cons_succ]
                refine wpAnyH_take (i := 9) (oi := ⟨some 144, _, _, _, _, _⟩) (v := ?_) rfl (by kernel_rfl) (by kernel_rfl) (by kernel_rfl) (fun _ _ _ h => h) (Or.inl ⟨by rfl, ?_⟩) hS ?_
                rotate_left
                · intro W hW; go_simp; with_reducible rfl
                try simp only [Act.put, List.setIfInBounds_toArray, List.set_cons_zero, List.set_cons_succ]
                refine wpAnyH_take (i := 11) (oi := ⟨some 146, _, _, _, _, _⟩) (v := ?_) rfl (by kernel_rfl) (by kernel_rfl) (by kernel_rfl) (fun _ _ _ h => h) (Or.inl ⟨by rfl, ?_⟩) hS ?_
                rotate_left
                · intro W hW; go_simp; with_reducible rfl
                try simp only [Act.put, List.setIfInBounds_toArray, List.set_cons_zero, List.set_cons_succ]
                refine wpAnyH_ready (rs := [4, 10]) (by kernel_rfl) (by simp) ?_
                refine AllReadyH.cons (o := ⟨some 139, _, _, _, _, _⟩) rfl (fun Kr hKr => ?_) (AllReadyH.cons (o := ⟨some 145, _, _, _, _, _⟩) rfl (fun Kr hKr => ?_) AllReadyH.nil)
                · skip
                  -- operation 4: a step
                  go_simp
                  show Kr _ _
                  refine hKr.out _ _ ?_ (fun _ => ?_)
                  · exact hS
                  clear hKr Kr
                  try simp only [Act.put, List.setIfInBounds_toArray, List.set_cons_zero, List.set_cons_succ]
                  refine wpAnyH_ready (rs := [10]) (by kernel_rfl) (by simp) ?_
                  refine AllReadyH.cons (o := ⟨some 145, _, _, _, _, _⟩) rfl (fun Kr hKr => ?_) AllReadyH.nil
                  -- operation 10: a step
                  go_simp
                  show Kr _ _
                  refine hKr.out _ _ ?_ (fun _ => ?_)
                  · exact hS
                  clear hKr Kr
                  try simp only [Act.put, List.setIfInBounds_toArray, List.set_cons_zero, List.set_cons_succ]
                  refine wpAnyH_take (i := 12) (oi := ⟨some 147, _, _, _, _, _⟩) (v := ?_) rfl (by kernel_rfl) (by kernel_rfl) (by kernel_rfl) (fun _ _ _ h => h) (Or.inl ⟨by rfl, ?_⟩) hS ?_
                  rotate_left
                  · intro W hW; go_simp; with_reducible rfl
                  try simp only [Act.put, List.setIfInBounds_toArray, List.set_cons_zero, List.set_cons_succ]
                  refine wpAnyH_take (i := 13) (oi := ⟨some 148, _, _, _, _, _⟩) (v := ?_) rfl (by kernel_rfl) (by kernel_rfl) (by kernel_rfl) (fun _ _ _ h => h) (Or.inl ⟨by rfl, ?_⟩) hS ?_
                  rotate_left
                  · intro W hW; go_simp; with_reducible rfl
                  try simp only [Act.put, List.setIfInBounds_toArray, List.set_cons_zero, List.set_cons_succ]
                  refine wpAnyH_take (i := 14) (oi := ⟨some 149, _, _, _, _, _⟩) (v := ?_) rfl (by kernel_rfl) (by kernel_rfl) (by kernel_rfl) (fun _ _ _ h => h) (Or.inl ⟨by rfl, ?_⟩) hS ?_
                  rotate_left
                  · intro W hW; go_simp; with_reducible rfl
                  try simp only [Act.put, List.setIfInBounds_toArray, List.set_cons_zero, List.set_cons_succ]
                  refine wpAnyH_ready (rs := [15]) (by kernel_rfl) (by simp) ?_
                  refine AllReadyH.cons (o := ⟨some 150, _, _, _, _, _⟩) rfl (fun Kr hKr => ?_) AllReadyH.nil
                  -- operation 15: a call
                  go_simp
                  refine (pass_any B L m kb HW5.out.hm HW5.out.s HWT.out.apt.tab i pa HI63.out HP63.out _ (HW5.out.l.below ((Below.refl _ _).drew))).mono ?_
                  rintro e w6 ⟨B6, m6, kb6, rfl, ho6, hb6⟩
                  show Kr _ _
                  refine hKr.out _ _ ?_ (fun _ => ?_)
                  · exact hS.trans (Turn.ofBelow hb6)
                  clear hKr Kr
                  replace hS : Turn (fun q => q = p) w5 w6 := hS.trans (Turn.ofBelow hb6)
                  try simp only [Act.put, List.setIfInBounds_toArray, List.set_cons_zero, List.set_cons_succ]
                  refine wpAnyH_take (i := 16) (oi := ⟨some 151, _, _, _, _, _⟩) (v := ?_) rfl (by kernel_rfl) (by kernel_rfl) (by kernel_rfl) (fun _ _ _ h => h) (Or.inl ⟨by rfl, ?_⟩) hS ?_
                  rotate_left
                  · intro W hW; go_simp; with_reducible rfl
                  try simp only [Act.put, List.setIfInBounds_toArray, List.set_cons_zero, List.set_cons_succ]
                  refine wpAnyH_take (i := 17) (oi := ⟨some 152, _, _, _, _, _⟩) (v := ?_) rfl (by kernel_rfl) (by kernel_rfl) (by kernel_rfl) (fun _ _ _ h => h) (Or.inl ⟨by rfl, ?_⟩) hS ?_
                  rotate_left
                  · intro W hW; go_simp; with_reducible rfl
                  try simp only [Act.put, List.setIfInBounds_toArray, List.set_cons_zero, List.set_cons_succ]
                  refine wpAnyH_ready (rs := [18]) (by kernel_rfl) (by simp) ?_
                  refine AllReadyH.cons (o := ⟨none, _, _, _, _, _⟩) rfl (fun Kr hKr => ?_) AllReadyH.nil
                  -- operation 18: a step
                  refine wp_store_wt (.tmp 152) (.tmp 150) rfl rfl rfl (show Wc w6 p (some ⟨bp, 0, none⟩) nn k c B m kb C nq kq from (HW5.out.b.below ((Below.refl _ _).drew)).below hb6) ?_
                  intro w7 hk7 hg7
                  show Kr _ _
                  refine hKr.out _ _ ?_ (fun _ => ?_)
                  · exact hS.grown hg7 (fun q e => by injection e with e; exact .inl e.symm)
                  clear hKr Kr
                  replace hS : Turn (fun q => q = p) w5 w7 := hS.grown hg7 (fun q e => by injection e with e; exact .inl e.symm)
                  try simp only [Act.put, List.setIfInBounds_toArray, List.set_cons_zero, List.set_cons_succ]
                  refine wpAnyH_done (by kernel_rfl) ?_ _
                  have hx7 : LkAt w7 B6 (passL L (i : Int) pa) := lk_wc ho6.parts.2.2.2 (show Wc w6 p (some ⟨bp, 0, none⟩) nn k c B m kb C nq kq from (HW5.out.b.below ((Below.refl _ _).drew)).below hb6) hg7
                  have HXX := Lib.hid (show (passL L (i : Int) pa).length = m6 ∧ m6 ≤ kb6 ∧ Sp B6 from ⟨ho6.parts.1, ho6.parts.2.1, ho6.parts.2.2.1⟩)
                  clear ho6
                  go_wp2_with fail
                  go_meet
                  case rel => exact ⟨B6, m6, kb6, hk7, hx7, HXX.out, hS⟩
                · skip
                  -- operation 10: a step
                  go_simp
                  show Kr _ _
                  refine hKr.out _ _ ?_ (fun _ => ?_)
                  · exact hS
                  clear hKr Kr
                  try simp only [Act.put, List.setIfInBounds_toArray, List.set_cons_zero, List.set_cons_succ]
                  refine wpAnyH_take (i := 12) (oi := ⟨some 147, _, _, _, _, _⟩) (v := ?_) rfl (by kernel_rfl) (by kernel_rfl) (by kernel_rfl) (fun _ _ _ h => h) (Or.inl ⟨by rfl, ?_⟩) hS ?_
                  rotate_left
                  · intro W hW; go_simp; with_reducible rfl
                  try simp only [Act.put, List.setIfInBounds_toArray, List.set_cons_zero, List.set_cons_succ]
                  refine wpAnyH_take (i := 13) (oi := ⟨some 148, _, _, _, _, _⟩) (v := ?_) rfl (by kernel_rfl) (by kernel_rfl) (by kernel_rfl) (fun _ _ _ h => h) (Or.inl ⟨by rfl, ?_⟩) hS ?_
                  rotate_left
                  · intro W hW; go_simp; with_reducible rfl
                  try simp only [Act.put, List.setIfInBounds_toArray, List.set_cons_zero, List.set_cons_succ]
                  refine wpAnyH_take (i := 14) (oi := ⟨some 149, _, _, _, _, _⟩) (v := ?_) rfl (by kernel_rfl) (by kernel_rfl) (by kernel_rfl) (fun _ _ _ h => h) (Or.inl ⟨by rfl, ?_⟩) hS ?_
                  rotate_left
                  · intro W hW; go_simp; with_reducible rfl
                  try simp only [Act.put, List.setIfInBounds_toArray, List.set_cons_zero, List.set_cons_succ]
                  refine wpAnyH_ready (rs := [4]) (by kernel_rfl) (by simp) ?_
                  refine AllReadyH.cons (o := ⟨some 139, _, _, _, _, _⟩) rfl (fun Kr hKr => ?_) AllReadyH.nil
                  -- operation 4: a step
                  go_simp
                  show Kr _ _
                  refine hKr.out _ _ ?_ (fun _ => ?_)
                  · exact hS
                  clear hKr Kr
                  try simp only [Act.put, List.setIfInBounds_toArray, List.set_cons_zero, List.set_cons_succ]
                  refine wpAnyH_ready (rs := [15]) (by kernel_rfl) (by simp) ?_
                  refine AllReadyH.cons (o := ⟨some 150, _, _, _, _, _⟩) rfl (fun Kr hKr => ?_) AllReadyH.nil
                  -- operation 15: a call
                  go_simp
                  refine (pass_any B L m kb HW5.out.hm HW5.out.s HWT.out.apt.tab i pa HI63.out HP63.out _ (HW5.out.l.below ((Below.refl _ _).drew))).mono ?_
                  rintro e w6 ⟨B6, m6, kb6, rfl, ho6, hb6⟩
                  show Kr _ _
                  refine hKr.out _ _ ?_ (fun _ => ?_)
                  · exact hS.trans (Turn.ofBelow hb6)
                  clear hKr Kr
                  replace hS : Turn (fun q => q = p) w5 w6 := hS.trans (Turn.ofBelow hb6)
                  try simp only [Act.put, List.setIfInBounds_toArray, List.set_cons_zero, List.set_cons_succ]
                  refine wpAnyH_take (i := 16) (oi := ⟨some 151, _, _, _, _, _⟩) (v := ?_) rfl (by kernel_rfl) (by kernel_rfl) (by kernel_rfl) (fun _ _ _ h => h) (Or.inl ⟨by rfl, ?_⟩) hS ?_
                  rotate_left
                  · intro W hW; go_simp; with_reducible rfl
                  try simp only [Act.put, List.setIfInBounds_toArray, List.set_cons_zero, List.set_cons_succ]
                  refine wpAnyH_take (i := 17) (oi := ⟨some 152, _, _, _, _, _⟩) (v := ?_) rfl (by kernel_rfl) (by kernel_rfl) (by kernel_rfl) (fun _ _ _ h => h) (Or.inl ⟨by rfl, ?_⟩) hS ?_
                  rotate_left
                  · intro W hW; go_simp; with_reducible rfl
                  try simp only [Act.put, List.setIfInBounds_toArray, List.set_cons_zero, List.set_cons_succ]
                  refine wpAnyH_ready (rs := [18]) (by kernel_rfl) (by simp) ?_
                  refine AllReadyH.cons (o := ⟨none, _, _, _, _, _⟩) rfl (fun Kr hKr => ?_) AllReadyH.nil
                  -- operation 18: a step
                  refine wp_store_wt (.tmp 152) (.tmp 150) rfl rfl rfl (show Wc w6 p (some ⟨bp, 0, none⟩) nn k c B m kb C nq kq from (HW5.out.b.below ((Below.refl _ _).drew)).below hb6) ?_
                  intro w7 hk7 hg7
                  show Kr _ _
                  refine hKr.out _ _ ?_ (fun _ => ?_)
                  · exact hS.grown hg7 (fun q e => by injection e with e; exact .inl e.symm)
                  clear hKr Kr
                  replace hS : Turn (fun q => q = p) w5 w7 := hS.grown hg7 (fun q e => by injection e with e; exact .inl e.symm)
                  try simp only [Act.put, List.setIfInBounds_toArray, List.set_cons_zero, List.set_cons_succ]
                  refine wpAnyH_done (by kernel_rfl) ?_ _
                  have hx7 : LkAt w7 B6 (passL L (i : Int) pa) := lk_wc ho6.parts.2.2.2 (show Wc w6 p (some ⟨bp, 0, none⟩) nn k c B m kb C nq kq from (HW5.out.b.below ((Below.refl _ _).drew)).below hb6) hg7
                  have HXX := Lib.hid (show (passL L (i : Int) pa).length = m6 ∧ m6 ≤ kb6 ∧ Sp B6 from ⟨ho6.parts.1, ho6.parts.2.1, ho6.parts.2.2.1⟩)
                  clear ho6
                  go_wp2_with fail
                  go_meet
                  case rel => exact ⟨B6, m6, kb6, hk7, hx7, HXX.out, hS⟩
              obtain ⟨B6, m6, kb6, HK7, HX7, HPT, HS⟩ := hcut
              obtain ⟨w7, hw7⟩ : ∃ w7, w7 = wc := ⟨_, rfl⟩
              subst hw7
              clear e0 e2 e3
              have hne : ¬ w2.heap.size = p := by have := HP2.out; omega
              have HU7 := Lib.hid (show TB w7 w2.heap.size A2 nn k2 (c + 1) from (HS.out.block _ (lt_of_block HU5.out) hne).trans HU5.out)
              have k0 := HU7.out.c0
              have k1 := HU7.out.c1
              go_wp2_with (first
                | (refine wpList_store_wx rfl (.tmp 156) (.tmp 154) rfl rfl rfl HK7.out ?_; intro w8 hb8 hg8; have HWB8 := Lib.hid hb8; have HG8 := Lib.hid hg8; clear hb8 hg8)
                | fail)
              go_end0
              refine ⟨rfl, (HT5.out.trans HS.out).trans (turn_p HG8.out), ⟨A2, nn, k2, c + 1, T.done i, B6, m6, kb6, passL L (i : Int) pa, C, nq, kq, Q, ⟨HWB8.out, tx_wc (HX5.out.turn HS.out (fun b o e => (HX5.out.off (HW5.out.b.c 0 _ rfl) b o e).imp id fun h h2 => h h2)) HK7.out HG8.out, HNN.out, HC2.out, lk_wc HX7.out HK7.out HG8.out, HPT.out.1, HPT.out.2.1, HPT.out.2.2, rw_wc (rw_turn HW5.out.q HW5.out.b HS.out) HK7.out HG8.out, HW.out.hq, HW.out.hqk, HW.out.sq⟩, HDN.out, HSQ.out, hn24, by omega⟩⟩
            · have hEb : (E == 0) = false := by simpa using hE
              have HB2 := Lib.hid hb2
              clear hb2 hE hno c0 c1
              go_wp2_with (first
                | (refine wpList_store_tree rfl (.tmp 9) (.tmp 122) rfl rfl rfl (TB.new w2 none 0 0 0) ?_; intro w3 hb3 hg3; have HG3 := Lib.hid hg3; clear hb3 hg3)
                | fail)
              have t3 : Below w2.heap.size w2 w3 := (below_new w2 _).grown HG3.out (by simp) (fun k e => by injection e with e; omega)
              go_end0
              exact ⟨rfl, ((Turn.ofBelow (S := fun q => q = p) HB1.out).trans (Turn.ofBelow HB2.out)).trans (Turn.ofBelow t3), ⟨A, n, k, c, T, B, m, kb, L, C, nq, kq, Q, (HW.out.below HB2.out).below t3, HWT.out, HSQ.out, hn24, by omega⟩⟩
          · have q2b : (q == 2) = false := by simpa using q2
            have z2 := HZ.out.c 2 _ rfl
            have z3 := HZ.out.c 3 _ rfl
            clear q2 q01 q3 HBG HCM
            obtain ⟨b4, hb4, hlow3⟩ := low v 3 2 (by decide) (by omega)
            obtain ⟨y4, hy4, hlow1⟩ := low r 1 1 (by decide) (by omega)
            obtain ⟨md, hmd⟩ : ∃ md : Int, 1 + (y4 : Int) = md := ⟨_, rfl⟩
            have HMD := Lib.hid (show md = 1 ∨ md = 2 by have : y4 < 2 := hy4; omega)
            have hmw : IntKind.i64.wrap md = md := by rw [IntKind.wrap_i64]; have := HMD.out; omega
            have HBB := Lib.hid (show 0 ≤ (b4 : Int) ∧ (b4 : Int) ≤ 255 by have : b4 < 4 := hb4; omega)
            obtain ⟨E, hE⟩ : ∃ E, E = askE T L z b4 md := ⟨_, rfl⟩
            obtain ⟨L2, hL2⟩ : ∃ L2, L2 = askL T L z b4 md := ⟨_, rfl⟩
            have HAK : Hid (∀ V, Since w1 V → Calls Tryz.prog 14 #[.agg #[.slice B m kb], .agg #[.slice A n k, .int .i64 c], .int .i64 z, .int .i64 (b4 : Int), .int .i64 md] V fun e w' => ∃ A' n' k', e = .returned (.tuple #[.agg #[.slice A' n' k'], .int .i64 E]) ∧ OwnLk w' V.heap.size (.slice A' n' k') L2 ∧ Below V.heap.size V w') := fun V hV => by
              rw [hE, hL2]
              exact ask_any B L m kb HW.out.hm HW.out.hk HW.out.s HWT.out.apt.tab A T n k c HW.out.hn HGOOD.out z b4 md HBB.out HMD.out V (HW.out.l.below hV) (HW.out.x.below hV)
            have HWT2' := Lib.hid (show E = 0 → Wt T L2 Q from fun h => by
              rw [hL2]
              unfold askL
              rw [if_pos (by rw [← hE]; exact h)]
              exact HWT.out.ask HBB.out HMD.out (by rw [← hE]; exact h))
            have HE9 := Lib.hid (show E = 9 → ∃ i : Nat, z = i ∧ i < n ∧ (T.tx i).s = 1 from fun h => by
              rw [hE] at h
              unfold askE at h
              by_cases h1 : 0 ≤ z ∧ z < (T.l.length : Int)
              · rw [if_pos h1] at h
                by_cases h2 : (T.tx z.toNat).s = 1
                · exact ⟨z.toNat, by omega, by have := HW.out.hn; omega, h2⟩
                · rw [if_neg h2] at h; cases h
              · rw [if_neg h1] at h; cases h)
            clear hb4 hy4 hE hL2 c0 c1
            have s0 : ∀ V, Since w1 V → V.cell? ⟨p, 0, none⟩ = some (.slice A n k) := fun V hV => (HW.out.below hV).c0
            have s1 : ∀ V, Since w1 V → V.cell? ⟨p, 1, none⟩ = some (.int .i64 c) := fun V hV => (HW.out.below hV).c1
            have s2 : ∀ V, Since w1 V → V.cell? ⟨p, 2, none⟩ = some (.slice B m kb) := fun V hV => (HW.out.below hV).c2
            go_wp2_with fail
            refine HWA.out.mono ?_
            rintro e w9 ⟨rfl, hw9⟩
            replace hw9 := hw9.symm
            subst hw9
            go_upto_region 9 with fail
            clear z0 z2 z3
            go_cut [13, 14] from 17 to 161 (fun pv ev wc => ∃ (B6 : Option Addr) (m6 kb6 h : Nat), pv = .pointer (some ⟨h, 0, none⟩) ∧ ev = .int .i64 E ∧ Hid (KB wc h B6 m6 kb6) ∧ Hid (LkAt wc B6 L2) ∧ Hid (L2.length = m6 ∧ m6 ≤ kb6 ∧ Sp B6) ∧ Hid (Since w1 wc))
            case first =>
              refine wp_region_since (by kernel_rfl) ?_
              have hS : Since w1 (World.drew w1) := (Below.refl _ _).drew
              refine wpAnyH_take (i := 0) (oi := ⟨some 50, _, _, _, _, _⟩) (v := ?_) rfl (by kernel_rfl) (by kernel_rfl) (by kernel_rfl) (fun _ _ _ h => h) (Or.inl ⟨by rfl, ?_⟩) hS ?_
              rotate_left
              · intro W hW; go_simp; with_reducible rfl
              try simp only [Act.put, List.setIfInBounds_toArray, List.set_cons_zero, List.set_cons_succ]
              refine wpAnyH_take (i := 1) (oi := ⟨some 51, _, _, _, _, _⟩) (v := ?_) rfl (by kernel_rfl) (by kernel_rfl) (by kernel_rfl) (fun _ _ _ h => h) (Or.inl ⟨by rfl, ?_⟩) hS ?_
              rotate_left
              · intro W hW; go_simp; with_reducible rfl
              try simp only [Act.put, List.setIfInBounds_toArray, List.set_cons_zero, List.set_cons_succ]
              refine wpAnyH_take (i := 2) (oi := ⟨some 52, _, _, _, _, _⟩) (v := ?_) rfl (by kernel_rfl) (by kernel_rfl) (by kernel_rfl) (fun _ _ _ h => h) (Or.inl ⟨by rfl, ?_⟩) hS ?_
              rotate_left
              · intro W hW; go_simp; with_reducible rfl
              try simp only [Act.put, List.setIfInBounds_toArray, List.set_cons_zero, List.set_cons_succ]
              refine wpAnyH_take (i := 3) (oi := ⟨some 53, _, _, _, _, _⟩) (v := ?_) rfl (by kernel_rfl) (by kernel_rfl) (by kernel_rfl) (fun _ _ _ h => h) (Or.inl ⟨by rfl, ?_⟩) hS ?_
              rotate_left
              · intro W hW; go_simp; with_reducible rfl
              try simp only [Act.put, List.setIfInBounds_toArray, List.set_cons_zero, List.set_cons_succ]
              refine wpAnyH_take (i := 4) (oi := ⟨some 54, _, _, _, _, _⟩) (v := ?_) rfl (by kernel_rfl) (by kernel_rfl) (by kernel_rfl) (fun _ _ _ h => h) (Or.inl ⟨by rfl, ?_⟩) hS ?_
              rotate_left
              · intro W hW; go_simp; with_reducible rfl
              try simp only [Act.put, List.setIfInBounds_toArray, List.set_cons_zero, List.set_cons_succ]
              refine wpAnyH_take (i := 5) (oi := ⟨some 55, _, _, _, _, _⟩) (v := ?_) rfl (by kernel_rfl) (by kernel_rfl) (by kernel_rfl) (fun _ _ _ h => h) (Or.inl ⟨by rfl, ?_⟩) hS ?_
              rotate_left
              · intro W hW; go_simp; with_reducible rfl
              try simp only [Act.put, List.setIfInBounds_toArray, List.set_cons_zero, List.set_cons_succ]
              refine wpAnyH_take (i := 6) (oi := ⟨some 56, _, _, _, _, _⟩) (v := ?_) rfl (by kernel_rfl) (by kernel_rfl) (by kernel_rfl) (fun _ _ _ h => h) (Or.inl ⟨by rfl, ?_⟩) hS ?_
              rotate_left
              · intro W hW; go_simp; with_reducible rfl
              try simp only [Act.put, List.setIfInBounds_toArray, List.set_cons_zero, List.set_cons_succ]
              refine wpAnyH_take (i := 7) (oi := ⟨some 57, _, _, _, _, _⟩) (v := ?_) rfl (by kernel_rfl) (by kernel_rfl) (by kernel_rfl) (fun _ _ _ h => h) (Or.inl ⟨by rfl, ?_⟩) hS ?_
              rotate_left
              · intro W hW; go_simp; with_reducible rfl
              try simp only [Act.put, List.setIfInBounds_toArray, List.set_cons_zero, List.set_cons_succ]
              refine wpAnyH_take (i := 8) (oi := ⟨some 58, _, _, _, _, _⟩) (v := ?_) rfl (by kernel_rfl) (by kernel_rfl) (by kernel_rfl) (fun _ _ _ h => h) (Or.inl ⟨by rfl, ?_⟩) hS ?_
              rotate_left
              · intro W hW; go_simp; with_reducible rfl
              try simp only [Act.put, List.setIfInBounds_toArray, List.set_cons_zero, List.set_cons_succ]
              refine wpAnyH_take (i := 9) (oi := ⟨some 59, _, _, _, _, _⟩) (v := ?_) rfl (by kernel_rfl) (by kernel_rfl) (by kernel_rfl) (fun _ _ _ h => h) (Or.inl ⟨by rfl, ?_⟩) hS ?_
              rotate_left
              · intro W hW; go_simp; with_reducible rfl
              try simp only [Act.put, List.setIfInBounds_toArray, List.set_cons_zero, List.set_cons_succ]
              refine wpAnyH_take (i := 10) (oi := ⟨some 60, _, _, _, _, _⟩) (v := ?_) rfl (by kernel_rfl) (by kernel_rfl) (by kernel_rfl) (fun _ _ _ h => h) (Or.inl ⟨by rfl, ?_⟩) hS ?_
              rotate_left
              · intro W hW; go_simp; with_reducible rfl
              try simp only [Act.put, List.setIfInBounds_toArray, List.set_cons_zero, List.set_cons_succ]
              refine wpAnyH_ready (rs := [11, 15]) (by kernel_rfl) (by simp) ?_
              refine AllReadyH.cons (o := ⟨some 61, _, _, _, _, _⟩) rfl (fun Kr hKr => ?_) (AllReadyH.cons (o := ⟨some 13, _, _, _, _, _⟩) rfl (fun Kr hKr => ?_) AllReadyH.nil)
              · skip
                -- operation 11: a call
                go_simp
                refine (HAK.out _ hS).mono ?_
                rintro e w6 ⟨B6, m6, kb6, rfl, ho6, hb6⟩
                show Kr _ _
                refine hKr.out _ _ ?_ (fun _ => ?_)
                · exact since_trans hS hb6
                clear hKr Kr
                replace hS : Since w1 w6 := since_trans hS hb6
                try simp only [Act.put, List.setIfInBounds_toArray, List.set_cons_zero, List.set_cons_succ]
                refine wpAnyH_take (i := 12) (oi := ⟨some 49, _, _, _, _, _⟩) (v := ?_) rfl (by kernel_rfl) (by kernel_rfl) (by kernel_rfl) (fun _ _ _ h => h) (Or.inl ⟨by rfl, ?_⟩) hS ?_
                rotate_left
                · intro W hW; go_simp; with_reducible rfl
                try simp only [Act.put, List.setIfInBounds_toArray, List.set_cons_zero, List.set_cons_succ]
                refine wpAnyH_take (i := 13) (oi := ⟨some 62, _, _, _, _, _⟩) (v := ?_) rfl (by kernel_rfl) (by kernel_rfl) (by kernel_rfl) (fun _ _ _ h => h) (Or.inl ⟨by rfl, ?_⟩) hS ?_
                rotate_left
                · intro W hW; go_simp; with_reducible rfl
                try simp only [Act.put, List.setIfInBounds_toArray, List.set_cons_zero, List.set_cons_succ]
                refine wpAnyH_take (i := 14) (oi := ⟨some 63, _, _, _, _, _⟩) (v := ?_) rfl (by kernel_rfl) (by kernel_rfl) (by kernel_rfl) (fun _ _ _ h => h) (Or.inl ⟨by rfl, ?_⟩) hS ?_
                rotate_left
                · intro W hW; go_simp; with_reducible rfl
                try simp only [Act.put, List.setIfInBounds_toArray, List.set_cons_zero, List.set_cons_succ]
                refine wpAnyH_ready (rs := [15]) (by kernel_rfl) (by simp) ?_
                refine AllReadyH.cons (o := ⟨some 13, _, _, _, _, _⟩) rfl (fun Kr hKr => ?_) AllReadyH.nil
                -- operation 15: a step
                refine wp_alloc_table rfl ?_
                intro w20 g20 hg20 hk20 hb20
                have hG20 : w1.heap.size ≤ g20 := Nat.le_trans (Below.size hS) hg20
                show Kr _ _
                refine hKr.out _ _ ?_ (fun _ => ?_)
                · exact since_trans hS hb20
                clear hKr Kr
                replace hS : Since w1 w20 := since_trans hS hb20
                try simp only [Act.put, List.setIfInBounds_toArray, List.set_cons_zero, List.set_cons_succ]
                refine wpAnyH_ready (rs := [16]) (by kernel_rfl) (by simp) ?_
                refine AllReadyH.cons (o := ⟨none, _, _, _, _, _⟩) rfl (fun Kr hKr => ?_) AllReadyH.nil
                -- operation 16: a step
                refine wp_store_table (.tmp 13) (.tmp 62) rfl rfl rfl (by first | exact hk20 | exact KB.below hk20 hb6) ?_
                intro w7 hk7 hg7
                show Kr _ _
                refine hKr.out _ _ ?_ (fun _ => ?_)
                · exact Below.grown hS hg7 hS.size (fun q e => by injection e with e; omega)
                clear hKr Kr
                replace hS : Since w1 w7 := Below.grown hS hg7 hS.size (fun q e => by injection e with e; omega)
                try simp only [Act.put, List.setIfInBounds_toArray, List.set_cons_zero, List.set_cons_succ]
                refine wpAnyH_take (i := 17) (oi := ⟨some 14, _, _, _, _, _⟩) (v := ?_) rfl (by kernel_rfl) (by kernel_rfl) (by kernel_rfl) (fun _ _ _ h => h) (Or.inl ⟨by rfl, ?_⟩) hS ?_
                rotate_left
                · intro W hW; go_simp; with_reducible rfl
                try simp only [Act.put, List.setIfInBounds_toArray, List.set_cons_zero, List.set_cons_succ]
                refine wpAnyH_done (by kernel_rfl) ?_ _
                have hx7 : LkAt w7 B6 L2 := by first | exact (ho6.parts.2.2.2.below hb20).boxK hk20 hg7 | exact ho6.parts.2.2.2.boxK (KB.below hk20 hb6) hg7
                go_wp2_with fail
                go_meet
                case rel => exact ⟨B6, m6, kb6, g20, rfl, rfl, hk7, hx7, ⟨ho6.parts.1, ho6.parts.2.1, ho6.parts.2.2.1⟩, hS⟩
              · skip
                -- operation 15: a step
                refine wp_alloc_table rfl ?_
                intro w20 g20 hg20 hk20 hb20
                have hG20 : w1.heap.size ≤ g20 := Nat.le_trans (Below.size hS) hg20
                show Kr _ _
                refine hKr.out _ _ ?_ (fun _ => ?_)
                · exact since_trans hS hb20
                clear hKr Kr
                replace hS : Since w1 w20 := since_trans hS hb20
                try simp only [Act.put, List.setIfInBounds_toArray, List.set_cons_zero, List.set_cons_succ]
                refine wpAnyH_ready (rs := [11]) (by kernel_rfl) (by simp) ?_
                refine AllReadyH.cons (o := ⟨some 61, _, _, _, _, _⟩) rfl (fun Kr hKr => ?_) AllReadyH.nil
                -- operation 11: a call
                go_simp
                refine (HAK.out _ hS).mono ?_
                rintro e w6 ⟨B6, m6, kb6, rfl, ho6, hb6⟩
                show Kr _ _
                refine hKr.out _ _ ?_ (fun _ => ?_)
                · exact since_trans hS hb6
                clear hKr Kr
                replace hS : Since w1 w6 := since_trans hS hb6
                try simp only [Act.put, List.setIfInBounds_toArray, List.set_cons_zero, List.set_cons_succ]
                refine wpAnyH_take (i := 12) (oi := ⟨some 49, _, _, _, _, _⟩) (v := ?_) rfl (by kernel_rfl) (by kernel_rfl) (by kernel_rfl) (fun _ _ _ h => h) (Or.inl ⟨by rfl, ?_⟩) hS ?_
                rotate_left
                · intro W hW; go_simp; with_reducible rfl
                try simp only [Act.put, List.setIfInBounds_toArray, List.set_cons_zero, List.set_cons_succ]
                refine wpAnyH_take (i := 13) (oi := ⟨some 62, _, _, _, _, _⟩) (v := ?_) rfl (by kernel_rfl) (by kernel_rfl) (by kernel_rfl) (fun _ _ _ h => h) (Or.inl ⟨by rfl, ?_⟩) hS ?_
                rotate_left
                · intro W hW; go_simp; with_reducible rfl
                try simp only [Act.put, List.setIfInBounds_toArray, List.set_cons_zero, List.set_cons_succ]
                refine wpAnyH_take (i := 14) (oi := ⟨some 63, _, _, _, _, _⟩) (v := ?_) rfl (by kernel_rfl) (by kernel_rfl) (by kernel_rfl) (fun _ _ _ h => h) (Or.inl ⟨by rfl, ?_⟩) hS ?_
                rotate_left
                · intro W hW; go_simp; with_reducible rfl
                try simp only [Act.put, List.setIfInBounds_toArray, List.set_cons_zero, List.set_cons_succ]
                refine wpAnyH_ready (rs := [16]) (by kernel_rfl) (by simp) ?_
                refine AllReadyH.cons (o := ⟨none, _, _, _, _, _⟩) rfl (fun Kr hKr => ?_) AllReadyH.nil
                -- operation 16: a step
                refine wp_store_table (.tmp 13) (.tmp 62) rfl rfl rfl (by first | exact hk20 | exact KB.below hk20 hb6) ?_
                intro w7 hk7 hg7
                show Kr _ _
                refine hKr.out _ _ ?_ (fun _ => ?_)
                · exact Below.grown hS hg7 hS.size (fun q e => by injection e with e; omega)
                clear hKr Kr
                replace hS : Since w1 w7 := Below.grown hS hg7 hS.size (fun q e => by injection e with e; omega)
                try simp only [Act.put, List.setIfInBounds_toArray, List.set_cons_zero, List.set_cons_succ]
                refine wpAnyH_take (i := 17) (oi := ⟨some 14, _, _, _, _, _⟩) (v := ?_) rfl (by kernel_rfl) (by kernel_rfl) (by kernel_rfl) (fun _ _ _ h => h) (Or.inl ⟨by rfl, ?_⟩) hS ?_
                rotate_left
                · intro W hW; go_simp; with_reducible rfl
                try simp only [Act.put, List.setIfInBounds_toArray, List.set_cons_zero, List.set_cons_succ]
                refine wpAnyH_done (by kernel_rfl) ?_ _
                have hx7 : LkAt w7 B6 L2 := by first | exact (ho6.parts.2.2.2.below hb20).boxK hk20 hg7 | exact ho6.parts.2.2.2.boxK (KB.below hk20 hb6) hg7
                go_wp2_with fail
                go_meet
                case rel => exact ⟨B6, m6, kb6, g20, rfl, rfl, hk7, hx7, ⟨ho6.parts.1, ho6.parts.2.1, ho6.parts.2.2.1⟩, hS⟩
            obtain ⟨B6, m6, kb6, h7, rfl, rfl, HK7, HX7, HPT, HS⟩ := hcut
            obtain ⟨w7, hw7⟩ : ∃ w7, w7 = wc := ⟨_, rfl⟩
            subst hw7
            have HW7 := Lib.hid (HW.out.below HS.out)
            have HB7 := Lib.hid (HB1.out.trans (Below.mono HS.out HB1.out.size))
            have k0 := HK7.out.c0
            have c2 := HW7.out.c2
            clear s0 s1 s2 hlow3 hlow1 hmd hmw HAK
            by_cases e0 : E = 0
            · have eb : (E == 0) = true := by simpa using e0
              have HWT3 := Lib.hid (HWT2'.out e0)
              clear e0
              go_wp2_with (first | (refine wpList_store_wt rfl (.tmp 69) (.tmp 67) rfl rfl rfl HW7.out.b ?_; intro w8 hb8 hg8; have HWB8 := Lib.hid hb8; have HG8 := Lib.hid hg8; clear hb8 hg8) | fail)
              go_end0
              exact ⟨rfl, (Turn.ofBelow (S := fun q => q = p) HB7.out).trans (turn_p HG8.out), ⟨A, n, k, c, T, B6, m6, kb6, L2, C, nq, kq, Q, ⟨HWB8.out, tx_wc HW7.out.x HW7.out.b HG8.out, HW.out.hn, HW.out.hc, lk_wc HX7.out HW7.out.b HG8.out, HPT.out.1, HPT.out.2.1, HPT.out.2.2, rw_wc HW7.out.q HW7.out.b HG8.out, HW.out.hq, HW.out.hqk, HW.out.sq⟩, HWT3.out, HSQ.out, hn24, by omega⟩⟩
            · have eb : (E == 0) = false := by simpa using e0
              clear e0
              by_cases e9 : E = 9
              · have eb9 : (E == 9) = true := by simpa using e9
                obtain ⟨i, hzi, hin, his⟩ := HE9.out e9
                subst hzi
                have HMAY := Lib.hid (show MayW ⟨i, (b4 : Int), md⟩ from ⟨by show i < 64; omega, ⟨by show (0 : Int) ≤ (b4 : Int); omega, by show (b4 : Int) < 256; have := HBB.out.2; omega⟩, HMD.out⟩)
                have HADD := Lib.hid (add_any C Q nq kq HW.out.hq HW.out.hqk HSQ.out HW.out.sq ⟨i, (b4 : Int), md⟩ HMAY.out w7 HW7.out.q)
                obtain ⟨E2, hE2⟩ : ∃ E2, E2 = addE Q ⟨i, (b4 : Int), md⟩ := ⟨_, rfl⟩
                obtain ⟨Q2, hQ2⟩ : ∃ Q2, Q2 = addL Q ⟨i, (b4 : Int), md⟩ := ⟨_, rfl⟩
                rw [← hE2, ← hQ2] at HADD
                have HE2 := Lib.hid hE2
                have HQ2 := Lib.hid hQ2
                have HIS := Lib.hid his
                have c3 := HW7.out.c3
                clear e9 hE2 hQ2 his
                go_wp2_with fail
                refine HADD.out.mono ?_
                rintro e w10 ⟨C5, n5, k5, rfl, ho5, hb5⟩
                have HO5 := Lib.hid ho5
                have HB5 := Lib.hid hb5
                have HW10 := Lib.hid (HW7.out.below hb5)
                have HB10 := Lib.hid (HB7.out.trans (hb5.mono HB7.out.size))
                clear ho5 hb5 c2 c3 k0
                by_cases f0 : E2 = 0
                · have fb : (E2 == 0) = true := by simpa using f0
                  have HWT3 := Lib.hid (show Wt T L Q2 ∧ SQ Q2 by
                    have h0 : addE Q ⟨i, (b4 : Int), md⟩ = 0 := by rw [← HE2.out]; exact f0
                    rw [HQ2.out]
                    unfold addL
                    rw [if_pos h0]
                    refine ⟨HWT.out.add (by rw [HW.out.hn]; exact hin) HIS.out HBB.out HMD.out (HNEW.out i rfl) ?_, sq_snoc HSQ.out HMAY.out h0⟩
                    unfold addE at h0
                    by_cases h1 : hasL Q (i : Int) = true
                    · rw [if_pos h1] at h0; cases h0
                    · rw [if_neg h1] at h0
                      by_cases h2 : 64 ≤ Q.length
                      · rw [if_pos h2] at h0; cases h0
                      · omega)
                  clear f0
                  go_wp2_with (first
                    | (refine wpList_store_queue rfl (.tmp 15) (.tmp 82) rfl rfl rfl (Bk.new w10 #[.slice none 0 0] _) ?_; intro w11 hu hg2; have k0 := hu.c 0 _ rfl; have HU11 := Lib.hid hu; have HG11 := Lib.hid hg2; have HWB11 := Lib.hid ((HW10.out.b.below (below_new w10 (.cells #[.slice none 0 0] 28))).far hg2 (fun e => by injection e with e; have := HW10.out.b.lt; omega)); clear hu hg2)
                    | (refine wpList_store_wq rfl (.tmp 89) (.tmp 87) rfl rfl rfl HWB11.out ?_; intro w12 hb8 hg8; have HWB12 := Lib.hid hb8; have HG12 := Lib.hid hg8; clear hb8 hg8)
                    | fail)
                  have t11 : Below w10.heap.size w10 w11 := (below_new w10 _).grown HG11.out (by simp) (fun k e => by injection e with e; omega)
                  go_end0
                  obtain ⟨C8, k8, e8, h81, h82, h83⟩ := Rk.Own.form rw_ok HO5.out
                  injection e8 with e9 e10 e11
                  subst e9; subst e11
                  exact ⟨rfl, ((Turn.ofBelow (S := fun q => q = p) HB10.out).trans (Turn.ofBelow t11)).trans (turn_p HG12.out), ⟨A, n, k, c, T, B, m, kb, L, C5, n5, k5, Q2, ⟨HWB12.out, tx_wc (HW10.out.x.below t11) HWB11.out HG12.out, HW.out.hn, HW.out.hc, lk_wc (HW10.out.l.below t11) HWB11.out HG12.out, HW.out.hm, HW.out.hk, HW.out.s, rw_wc (Rk.At.below h82 t11) HWB11.out HG12.out, e10.symm, by rw [e10]; exact h81, h83.imp id (fun ⟨g, e, _⟩ => ⟨g, 0, e⟩)⟩, HWT3.out.1, HWT3.out.2, hn24, by omega⟩⟩
                · have fb : (E2 == 0) = false := by simpa using f0
                  clear f0
                  go_wp2_with (first
                    | (refine wpList_store_queue rfl (.tmp 15) (.tmp 82) rfl rfl rfl (Bk.new w10 #[.slice none 0 0] _) ?_; intro w11 hu hg2; have HG11 := Lib.hid hg2; clear hu hg2)
                    | fail)
                  have t11 : Below w10.heap.size w10 w11 := (below_new w10 _).grown HG11.out (by simp) (fun k e => by injection e with e; omega)
                  go_end0
                  exact ⟨rfl, (Turn.ofBelow (S := fun q => q = p) HB10.out).trans (Turn.ofBelow t11), ⟨A, n, k, c, T, B, m, kb, L, C, nq, kq, Q, HW10.out.below t11, HWT.out, HSQ.out, hn24, by omega⟩⟩
              · have eb9 : (E == 9) = false := by simpa using e9
                clear e9
                go_wp2_with fail
                go_end0
                exact ⟨rfl, Turn.ofBelow HB7.out, ⟨A, n, k, c, T, B, m, kb, L, C, nq, kq, Q, HW7.out, HWT.out, HSQ.out, hn24, by omega⟩⟩
      · go_wp2_with fail
        refine HWA.out.mono ?_
        rintro e w2 ⟨rfl, hw2⟩
        replace hw2 := hw2.symm
        subst hw2
        go_wp2_with fail
        refine bodyPost_ret (results_none rfl _ _ _) rfl ?_
        exact ⟨rfl, Turn.ofBelow HB1.out, HSAME.out⟩
end Go.Proofs.YtbokhhialfbjcaaGreat
