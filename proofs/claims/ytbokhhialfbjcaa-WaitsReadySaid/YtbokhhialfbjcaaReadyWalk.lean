/-
  WaitsReady: what is ready may be asked; the first want of a block that nobody is against is ready.
-/
import Derived.Test.YtbokhhialfbjcaaGr11
import Derived.Laws.StructEq
namespace Go.Proofs.Ytbokhhialfbjcaa
set_option maxRecDepth 100000
set_option linter.unusedVariables false
set_option linter.unusedSimpArgs false
open Go.RowKit Go.Shelf Go.Sort

theorem run_eq_int (d : Nat) (x y : Int) (w : World) : (Op.equalIn (d + 1) 3 (.int .i64 x) (.int .i64 y)).run Try.prog w = .ok (x == y) w := by
  simp [Op.equalIn, run_underlying Try.underlying3]
theorem run_part_wn (p s b : Int) (w : World) : (part 3 #[.int .i64 p, .int .i64 s, .int .i64 b] 0).run Try.prog w = .ok (.int .i64 p) w ∧ (part 3 #[.int .i64 p, .int .i64 s, .int .i64 b] 1).run Try.prog w = .ok (.int .i64 s) w ∧
    (part 3 #[.int .i64 p, .int .i64 s, .int .i64 b] 2).run Try.prog w = .ok (.int .i64 b) w := by
  have hagg : (isAgg 3).run Try.prog w = .ok false w := by
    unfold isAgg
    rw [Sem.run_bind, run_underlying Try.underlying3 w]
    rfl
  refine ⟨?_, ?_, ?_⟩ <;> simp [part, Sem.run_bind, hagg]
theorem run_wn_in (p s b p' s' b' : Int) (w : World) : (Op.equalIn 10000 39 (.agg #[.int .i64 p, .int .i64 s, .int .i64 b]) (.agg #[.int .i64 p', .int .i64 s', .int .i64 b'])).run Try.prog w = .ok (p == p' && (s == s' && b == b')) w := by
  have hf : Try.prog.underlying 39 = some (.struct (Try.prog.fieldsOf 39)) := by kernel_rfl
  obtain ⟨h0, h1, h2⟩ := run_part_wn p s b w
  obtain ⟨k0, k1, k2⟩ := run_part_wn p' s' b' w
  have he : ∀ x y : Int, (Op.equalIn 9999 3 (.int .i64 x) (.int .i64 y)).run Try.prog w = .ok (x == y) w := fun x y => run_eq_int 9998 x y w
  rw [run_equalIn_agg w 9999 _ _ _ hf (by kernel_rfl)]
  simp only [Program.fieldsOf, Try.underlying39]
  have hn : ∀ s : String, (s = "Tx" ∨ s = "Block" ∨ s = "Mode") → s ≠ "_" := by
    intro s hs e
    subst e
    rcases hs with hs | hs | hs <;> exact absurd hs (by decide)
  simp only [Op.eqFields]
  rw [if_pos (hn _ (.inl rfl)), if_pos (hn _ (.inr (.inl rfl))), if_pos (hn _ (.inr (.inr rfl)))]
  clear hn hf
  cases e0 : (p == p') <;> cases e1 : (s == s') <;> cases e2 : (b == b') <;> simp [Sem.run_bind, h0, h1, h2, k0, k1, k2, Result.andThen_ok, he, e0, e1, e2]
theorem run_wn_eql (p s b p' s' b' : Int) (w : World) : (binOp .eql 39 (.agg #[.int .i64 p, .int .i64 s, .int .i64 b]) (.agg #[.int .i64 p', .int .i64 s', .int .i64 b'])).run Try.prog w = .ok (.bool (p == p' && (s == s' && b == b'))) w := by
  rw [run_eql_struct, run_wn_in]
  rfl
theorem run_wn_guard (op : BinOp) (x y : Operand) (s t : Array Value) (w : World) : (eqGuard op 39 x y (.agg s) (.agg t)).run Try.prog w = .ok () w :=
  run_eqGuard_agg (P := Try.prog) w _ _ _ _ _ _ (by kernel_rfl)

set_option maxHeartbeats 4000000 in
theorem ready_walk (a : Option Addr) (len cap : Nat) (F G P R : Nat → Int) (w : World) (hacts : Acts w a len F G P R) :
    Calls Try.prog 3 #[.slice a len cap] w fun e w' => e = .returned (.bool true) ∧ Below w.heap.size w w' := by
  have HACT := Lib.hid hacts
  clear hacts
  go_enter Try.func3, Try.ntmps3
  go_wp2_with fail
  refine (awake_any w).mono ?_
  rintro e w1 ⟨rfl, hb1⟩
  have HB1 := Lib.hid hb1
  have HAC1 := Lib.hid (acts_below HACT.out hb1)
  clear hb1
  rcases Nat.lt_or_ge 100 len with hbig | hlen
  · have hgt : decide (100 < len) = true := decide_eq_true hbig
    have hgt2 : decide ((100 : Int) < (len : Int)) = true := decide_eq_true (by omega)
    go_wp2_with fail
    go_ret
    exact ⟨rfl, HB1.out⟩
  have hgt : decide (100 < len) = false := decide_eq_false (by omega)
  have hgt2 : decide ((100 : Int) < (len : Int)) = false := decide_eq_false (by omega)
  go_wp2_with fail
  refine (grown_any a len cap F G P R (by omega) w1 HAC1.out).mono ?_
  rintro e w2 ⟨p, rfl, hp, hb2, A, n, k, c, T, B, m, kb, L, C, nq, kq, Q, hw, hwt, hsq, hn24, hcb⟩
  have HB2 := Lib.hid (HB1.out.trans (hb2.mono HB1.out.size))
  have HW := Lib.hid hw
  have HWT := Lib.hid hwt
  have HSQ := Lib.hid hsq
  have hnq : nq ≤ 64 := by rw [← hw.hq]; exact hsq.n
  obtain ⟨RD, hrd⟩ : ∃ RD, RD = rdyL T L Q := ⟨_, rfl⟩
  obtain ⟨nr, hnr⟩ : ∃ nr, nr = RD.length := ⟨_, rfl⟩
  have HRD := Lib.hid hrd
  have HNR := Lib.hid hnr
  have hnr64 : nr ≤ 64 := by
    rw [hnr, hrd]
    unfold rdyL rdyN
    rw [List.length_map]
    have h1 := List.length_filter_le (fun i => (outN T L Q i).isEmpty) (List.range Q.length)
    rw [List.length_range] at h1
    have h2 := hw.hq
    omega
  have HRY := Lib.hid (show ∀ V, Since w2 V → Calls Try.prog 8 #[.agg #[.slice C nq kq], .agg #[.slice B m kb], .agg #[.slice A n k, .int .i64 c]] V fun e w' => ∃ R8 k8, e = .returned (.slice R8 nr k8) ∧ RW.At w' R8 RD ∧ Below V.heap.size V w' from fun V hV => by
    refine (ready_any C Q nq kq B L m kb A T n k c HSQ.out HW.out.hq HWT.out.apt.tab HW.out.hm HW.out.hk HWT.out.apt.good HW.out.hn V (HW.out.below hV).q (HW.out.below hV).l (HW.out.below hV).x).mono ?_
    rintro e w' ⟨v, rfl, ho, hb⟩
    obtain ⟨R8, k8, rfl, h1, h2, h3⟩ := Rk.Own.form rw_ok ho
    exact ⟨R8, k8, by rw [HNR.out, HRD.out], by rw [HRD.out]; exact h2, hb⟩)
  clear hw hwt hsq hb2 hp hnr hrd HACT HAC1 HB1 hgt hgt2
  have s0 : ∀ V, Since w2 V → V.cell? ⟨p, 0, none⟩ = some (.slice A n k) := fun V hV => (HW.out.below hV).c0
  have s1 : ∀ V, Since w2 V → V.cell? ⟨p, 1, none⟩ = some (.int .i64 c) := fun V hV => (HW.out.below hV).c1
  have s2 : ∀ V, Since w2 V → V.cell? ⟨p, 2, none⟩ = some (.slice B m kb) := fun V hV => (HW.out.below hV).c2
  have s3 : ∀ V, Since w2 V → V.cell? ⟨p, 3, none⟩ = some (.slice C nq kq) := fun V hV => (HW.out.below hV).c3
  go_upto_region 5 with fail
  refine wp_region_since (by kernel_rfl) ?_
  have hS : Since w2 (World.drew w2) := (Below.refl _ _).drew
  refine wpAnyH_take (i := 0) (oi := ⟨some 21, _, _, _, _, _⟩) (v := ?_) rfl (by kernel_rfl) (by kernel_rfl) (by kernel_rfl) (fun _ _ _ h => h) (Or.inl ⟨by rfl, ?_⟩) hS ?_
  rotate_left
  · intro W hW; go_simp; with_reducible rfl
  try simp only [Act.put, List.setIfInBounds_toArray, List.set_cons_zero, List.set_cons_succ]
  refine wpAnyH_take (i := 1) (oi := ⟨some 22, _, _, _, _, _⟩) (v := ?_) rfl (by kernel_rfl) (by kernel_rfl) (by kernel_rfl) (fun _ _ _ h => h) (Or.inl ⟨by rfl, ?_⟩) hS ?_
  rotate_left
  · intro W hW; go_simp; with_reducible rfl
  try simp only [Act.put, List.setIfInBounds_toArray, List.set_cons_zero, List.set_cons_succ]
  refine wpAnyH_take (i := 2) (oi := ⟨some 23, _, _, _, _, _⟩) (v := ?_) rfl (by kernel_rfl) (by kernel_rfl) (by kernel_rfl) (fun _ _ _ h => h) (Or.inl ⟨by rfl, ?_⟩) hS ?_
  rotate_left
  · intro W hW; go_simp; with_reducible rfl
  try simp only [Act.put, List.setIfInBounds_toArray, List.set_cons_zero, List.set_cons_succ]
  refine wpAnyH_take (i := 3) (oi := ⟨some 24, _, _, _, _, _⟩) (v := ?_) rfl (by kernel_rfl) (by kernel_rfl) (by kernel_rfl) (fun _ _ _ h => h) (Or.inl ⟨by rfl, ?_⟩) hS ?_
  rotate_left
  · intro W hW; go_simp; with_reducible rfl
  try simp only [Act.put, List.setIfInBounds_toArray, List.set_cons_zero, List.set_cons_succ]
  refine wpAnyH_take (i := 4) (oi := ⟨some 25, _, _, _, _, _⟩) (v := ?_) rfl (by kernel_rfl) (by kernel_rfl) (by kernel_rfl) (fun _ _ _ h => h) (Or.inl ⟨by rfl, ?_⟩) hS ?_
  rotate_left
  · intro W hW; go_simp; with_reducible rfl
  try simp only [Act.put, List.setIfInBounds_toArray, List.set_cons_zero, List.set_cons_succ]
  refine wpAnyH_take (i := 5) (oi := ⟨some 26, _, _, _, _, _⟩) (v := ?_) rfl (by kernel_rfl) (by kernel_rfl) (by kernel_rfl) (fun _ _ _ h => h) (Or.inl ⟨by rfl, ?_⟩) hS ?_
  rotate_left
  · intro W hW; go_simp; with_reducible rfl
  try simp only [Act.put, List.setIfInBounds_toArray, List.set_cons_zero, List.set_cons_succ]
  refine wpAnyH_take (i := 6) (oi := ⟨some 27, _, _, _, _, _⟩) (v := ?_) rfl (by kernel_rfl) (by kernel_rfl) (by kernel_rfl) (fun _ _ _ h => h) (Or.inl ⟨by rfl, ?_⟩) hS ?_
  rotate_left
  · intro W hW; go_simp; with_reducible rfl
  try simp only [Act.put, List.setIfInBounds_toArray, List.set_cons_zero, List.set_cons_succ]
  refine wpAnyH_take (i := 7) (oi := ⟨some 28, _, _, _, _, _⟩) (v := ?_) rfl (by kernel_rfl) (by kernel_rfl) (by kernel_rfl) (fun _ _ _ h => h) (Or.inl ⟨by rfl, ?_⟩) hS ?_
  rotate_left
  · intro W hW; go_simp; with_reducible rfl
  try simp only [Act.put, List.setIfInBounds_toArray, List.set_cons_zero, List.set_cons_succ]
  refine wpAnyH_take (i := 8) (oi := ⟨some 29, _, _, _, _, _⟩) (v := ?_) rfl (by kernel_rfl) (by kernel_rfl) (by kernel_rfl) (fun _ _ _ h => h) (Or.inl ⟨by rfl, ?_⟩) hS ?_
  rotate_left
  · intro W hW; go_simp; with_reducible rfl
  try simp only [Act.put, List.setIfInBounds_toArray, List.set_cons_zero, List.set_cons_succ]
  refine wpAnyH_take (i := 9) (oi := ⟨some 30, _, _, _, _, _⟩) (v := ?_) rfl (by kernel_rfl) (by kernel_rfl) (by kernel_rfl) (fun _ _ _ h => h) (Or.inl ⟨by rfl, ?_⟩) hS ?_
  rotate_left
  · intro W hW; go_simp; with_reducible rfl
  try simp only [Act.put, List.setIfInBounds_toArray, List.set_cons_zero, List.set_cons_succ]
  refine wpAnyH_take (i := 10) (oi := ⟨some 31, _, _, _, _, _⟩) (v := ?_) rfl (by kernel_rfl) (by kernel_rfl) (by kernel_rfl) (fun _ _ _ h => h) (Or.inl ⟨by rfl, ?_⟩) hS ?_
  rotate_left
  · intro W hW; go_simp; with_reducible rfl
  try simp only [Act.put, List.setIfInBounds_toArray, List.set_cons_zero, List.set_cons_succ]
  refine wpAnyH_take (i := 11) (oi := ⟨some 32, _, _, _, _, _⟩) (v := ?_) rfl (by kernel_rfl) (by kernel_rfl) (by kernel_rfl) (fun _ _ _ h => h) (Or.inl ⟨by rfl, ?_⟩) hS ?_
  rotate_left
  · intro W hW; go_simp; with_reducible rfl
  try simp only [Act.put, List.setIfInBounds_toArray, List.set_cons_zero, List.set_cons_succ]
  refine wpAnyH_ready (rs := [12]) (by kernel_rfl) (by simp) ?_
  refine AllReadyH.cons (o := ⟨some 33, _, _, _, _, _⟩) rfl (fun Kr hKr => ?_) AllReadyH.nil
  -- operation 12: a call
  go_simp
  refine (HRY.out _ hS).mono ?_
  rintro e w3 ⟨R8, k8, rfl, hr8, hb3⟩
  show Kr _ _
  refine hKr.out _ _ ?_ (fun _ => ?_)
  · exact since_trans hS hb3
  clear hKr Kr
  replace hS : Since w2 w3 := since_trans hS hb3
  try simp only [Act.put, List.setIfInBounds_toArray, List.set_cons_zero, List.set_cons_succ]
  refine wpAnyH_take (i := 13) (oi := ⟨some 5, _, _, _, _, _⟩) (v := ?_) rfl (by kernel_rfl) (by kernel_rfl) (by kernel_rfl) (fun _ _ _ h => h) (Or.inl ⟨by rfl, ?_⟩) hS ?_
  rotate_left
  · intro W hW; go_simp; with_reducible rfl
  try simp only [Act.put, List.setIfInBounds_toArray, List.set_cons_zero, List.set_cons_succ]
  refine wpAnyH_done (by kernel_rfl) ?_ _
  have HS3 := Lib.hid hS
  have HR8 := Lib.hid hr8
  have HW3 := Lib.hid (HW.out.below hS)
  have HB3 := Lib.hid (HB2.out.trans (Below.mono hS HB2.out.size))
  have q0 : ∀ V, Since w3 V → V.cell? ⟨p, 0, none⟩ = some (.slice A n k) := fun V hV => (HW3.out.below hV).c0
  have q1 : ∀ V, Since w3 V → V.cell? ⟨p, 1, none⟩ = some (.int .i64 c) := fun V hV => (HW3.out.below hV).c1
  have q2 : ∀ V, Since w3 V → V.cell? ⟨p, 2, none⟩ = some (.slice B m kb) := fun V hV => (HW3.out.below hV).c2
  have q3 : ∀ V, Since w3 V → V.cell? ⟨p, 3, none⟩ = some (.slice C nq kq) := fun V hV => (HW3.out.below hV).c3
  clear hS hr8 hb3 s0 s1 s2 s3 HRY
  go_wp2_with fail
  go_loopw [6, 7] (fun kv iv wr => ∃ i kk : Nat, iv = .int .i64 (i : Int) ∧ kv = .int .i64 (kk : Int) ∧ i ≤ nq ∧ kk ≤ nr ∧ Hid (kk = (rdyN T L Q i).length) ∧ Hid (Since w3 wr)) (fun _ iv _ => nq - (intOf iv).toNat)
  case atStart => exact ⟨0, 0, rfl, rfl, Nat.zero_le _, Nat.zero_le _, rfl, Below.refl _ _⟩
  case round =>
    obtain ⟨i, kk, rfl, rfl, hi, hkk, HKK, HS⟩ := hrel
    have c3 := q3 _ HS.out
    rcases Nat.lt_or_ge i nq with hlt | hge
    · have hiq : i < Q.length := by rw [HW.out.hq]; exact hlt
      obtain ⟨y, hy⟩ : ∃ y, Q.getD i Q0 = y := ⟨_, rfl⟩
      have hy? : Q[i]? = some y := by rw [← hy, List.getD_eq_getElem?_getD, List.getElem?_eq_getElem hiq]; rfl
      obtain ⟨b, o, hC, hbl, hc⟩ := (HW3.out.below HS.out).q.get rw_ok hy?
      have z0 : wr.cell? ⟨b, o + i * 3, none⟩ = some (.int .i64 (y.x : Int)) := hc 0 _ rfl
      have z1 : wr.cell? ⟨b, o + i * 3 + 1, none⟩ = some (.int .i64 y.b) := hc 1 _ rfl
      have z2 : wr.cell? ⟨b, o + i * 3 + 2, none⟩ = some (.int .i64 y.m) := hc 2 _ rfl
      obtain ⟨u, hu⟩ : ∃ u : Int, u = (y.x : Int) := ⟨_, rfl⟩
      obtain ⟨ub, hub⟩ : ∃ u : Int, u = y.b := ⟨_, rfl⟩
      obtain ⟨um, hum⟩ : ∃ u : Int, u = y.m := ⟨_, rfl⟩
      rw [← hu] at z0
      rw [← hub] at z1
      rw [← hum] at z2
      have HU := Lib.hid hu
      have HUB := Lib.hid hub
      have HUM := Lib.hid hum
      have HY := Lib.hid hy
      have HIQ := Lib.hid hiq
      have HMAY := Lib.hid (HWT.out.may y (by rw [← hy]; exact getD_mem hiq))
      subst hC
      obtain ⟨w4, hw4⟩ : ∃ w4, w4 = wr.alloc (.cells #[.int .i64 u, .int .i64 ub, .int .i64 um] 39) := ⟨_, rfl⟩
      obtain ⟨g, hg⟩ : ∃ g, g = wr.heap.size := ⟨_, rfl⟩
      have HZ := Lib.hid (show Bk w4 g #[.int .i64 u, .int .i64 ub, .int .i64 um] 39 by rw [hw4, hg]; exact Bk.new wr _ _)
      have HS4 := Lib.hid (show Since w3 w4 from since_trans HS.out (by rw [hw4]; exact below_new _ _))
      clear hu hub hum hy hy? hc hbl hiq
      go_upto_region 11 with fail
      rw [← hw4, ← hg]
      clear z0 z1 z2 c3 hw4 hg
      have y0 : ∀ V, Since w4 V → V.cell? ⟨g, 0, none⟩ = some (.int .i64 u) := fun V hV => (HZ.out.below hV).c 0 _ rfl
      have y1 : ∀ V, Since w4 V → V.cell? ⟨g, 1, none⟩ = some (.int .i64 ub) := fun V hV => (HZ.out.below hV).c 1 _ rfl
      have y2 : ∀ V, Since w4 V → V.cell? ⟨g, 2, none⟩ = some (.int .i64 um) := fun V hV => (HZ.out.below hV).c 2 _ rfl
      have heq := run_wn_eql
      have hgu := run_wn_guard
      rcases Classical.em (outN T L Q i = []) with hout | hout
      · -- it is ready
        obtain ⟨hr1, hr2⟩ := rdy_yes HIQ.out hout
        rw [← HKK.out, ← HRD.out, HY.out] at hr1
        rw [← HKK.out, ← HRD.out, ← HNR.out] at hr2
        obtain ⟨b8, o8, hR8, _, hc8⟩ := HR8.out.get rw_ok hr1
        have x0 : ∀ V, Since w4 V → V.cell? ⟨b8, o8 + kk * 3, none⟩ = some (.int .i64 u) := fun V hV => by
          have h := (HR8.out.below (since_trans HS4.out hV)).get rw_ok hr1
          obtain ⟨b9, o9, e9, _, h9⟩ := h
          rw [hR8] at e9
          injection e9 with e9
          injection e9 with e9 e10
          subst e9; subst e10
          rw [HU.out]; exact h9 0 _ rfl
        have x1 : ∀ V, Since w4 V → V.cell? ⟨b8, o8 + kk * 3 + 1, none⟩ = some (.int .i64 ub) := fun V hV => by
          have h := (HR8.out.below (since_trans HS4.out hV)).get rw_ok hr1
          obtain ⟨b9, o9, e9, _, h9⟩ := h
          rw [hR8] at e9
          injection e9 with e9
          injection e9 with e9 e10
          subst e9; subst e10
          rw [HUB.out]; exact h9 1 _ rfl
        have x2 : ∀ V, Since w4 V → V.cell? ⟨b8, o8 + kk * 3 + 2, none⟩ = some (.int .i64 um) := fun V hV => by
          have h := (HR8.out.below (since_trans HS4.out hV)).get rw_ok hr1
          obtain ⟨b9, o9, e9, _, h9⟩ := h
          rw [hR8] at e9
          injection e9 with e9
          injection e9 with e9 e10
          subst e9; subst e10
          rw [HUM.out]; exact h9 2 _ rfl
        have HASK := Lib.hid (HWT.out.ready HIQ.out hout)
        have HK1 := Lib.hid (show kk + 1 = (rdyN T L Q (i + 1)).length by rw [rdyN_succ, if_pos hout, List.length_append, ← HKK.out]; rfl)
        rw [HY.out, ← HU.out, ← HUB.out, ← HUM.out] at HASK
        subst hR8
        clear hout hr1 hc8
        have hd1 : decide ((kk : Int) < (nr : Int)) = true := decide_eq_true (by omega)
        have hd2 : decide (kk < nr) = true := decide_eq_true hr2
        have heq2 : ∀ V, (binOp .eql 39 (.agg #[.int .i64 u, .int .i64 ub, .int .i64 um]) (.agg #[.int .i64 u, .int .i64 ub, .int .i64 um])).run Try.prog V = .ok (.bool true) V := fun V => by rw [heq]; simp
        clear heq
        refine wp_region_since (by kernel_rfl) ?_
        have hS : Since w4 (World.drew w4) := (Below.refl _ _).drew
        refine wpAnyH_take (i := 0) (oi := ⟨some 52, _, _, _, _, _⟩) (v := ?_) rfl (by kernel_rfl) (by kernel_rfl) (by kernel_rfl) (fun _ _ _ h => h) (Or.inl ⟨by rfl, ?_⟩) hS ?_
        rotate_left
        · intro W hW; go_simp; with_reducible rfl
        try simp only [Act.put, List.setIfInBounds_toArray, List.set_cons_zero, List.set_cons_succ]
        refine wpAnyH_take (i := 1) (oi := ⟨some 53, _, _, _, _, _⟩) (v := ?_) rfl (by kernel_rfl) (by kernel_rfl) (by kernel_rfl) (fun _ _ _ h => h) (Or.inl ⟨by rfl, ?_⟩) hS ?_
        rotate_left
        · intro W hW; go_simp; with_reducible rfl
        try simp only [Act.put, List.setIfInBounds_toArray, List.set_cons_zero, List.set_cons_succ]
        refine wpAnyH_take (i := 2) (oi := ⟨some 54, _, _, _, _, _⟩) (v := ?_) rfl (by kernel_rfl) (by kernel_rfl) (by kernel_rfl) (fun _ _ _ h => h) (Or.inl ⟨by rfl, ?_⟩) hS ?_
        rotate_left
        · intro W hW; go_simp; with_reducible rfl
        try simp only [Act.put, List.setIfInBounds_toArray, List.set_cons_zero, List.set_cons_succ]
        refine wpAnyH_take (i := 3) (oi := ⟨some 55, _, _, _, _, _⟩) (v := ?_) rfl (by kernel_rfl) (by kernel_rfl) (by kernel_rfl) (fun _ _ _ h => h) (Or.inl ⟨by rfl, ?_⟩) hS ?_
        rotate_left
        · intro W hW; go_simp; with_reducible rfl
        try simp only [Act.put, List.setIfInBounds_toArray, List.set_cons_zero, List.set_cons_succ]
        refine wpAnyH_take (i := 4) (oi := ⟨some 56, _, _, _, _, _⟩) (v := ?_) rfl (by kernel_rfl) (by kernel_rfl) (by kernel_rfl) (fun _ _ _ h => h) (Or.inl ⟨by rfl, ?_⟩) hS ?_
        rotate_left
        · intro W hW; go_simp; with_reducible rfl
        try simp only [Act.put, List.setIfInBounds_toArray, List.set_cons_zero, List.set_cons_succ]
        refine wpAnyH_take (i := 5) (oi := ⟨some 57, _, _, _, _, _⟩) (v := ?_) rfl (by kernel_rfl) (by kernel_rfl) (by kernel_rfl) (fun _ _ _ h => h) (Or.inl ⟨by rfl, ?_⟩) hS ?_
        rotate_left
        · intro W hW; go_simp; with_reducible rfl
        try simp only [Act.put, List.setIfInBounds_toArray, List.set_cons_zero, List.set_cons_succ]
        refine wpAnyH_take (i := 6) (oi := ⟨some 58, _, _, _, _, _⟩) (v := ?_) rfl (by kernel_rfl) (by kernel_rfl) (by kernel_rfl) (fun _ _ _ h => h) (Or.inl ⟨by rfl, ?_⟩) hS ?_
        rotate_left
        · intro W hW; go_simp; with_reducible rfl
        try simp only [Act.put, List.setIfInBounds_toArray, List.set_cons_zero, List.set_cons_succ]
        refine wpAnyH_take (i := 7) (oi := ⟨some 59, _, _, _, _, _⟩) (v := ?_) rfl (by kernel_rfl) (by kernel_rfl) (by kernel_rfl) (fun _ _ _ h => h) (Or.inl ⟨by rfl, ?_⟩) hS ?_
        rotate_left
        · intro W hW; go_simp; with_reducible rfl
        try simp only [Act.put, List.setIfInBounds_toArray, List.set_cons_zero, List.set_cons_succ]
        refine wpAnyH_take (i := 8) (oi := ⟨some 60, _, _, _, _, _⟩) (v := ?_) rfl (by kernel_rfl) (by kernel_rfl) (by kernel_rfl) (fun _ _ _ h => h) (Or.inl ⟨by rfl, ?_⟩) hS ?_
        rotate_left
        · intro W hW; go_simp; with_reducible rfl
        try simp only [Act.put, List.setIfInBounds_toArray, List.set_cons_zero, List.set_cons_succ]
        refine wpAnyH_take (i := 9) (oi := ⟨some 61, _, _, _, _, _⟩) (v := ?_) rfl (by kernel_rfl) (by kernel_rfl) (by kernel_rfl) (fun _ _ _ h => h) (Or.inl ⟨by rfl, ?_⟩) hS ?_
        rotate_left
        · intro W hW; go_simp; with_reducible rfl
        try simp only [Act.put, List.setIfInBounds_toArray, List.set_cons_zero, List.set_cons_succ]
        refine wpAnyH_take (i := 10) (oi := ⟨some 62, _, _, _, _, _⟩) (v := ?_) rfl (by kernel_rfl) (by kernel_rfl) (by kernel_rfl) (fun _ _ _ h => h) (Or.inl ⟨by rfl, ?_⟩) hS ?_
        rotate_left
        · intro W hW; go_simp; with_reducible rfl
        try simp only [Act.put, List.setIfInBounds_toArray, List.set_cons_zero, List.set_cons_succ]
        refine wpAnyH_take (i := 11) (oi := ⟨some 63, _, _, _, _, _⟩) (v := ?_) rfl (by kernel_rfl) (by kernel_rfl) (by kernel_rfl) (fun _ _ _ h => h) (Or.inl ⟨by rfl, ?_⟩) hS ?_
        rotate_left
        · intro W hW; go_simp; with_reducible rfl
        try simp only [Act.put, List.setIfInBounds_toArray, List.set_cons_zero, List.set_cons_succ]
        refine wpAnyH_take (i := 12) (oi := ⟨some 9, _, _, _, _, _⟩) (v := ?_) rfl (by kernel_rfl) (by kernel_rfl) (by kernel_rfl) (fun _ _ _ h => h) (Or.inl ⟨by rfl, ?_⟩) hS ?_
        rotate_left
        · intro W hW; go_simp; with_reducible rfl
        try simp only [Act.put, List.setIfInBounds_toArray, List.set_cons_zero, List.set_cons_succ]
        refine wpAnyH_done (by kernel_rfl) ?_ _
        have HS5 := Lib.hid (since_trans HS4.out hS)
        obtain ⟨w5, hw5⟩ : ∃ w5, w5 = World.drew w4 := ⟨_, rfl⟩
        rw [← hw5] at hS HS5 ⊢
        have HSX := Lib.hid hS
        clear hw5 hS x0 x1 x2 heq2 hgu hd1 hd2
        have HAK : Hid (∀ V, Since w5 V → Calls Try.prog 9 #[.agg #[.slice B m kb], .agg #[.slice A n k, .int .i64 c], .int .i64 u, .int .i64 ub, .int .i64 um] V fun e w' => ∃ A' n' k', e = .returned (.tuple #[.agg #[.slice A' n' k'], .int .i64 0]) ∧ Below V.heap.size V w') := fun V hV => by
          have hv := HW3.out.below (since_trans HS5.out hV)
          refine (ask_any B L m kb HW.out.hm HW.out.hk HW.out.s HWT.out.apt.tab A T n k c HW.out.hn HWT.out.apt.good u ub um (by rw [HUB.out]; exact HMAY.out.1) (by rw [HUM.out]; exact HMAY.out.2) V hv.l hv.x).mono ?_
          rintro e w' ⟨A', n', k', rfl, _, hb⟩
          exact ⟨A', n', k', by rw [HASK.out], hb⟩
        have p0 : ∀ V, Since w5 V → V.cell? ⟨p, 0, none⟩ = some (.slice A n k) := fun V hV => q0 V (since_trans HS5.out hV)
        have p1 : ∀ V, Since w5 V → V.cell? ⟨p, 1, none⟩ = some (.int .i64 c) := fun V hV => q1 V (since_trans HS5.out hV)
        have p2 : ∀ V, Since w5 V → V.cell? ⟨p, 2, none⟩ = some (.slice B m kb) := fun V hV => q2 V (since_trans HS5.out hV)
        have t0 : ∀ V, Since w5 V → V.cell? ⟨g, 0, none⟩ = some (.int .i64 u) := fun V hV => y0 V (since_trans HSX.out hV)
        have t1 : ∀ V, Since w5 V → V.cell? ⟨g, 1, none⟩ = some (.int .i64 ub) := fun V hV => y1 V (since_trans HSX.out hV)
        have t2 : ∀ V, Since w5 V → V.cell? ⟨g, 2, none⟩ = some (.int .i64 um) := fun V hV => y2 V (since_trans HSX.out hV)
        clear y0 y1 y2 q0 q1 q2 q3
        go_upto_region 14 with fail
        go_cut [10, 11] from 34 to 126 (fun pv ev wc => (∃ h : Nat, pv = .pointer (some ⟨h, 0, none⟩)) ∧ ev = .int .i64 0 ∧ Hid (Since w5 wc))
        case first =>
          refine wp_region_since (by kernel_rfl) ?_
          have hS : Since w5 (World.drew w5) := (Below.refl _ _).drew
          refine wpAnyH_take (i := 0) (oi := ⟨some 68, _, _, _, _, _⟩) (v := ?_) rfl (by kernel_rfl) (by kernel_rfl) (by kernel_rfl) (fun _ _ _ h => h) (Or.inl ⟨by rfl, ?_⟩) hS ?_
          rotate_left
          · intro W hW; go_simp; with_reducible rfl
          try simp only [Act.put, List.setIfInBounds_toArray, List.set_cons_zero, List.set_cons_succ]
          refine wpAnyH_take (i := 1) (oi := ⟨some 69, _, _, _, _, _⟩) (v := ?_) rfl (by kernel_rfl) (by kernel_rfl) (by kernel_rfl) (fun _ _ _ h => h) (Or.inl ⟨by rfl, ?_⟩) hS ?_
          rotate_left
          · intro W hW; go_simp; with_reducible rfl
          try simp only [Act.put, List.setIfInBounds_toArray, List.set_cons_zero, List.set_cons_succ]
          refine wpAnyH_take (i := 2) (oi := ⟨some 70, _, _, _, _, _⟩) (v := ?_) rfl (by kernel_rfl) (by kernel_rfl) (by kernel_rfl) (fun _ _ _ h => h) (Or.inl ⟨by rfl, ?_⟩) hS ?_
          rotate_left
          · intro W hW; go_simp; with_reducible rfl
          try simp only [Act.put, List.setIfInBounds_toArray, List.set_cons_zero, List.set_cons_succ]
          refine wpAnyH_take (i := 3) (oi := ⟨some 71, _, _, _, _, _⟩) (v := ?_) rfl (by kernel_rfl) (by kernel_rfl) (by kernel_rfl) (fun _ _ _ h => h) (Or.inl ⟨by rfl, ?_⟩) hS ?_
          rotate_left
          · intro W hW; go_simp; with_reducible rfl
          try simp only [Act.put, List.setIfInBounds_toArray, List.set_cons_zero, List.set_cons_succ]
          refine wpAnyH_take (i := 4) (oi := ⟨some 72, _, _, _, _, _⟩) (v := ?_) rfl (by kernel_rfl) (by kernel_rfl) (by kernel_rfl) (fun _ _ _ h => h) (Or.inl ⟨by rfl, ?_⟩) hS ?_
          rotate_left
          · intro W hW; go_simp; with_reducible rfl
          try simp only [Act.put, List.setIfInBounds_toArray, List.set_cons_zero, List.set_cons_succ]
          refine wpAnyH_take (i := 5) (oi := ⟨some 73, _, _, _, _, _⟩) (v := ?_) rfl (by kernel_rfl) (by kernel_rfl) (by kernel_rfl) (fun _ _ _ h => h) (Or.inl ⟨by rfl, ?_⟩) hS ?_
          rotate_left
          · intro W hW; go_simp; with_reducible rfl
          try simp only [Act.put, List.setIfInBounds_toArray, List.set_cons_zero, List.set_cons_succ]
          refine wpAnyH_take (i := 6) (oi := ⟨some 74, _, _, _, _, _⟩) (v := ?_) rfl (by kernel_rfl) (by kernel_rfl) (by kernel_rfl) (fun _ _ _ h => h) (Or.inl ⟨by rfl, ?_⟩) hS ?_
          rotate_left
          · intro W hW; go_simp; with_reducible rfl
          try simp only [Act.put, List.setIfInBounds_toArray, List.set_cons_zero, List.set_cons_succ]
          refine wpAnyH_take (i := 7) (oi := ⟨some 75, _, _, _, _, _⟩) (v := ?_) rfl (by kernel_rfl) (by kernel_rfl) (by kernel_rfl) (fun _ _ _ h => h) (Or.inl ⟨by rfl, ?_⟩) hS ?_
          rotate_left
          · intro W hW; go_simp; with_reducible rfl
          try simp only [Act.put, List.setIfInBounds_toArray, List.set_cons_zero, List.set_cons_succ]
          refine wpAnyH_take (i := 8) (oi := ⟨some 76, _, _, _, _, _⟩) (v := ?_) rfl (by kernel_rfl) (by kernel_rfl) (by kernel_rfl) (fun _ _ _ h => h) (Or.inl ⟨by rfl, ?_⟩) hS ?_
          rotate_left
          · intro W hW; go_simp; with_reducible rfl
          try simp only [Act.put, List.setIfInBounds_toArray, List.set_cons_zero, List.set_cons_succ]
          refine wpAnyH_take (i := 9) (oi := ⟨some 77, _, _, _, _, _⟩) (v := ?_) rfl (by kernel_rfl) (by kernel_rfl) (by kernel_rfl) (fun _ _ _ h => h) (Or.inl ⟨by rfl, ?_⟩) hS ?_
          rotate_left
          · intro W hW; go_simp; with_reducible rfl
          try simp only [Act.put, List.setIfInBounds_toArray, List.set_cons_zero, List.set_cons_succ]
          refine wpAnyH_take (i := 10) (oi := ⟨some 78, _, _, _, _, _⟩) (v := ?_) rfl (by kernel_rfl) (by kernel_rfl) (by kernel_rfl) (fun _ _ _ h => h) (Or.inl ⟨by rfl, ?_⟩) hS ?_
          rotate_left
          · intro W hW; go_simp; with_reducible rfl
          try simp only [Act.put, List.setIfInBounds_toArray, List.set_cons_zero, List.set_cons_succ]
          refine wpAnyH_take (i := 11) (oi := ⟨some 79, _, _, _, _, _⟩) (v := ?_) rfl (by kernel_rfl) (by kernel_rfl) (by kernel_rfl) (fun _ _ _ h => h) (Or.inl ⟨by rfl, ?_⟩) hS ?_
          rotate_left
          · intro W hW; go_simp; with_reducible rfl
          try simp only [Act.put, List.setIfInBounds_toArray, List.set_cons_zero, List.set_cons_succ]
          refine wpAnyH_take (i := 12) (oi := ⟨some 80, _, _, _, _, _⟩) (v := ?_) rfl (by kernel_rfl) (by kernel_rfl) (by kernel_rfl) (fun _ _ _ h => h) (Or.inl ⟨by rfl, ?_⟩) hS ?_
          rotate_left
          · intro W hW; go_simp; with_reducible rfl
          try simp only [Act.put, List.setIfInBounds_toArray, List.set_cons_zero, List.set_cons_succ]
          refine wpAnyH_take (i := 13) (oi := ⟨some 81, _, _, _, _, _⟩) (v := ?_) rfl (by kernel_rfl) (by kernel_rfl) (by kernel_rfl) (fun _ _ _ h => h) (Or.inl ⟨by rfl, ?_⟩) hS ?_
          rotate_left
          · intro W hW; go_simp; with_reducible rfl
          try simp only [Act.put, List.setIfInBounds_toArray, List.set_cons_zero, List.set_cons_succ]
          refine wpAnyH_ready (rs := [14, 18]) (by kernel_rfl) (by simp) ?_
          refine AllReadyH.cons (o := ⟨some 82, _, _, _, _, _⟩) rfl (fun Kr hKr => ?_) (AllReadyH.cons (o := ⟨some 10, _, _, _, _, _⟩) rfl (fun Kr hKr => ?_) AllReadyH.nil)
          · skip
            -- operation 14: a call
            go_simp
            refine (HAK.out _ hS).mono ?_
            rintro e w6 ⟨B6, m6, kb6, rfl, hb6⟩
            show Kr _ _
            refine hKr.out _ _ ?_ (fun _ => ?_)
            · exact since_trans hS hb6
            clear hKr Kr
            replace hS : Since w5 w6 := since_trans hS hb6
            try simp only [Act.put, List.setIfInBounds_toArray, List.set_cons_zero, List.set_cons_succ]
            refine wpAnyH_take (i := 15) (oi := ⟨some 67, _, _, _, _, _⟩) (v := ?_) rfl (by kernel_rfl) (by kernel_rfl) (by kernel_rfl) (fun _ _ _ h => h) (Or.inl ⟨by rfl, ?_⟩) hS ?_
            rotate_left
            · intro W hW; go_simp; with_reducible rfl
            try simp only [Act.put, List.setIfInBounds_toArray, List.set_cons_zero, List.set_cons_succ]
            refine wpAnyH_take (i := 16) (oi := ⟨some 83, _, _, _, _, _⟩) (v := ?_) rfl (by kernel_rfl) (by kernel_rfl) (by kernel_rfl) (fun _ _ _ h => h) (Or.inl ⟨by rfl, ?_⟩) hS ?_
            rotate_left
            · intro W hW; go_simp; with_reducible rfl
            try simp only [Act.put, List.setIfInBounds_toArray, List.set_cons_zero, List.set_cons_succ]
            refine wpAnyH_take (i := 17) (oi := ⟨some 84, _, _, _, _, _⟩) (v := ?_) rfl (by kernel_rfl) (by kernel_rfl) (by kernel_rfl) (fun _ _ _ h => h) (Or.inl ⟨by rfl, ?_⟩) hS ?_
            rotate_left
            · intro W hW; go_simp; with_reducible rfl
            try simp only [Act.put, List.setIfInBounds_toArray, List.set_cons_zero, List.set_cons_succ]
            refine wpAnyH_ready (rs := [18]) (by kernel_rfl) (by simp) ?_
            refine AllReadyH.cons (o := ⟨some 10, _, _, _, _, _⟩) rfl (fun Kr hKr => ?_) AllReadyH.nil
            -- operation 18: a step
            refine wp_alloc_table rfl ?_
            intro w20 g20 hg20 hk20 hb20
            have hG20 : w5.heap.size ≤ g20 := Nat.le_trans (Below.size hS) hg20
            show Kr _ _
            refine hKr.out _ _ ?_ (fun _ => ?_)
            · exact since_trans hS hb20
            clear hKr Kr
            replace hS : Since w5 w20 := since_trans hS hb20
            try simp only [Act.put, List.setIfInBounds_toArray, List.set_cons_zero, List.set_cons_succ]
            refine wpAnyH_ready (rs := [19]) (by kernel_rfl) (by simp) ?_
            refine AllReadyH.cons (o := ⟨none, _, _, _, _, _⟩) rfl (fun Kr hKr => ?_) AllReadyH.nil
            -- operation 19: a step
            refine wp_store_table (.tmp 10) (.tmp 83) rfl rfl rfl (by first | exact hk20 | exact KB.below hk20 hb6) ?_
            intro w7 hk7 hg7
            show Kr _ _
            refine hKr.out _ _ ?_ (fun _ => ?_)
            · exact Below.grown hS hg7 hS.size (fun q e => by injection e with e; omega)
            clear hKr Kr
            replace hS : Since w5 w7 := Below.grown hS hg7 hS.size (fun q e => by injection e with e; omega)
            try simp only [Act.put, List.setIfInBounds_toArray, List.set_cons_zero, List.set_cons_succ]
            refine wpAnyH_take (i := 20) (oi := ⟨some 11, _, _, _, _, _⟩) (v := ?_) rfl (by kernel_rfl) (by kernel_rfl) (by kernel_rfl) (fun _ _ _ h => h) (Or.inl ⟨by rfl, ?_⟩) hS ?_
            rotate_left
            · intro W hW; go_simp; with_reducible rfl
            try simp only [Act.put, List.setIfInBounds_toArray, List.set_cons_zero, List.set_cons_succ]
            refine wpAnyH_done (by kernel_rfl) ?_ _
            go_wp2_with fail
            go_meet
            case rel => exact ⟨⟨g20, rfl⟩, rfl, hS⟩
          · skip
            -- operation 18: a step
            refine wp_alloc_table rfl ?_
            intro w20 g20 hg20 hk20 hb20
            have hG20 : w5.heap.size ≤ g20 := Nat.le_trans (Below.size hS) hg20
            show Kr _ _
            refine hKr.out _ _ ?_ (fun _ => ?_)
            · exact since_trans hS hb20
            clear hKr Kr
            replace hS : Since w5 w20 := since_trans hS hb20
            try simp only [Act.put, List.setIfInBounds_toArray, List.set_cons_zero, List.set_cons_succ]
            refine wpAnyH_ready (rs := [14]) (by kernel_rfl) (by simp) ?_
            refine AllReadyH.cons (o := ⟨some 82, _, _, _, _, _⟩) rfl (fun Kr hKr => ?_) AllReadyH.nil
            -- operation 14: a call
            go_simp
            refine (HAK.out _ hS).mono ?_
            rintro e w6 ⟨B6, m6, kb6, rfl, hb6⟩
            show Kr _ _
            refine hKr.out _ _ ?_ (fun _ => ?_)
            · exact since_trans hS hb6
            clear hKr Kr
            replace hS : Since w5 w6 := since_trans hS hb6
            try simp only [Act.put, List.setIfInBounds_toArray, List.set_cons_zero, List.set_cons_succ]
            refine wpAnyH_take (i := 15) (oi := ⟨some 67, _, _, _, _, _⟩) (v := ?_) rfl (by kernel_rfl) (by kernel_rfl) (by kernel_rfl) (fun _ _ _ h => h) (Or.inl ⟨by rfl, ?_⟩) hS ?_
            rotate_left
            · intro W hW; go_simp; with_reducible rfl
            try simp only [Act.put, List.setIfInBounds_toArray, List.set_cons_zero, List.set_cons_succ]
            refine wpAnyH_take (i := 16) (oi := ⟨some 83, _, _, _, _, _⟩) (v := ?_) rfl (by kernel_rfl) (by kernel_rfl) (by kernel_rfl) (fun _ _ _ h => h) (Or.inl ⟨by rfl, ?_⟩) hS ?_
            rotate_left
            · intro W hW; go_simp; with_reducible rfl
            try simp only [Act.put, List.setIfInBounds_toArray, List.set_cons_zero, List.set_cons_succ]
            refine wpAnyH_take (i := 17) (oi := ⟨some 84, _, _, _, _, _⟩) (v := ?_) rfl (by kernel_rfl) (by kernel_rfl) (by kernel_rfl) (fun _ _ _ h => h) (Or.inl ⟨by rfl, ?_⟩) hS ?_
            rotate_left
            · intro W hW; go_simp; with_reducible rfl
            try simp only [Act.put, List.setIfInBounds_toArray, List.set_cons_zero, List.set_cons_succ]
            refine wpAnyH_ready (rs := [19]) (by kernel_rfl) (by simp) ?_
            refine AllReadyH.cons (o := ⟨none, _, _, _, _, _⟩) rfl (fun Kr hKr => ?_) AllReadyH.nil
            -- operation 19: a step
            refine wp_store_table (.tmp 10) (.tmp 83) rfl rfl rfl (by first | exact hk20 | exact KB.below hk20 hb6) ?_
            intro w7 hk7 hg7
            show Kr _ _
            refine hKr.out _ _ ?_ (fun _ => ?_)
            · exact Below.grown hS hg7 hS.size (fun q e => by injection e with e; omega)
            clear hKr Kr
            replace hS : Since w5 w7 := Below.grown hS hg7 hS.size (fun q e => by injection e with e; omega)
            try simp only [Act.put, List.setIfInBounds_toArray, List.set_cons_zero, List.set_cons_succ]
            refine wpAnyH_take (i := 20) (oi := ⟨some 11, _, _, _, _, _⟩) (v := ?_) rfl (by kernel_rfl) (by kernel_rfl) (by kernel_rfl) (fun _ _ _ h => h) (Or.inl ⟨by rfl, ?_⟩) hS ?_
            rotate_left
            · intro W hW; go_simp; with_reducible rfl
            try simp only [Act.put, List.setIfInBounds_toArray, List.set_cons_zero, List.set_cons_succ]
            refine wpAnyH_done (by kernel_rfl) ?_ _
            go_wp2_with fail
            go_meet
            case rel => exact ⟨⟨g20, rfl⟩, rfl, hS⟩
        obtain ⟨⟨h7, rfl⟩, rfl, HSC⟩ := hcut
        obtain ⟨w7, hw7⟩ : ∃ w7, w7 = wc := ⟨_, rfl⟩
        subst hw7
        have HS7 := Lib.hid (since_trans HS5.out HSC.out)
        clear p0 p1 p2 t0 t1 t2
        go_wp2_with fail
        go_roundw
        case rel => exact ⟨i + 1, kk + 1, by simp, by simp, by omega, by omega, HK1.out, HS7.out⟩
        case measure => simp [intOf]; omega
      · -- it is not
        have HNO := Lib.hid (show rdyN T L Q (i + 1) = rdyN T L Q i by rw [rdyN_succ, if_neg hout])
        have HFI := Lib.hid (show (∀ j, j < i → (Q.getD j Q0).b ≠ ub) → 0 < (agL T u ub um L).length from fun h => by
          refine List.length_pos_iff.2 fun h0 => hout (HWT.out.first HIQ.out (fun j hj => ?_) ?_)
          · rw [HY.out, ← HUB.out]; exact h j hj
          · rw [HY.out, ← HU.out, ← HUB.out, ← HUM.out]; exact h0)
        have HX := Lib.hid (show ∀ z : Wn, RD[kk]? = some z → (z.x : Int) ≠ u from fun z hz e => by
          rw [HRD.out, HKK.out] at hz
          have h := rdy_no HWT.out.one HIQ.out hout hz
          rw [HY.out] at h
          rw [HU.out] at e
          omega)
        clear hout
        go_cut [9] from 34 to 126 (fun v wc => v = .bool false ∧ Hid (Since w4 wc))
        case first =>
          rcases Nat.lt_or_ge kk nr with hr2 | hr2
          · obtain ⟨z, hz⟩ : ∃ z, RD[kk]? = some z := ⟨RD[kk]'(by rw [← HNR.out]; exact hr2), List.getElem?_eq_getElem _⟩
            obtain ⟨b8, o8, hR8, _, hc8⟩ := HR8.out.get rw_ok hz
            have HXZ := HX.out z hz
            obtain ⟨v0, hv0⟩ : ∃ v : Int, v = (z.x : Int) := ⟨_, rfl⟩
            obtain ⟨v1, hv1⟩ : ∃ v : Int, v = z.b := ⟨_, rfl⟩
            obtain ⟨v2, hv2⟩ : ∃ v : Int, v = z.m := ⟨_, rfl⟩
            rw [← hv0] at HXZ
            have xx : ∀ V, Since w4 V → V.cell? ⟨b8, o8 + kk * 3, none⟩ = some (.int .i64 v0) ∧ V.cell? ⟨b8, o8 + kk * 3 + 1, none⟩ = some (.int .i64 v1) ∧ V.cell? ⟨b8, o8 + kk * 3 + 2, none⟩ = some (.int .i64 v2) := fun V hV => by
              obtain ⟨b9, o9, e9, _, h9⟩ := (HR8.out.below (since_trans HS4.out hV)).get rw_ok hz
              rw [hR8] at e9
              injection e9 with e9
              injection e9 with e9 e10
              subst e9; subst e10
              rw [hv0, hv1, hv2]; exact ⟨h9 0 _ rfl, h9 1 _ rfl, h9 2 _ rfl⟩
            have x0 := fun V hV => (xx V hV).1
            have x1 := fun V hV => (xx V hV).2.1
            have x2 := fun V hV => (xx V hV).2.2
            subst hR8
            have hnb : (v0 == u) = false := by simpa using HXZ
            have heq2 : ∀ V, (binOp .eql 39 (.agg #[.int .i64 v0, .int .i64 v1, .int .i64 v2]) (.agg #[.int .i64 u, .int .i64 ub, .int .i64 um])).run Try.prog V = .ok (.bool false) V := fun V => by rw [heq, hnb]; rfl
            clear heq xx hv0 hv1 hv2 hc8 HXZ hnb hz
            have hd1 : decide ((kk : Int) < (nr : Int)) = true := decide_eq_true (by omega)
            have hd2 : decide (kk < nr) = true := decide_eq_true hr2
            refine wp_region_since (by kernel_rfl) ?_
            have hS : Since w4 (World.drew w4) := (Below.refl _ _).drew
            refine wpAnyH_take (i := 0) (oi := ⟨some 52, _, _, _, _, _⟩) (v := ?_) rfl (by kernel_rfl) (by kernel_rfl) (by kernel_rfl) (fun _ _ _ h => h) (Or.inl ⟨by rfl, ?_⟩) hS ?_
            rotate_left
            · intro W hW; go_simp; with_reducible rfl
            try simp only [Act.put, List.setIfInBounds_toArray, List.set_cons_zero, List.set_cons_succ]
            refine wpAnyH_take (i := 1) (oi := ⟨some 53, _, _, _, _, _⟩) (v := ?_) rfl (by kernel_rfl) (by kernel_rfl) (by kernel_rfl) (fun _ _ _ h => h) (Or.inl ⟨by rfl, ?_⟩) hS ?_
            rotate_left
            · intro W hW; go_simp; with_reducible rfl
            try simp only [Act.put, List.setIfInBounds_toArray, List.set_cons_zero, List.set_cons_succ]
            refine wpAnyH_take (i := 2) (oi := ⟨some 54, _, _, _, _, _⟩) (v := ?_) rfl (by kernel_rfl) (by kernel_rfl) (by kernel_rfl) (fun _ _ _ h => h) (Or.inl ⟨by rfl, ?_⟩) hS ?_
            rotate_left
            · intro W hW; go_simp; with_reducible rfl
            try simp only [Act.put, List.setIfInBounds_toArray, List.set_cons_zero, List.set_cons_succ]
            refine wpAnyH_take (i := 3) (oi := ⟨some 55, _, _, _, _, _⟩) (v := ?_) rfl (by kernel_rfl) (by kernel_rfl) (by kernel_rfl) (fun _ _ _ h => h) (Or.inl ⟨by rfl, ?_⟩) hS ?_
            rotate_left
            · intro W hW; go_simp; with_reducible rfl
            try simp only [Act.put, List.setIfInBounds_toArray, List.set_cons_zero, List.set_cons_succ]
            refine wpAnyH_take (i := 4) (oi := ⟨some 56, _, _, _, _, _⟩) (v := ?_) rfl (by kernel_rfl) (by kernel_rfl) (by kernel_rfl) (fun _ _ _ h => h) (Or.inl ⟨by rfl, ?_⟩) hS ?_
            rotate_left
            · intro W hW; go_simp; with_reducible rfl
            try simp only [Act.put, List.setIfInBounds_toArray, List.set_cons_zero, List.set_cons_succ]
            refine wpAnyH_take (i := 5) (oi := ⟨some 57, _, _, _, _, _⟩) (v := ?_) rfl (by kernel_rfl) (by kernel_rfl) (by kernel_rfl) (fun _ _ _ h => h) (Or.inl ⟨by rfl, ?_⟩) hS ?_
            rotate_left
            · intro W hW; go_simp; with_reducible rfl
            try simp only [Act.put, List.setIfInBounds_toArray, List.set_cons_zero, List.set_cons_succ]
            refine wpAnyH_take (i := 6) (oi := ⟨some 58, _, _, _, _, _⟩) (v := ?_) rfl (by kernel_rfl) (by kernel_rfl) (by kernel_rfl) (fun _ _ _ h => h) (Or.inl ⟨by rfl, ?_⟩) hS ?_
            rotate_left
            · intro W hW; go_simp; with_reducible rfl
            try simp only [Act.put, List.setIfInBounds_toArray, List.set_cons_zero, List.set_cons_succ]
            refine wpAnyH_take (i := 7) (oi := ⟨some 59, _, _, _, _, _⟩) (v := ?_) rfl (by kernel_rfl) (by kernel_rfl) (by kernel_rfl) (fun _ _ _ h => h) (Or.inl ⟨by rfl, ?_⟩) hS ?_
            rotate_left
            · intro W hW; go_simp; with_reducible rfl
            try simp only [Act.put, List.setIfInBounds_toArray, List.set_cons_zero, List.set_cons_succ]
            refine wpAnyH_take (i := 8) (oi := ⟨some 60, _, _, _, _, _⟩) (v := ?_) rfl (by kernel_rfl) (by kernel_rfl) (by kernel_rfl) (fun _ _ _ h => h) (Or.inl ⟨by rfl, ?_⟩) hS ?_
            rotate_left
            · intro W hW; go_simp; with_reducible rfl
            try simp only [Act.put, List.setIfInBounds_toArray, List.set_cons_zero, List.set_cons_succ]
            refine wpAnyH_take (i := 9) (oi := ⟨some 61, _, _, _, _, _⟩) (v := ?_) rfl (by kernel_rfl) (by kernel_rfl) (by kernel_rfl) (fun _ _ _ h => h) (Or.inl ⟨by rfl, ?_⟩) hS ?_
            rotate_left
            · intro W hW; go_simp; with_reducible rfl
            try simp only [Act.put, List.setIfInBounds_toArray, List.set_cons_zero, List.set_cons_succ]
            refine wpAnyH_take (i := 10) (oi := ⟨some 62, _, _, _, _, _⟩) (v := ?_) rfl (by kernel_rfl) (by kernel_rfl) (by kernel_rfl) (fun _ _ _ h => h) (Or.inl ⟨by rfl, ?_⟩) hS ?_
            rotate_left
            · intro W hW; go_simp; with_reducible rfl
            try simp only [Act.put, List.setIfInBounds_toArray, List.set_cons_zero, List.set_cons_succ]
            refine wpAnyH_take (i := 11) (oi := ⟨some 63, _, _, _, _, _⟩) (v := ?_) rfl (by kernel_rfl) (by kernel_rfl) (by kernel_rfl) (fun _ _ _ h => h) (Or.inl ⟨by rfl, ?_⟩) hS ?_
            rotate_left
            · intro W hW; go_simp; with_reducible rfl
            try simp only [Act.put, List.setIfInBounds_toArray, List.set_cons_zero, List.set_cons_succ]
            refine wpAnyH_take (i := 12) (oi := ⟨some 9, _, _, _, _, _⟩) (v := ?_) rfl (by kernel_rfl) (by kernel_rfl) (by kernel_rfl) (fun _ _ _ h => h) (Or.inl ⟨by rfl, ?_⟩) hS ?_
            rotate_left
            · intro W hW; go_simp; with_reducible rfl
            try simp only [Act.put, List.setIfInBounds_toArray, List.set_cons_zero, List.set_cons_succ]
            refine wpAnyH_done (by kernel_rfl) ?_ _
            go_wp2_with fail
            go_meet
            case rel => exact ⟨rfl, hS⟩
          · have hd1 : decide ((kk : Int) < (nr : Int)) = false := decide_eq_false (by omega)
            have hd2 : decide (kk < nr) = false := decide_eq_false (by omega)
            refine wp_region_since (by kernel_rfl) ?_
            have hS : Since w4 (World.drew w4) := (Below.refl _ _).drew
            refine wpAnyH_take (i := 0) (oi := ⟨some 52, _, _, _, _, _⟩) (v := ?_) rfl (by kernel_rfl) (by kernel_rfl) (by kernel_rfl) (fun _ _ _ h => h) (Or.inl ⟨by rfl, ?_⟩) hS ?_
            rotate_left
            · intro W hW; go_simp; with_reducible rfl
            try simp only [Act.put, List.setIfInBounds_toArray, List.set_cons_zero, List.set_cons_succ]
            refine wpAnyH_take (i := 1) (oi := ⟨some 53, _, _, _, _, _⟩) (v := ?_) rfl (by kernel_rfl) (by kernel_rfl) (by kernel_rfl) (fun _ _ _ h => h) (Or.inl ⟨by rfl, ?_⟩) hS ?_
            rotate_left
            · intro W hW; go_simp; with_reducible rfl
            try simp only [Act.put, List.setIfInBounds_toArray, List.set_cons_zero, List.set_cons_succ]
            refine wpAnyH_take (i := 2) (oi := ⟨some 54, _, _, _, _, _⟩) (v := ?_) rfl (by kernel_rfl) (by kernel_rfl) (by kernel_rfl) (fun _ _ _ h => h) (Or.inl ⟨by rfl, ?_⟩) hS ?_
            rotate_left
            · intro W hW; go_simp; with_reducible rfl
            try simp only [Act.put, List.setIfInBounds_toArray, List.set_cons_zero, List.set_cons_succ]
            refine wpAnyH_take (i := 3) (oi := ⟨some 55, _, _, _, _, _⟩) (v := ?_) rfl (by kernel_rfl) (by kernel_rfl) (by kernel_rfl) (fun _ _ _ h => h) (Or.inl ⟨by rfl, ?_⟩) hS ?_
            rotate_left
            · intro W hW; go_simp; with_reducible rfl
            try simp only [Act.put, List.setIfInBounds_toArray, List.set_cons_zero, List.set_cons_succ]
            refine wpAnyH_take (i := 4) (oi := ⟨some 56, _, _, _, _, _⟩) (v := ?_) rfl (by kernel_rfl) (by kernel_rfl) (by kernel_rfl) (fun _ _ _ h => h) (Or.inl ⟨by rfl, ?_⟩) hS ?_
            rotate_left
            · intro W hW; go_simp; with_reducible rfl
            try simp only [Act.put, List.setIfInBounds_toArray, List.set_cons_zero, List.set_cons_succ]
            refine wpAnyH_take (i := 5) (oi := ⟨some 57, _, _, _, _, _⟩) (v := undef) rfl (by kernel_rfl) (by kernel_rfl) (by kernel_rfl) (fun _ _ _ h => h) (Or.inr ⟨by rfl, rfl⟩) hS ?_
            try simp only [Act.put, List.setIfInBounds_toArray, List.set_cons_zero, List.set_cons_succ]
            refine wpAnyH_take (i := 6) (oi := ⟨some 58, _, _, _, _, _⟩) (v := undef) rfl (by kernel_rfl) (by kernel_rfl) (by kernel_rfl) (fun _ _ _ h => h) (Or.inr ⟨by rfl, rfl⟩) hS ?_
            try simp only [Act.put, List.setIfInBounds_toArray, List.set_cons_zero, List.set_cons_succ]
            refine wpAnyH_take (i := 7) (oi := ⟨some 59, _, _, _, _, _⟩) (v := undef) rfl (by kernel_rfl) (by kernel_rfl) (by kernel_rfl) (fun _ _ _ h => h) (Or.inr ⟨by rfl, rfl⟩) hS ?_
            try simp only [Act.put, List.setIfInBounds_toArray, List.set_cons_zero, List.set_cons_succ]
            refine wpAnyH_take (i := 8) (oi := ⟨some 60, _, _, _, _, _⟩) (v := undef) rfl (by kernel_rfl) (by kernel_rfl) (by kernel_rfl) (fun _ _ _ h => h) (Or.inr ⟨by rfl, rfl⟩) hS ?_
            try simp only [Act.put, List.setIfInBounds_toArray, List.set_cons_zero, List.set_cons_succ]
            refine wpAnyH_take (i := 9) (oi := ⟨some 61, _, _, _, _, _⟩) (v := undef) rfl (by kernel_rfl) (by kernel_rfl) (by kernel_rfl) (fun _ _ _ h => h) (Or.inr ⟨by rfl, rfl⟩) hS ?_
            try simp only [Act.put, List.setIfInBounds_toArray, List.set_cons_zero, List.set_cons_succ]
            refine wpAnyH_take (i := 10) (oi := ⟨some 62, _, _, _, _, _⟩) (v := undef) rfl (by kernel_rfl) (by kernel_rfl) (by kernel_rfl) (fun _ _ _ h => h) (Or.inr ⟨by rfl, rfl⟩) hS ?_
            try simp only [Act.put, List.setIfInBounds_toArray, List.set_cons_zero, List.set_cons_succ]
            refine wpAnyH_take (i := 11) (oi := ⟨some 63, _, _, _, _, _⟩) (v := ?_) rfl (by kernel_rfl) (by kernel_rfl) (by kernel_rfl) (fun _ _ _ h => h) (Or.inl ⟨by rfl, ?_⟩) hS ?_
            rotate_left
            · intro W hW; go_simp; with_reducible rfl
            try simp only [Act.put, List.setIfInBounds_toArray, List.set_cons_zero, List.set_cons_succ]
            refine wpAnyH_take (i := 12) (oi := ⟨some 9, _, _, _, _, _⟩) (v := ?_) rfl (by kernel_rfl) (by kernel_rfl) (by kernel_rfl) (fun _ _ _ h => h) (Or.inl ⟨by rfl, ?_⟩) hS ?_
            rotate_left
            · intro W hW; go_simp; with_reducible rfl
            try simp only [Act.put, List.setIfInBounds_toArray, List.set_cons_zero, List.set_cons_succ]
            refine wpAnyH_done (by kernel_rfl) ?_ _
            go_wp2_with fail
            go_meet
            case rel => exact ⟨rfl, hS⟩
        obtain ⟨rfl, HSX⟩ := hcut
        obtain ⟨w5, hw5⟩ : ∃ w5, w5 = wc := ⟨_, rfl⟩
        subst hw5
        have HS5 := Lib.hid (since_trans HS4.out HSX.out)
        have p0 : ∀ V, Since w5 V → V.cell? ⟨p, 0, none⟩ = some (.slice A n k) := fun V hV => q0 V (since_trans HS5.out hV)
        have p1 : ∀ V, Since w5 V → V.cell? ⟨p, 1, none⟩ = some (.int .i64 c) := fun V hV => q1 V (since_trans HS5.out hV)
        have p2 : ∀ V, Since w5 V → V.cell? ⟨p, 2, none⟩ = some (.slice B m kb) := fun V hV => q2 V (since_trans HS5.out hV)
        have p3 : ∀ V, Since w5 V → V.cell? ⟨p, 3, none⟩ = some (.slice (some ⟨b, o, none⟩) nq kq) := fun V hV => q3 V (since_trans HS5.out hV)
        have t0 : ∀ V, Since w5 V → V.cell? ⟨g, 0, none⟩ = some (.int .i64 u) := fun V hV => y0 V (since_trans HSX.out hV)
        have t1 : ∀ V, Since w5 V → V.cell? ⟨g, 1, none⟩ = some (.int .i64 ub) := fun V hV => y1 V (since_trans HSX.out hV)
        have t2 : ∀ V, Since w5 V → V.cell? ⟨g, 2, none⟩ = some (.int .i64 um) := fun V hV => y2 V (since_trans HSX.out hV)
        clear y0 y1 y2 heq hgu
        go_wp2_with fail
        go_loopw [12, 13] (fun fv jv wr => ∃ (j : Nat) (f : Bool), jv = .int .i64 (j : Int) ∧ fv = .bool f ∧ j ≤ i ∧ Hid (f = true ↔ ∀ j', j' < j → (Q.getD j' Q0).b ≠ ub) ∧ Hid (Since w5 wr)) (fun _ jv _ => i - (intOf jv).toNat)
        case atStart => exact ⟨0, true, rfl, rfl, Nat.zero_le _, ⟨fun _ j' h => absurd h (Nat.not_lt_zero _), fun _ => rfl⟩, Below.refl _ _⟩
        case round =>
          obtain ⟨j, f, rfl, rfl, hj, HF, HS6⟩ := hrel
          obtain ⟨w6, hw6⟩ : ∃ w6, w6 = wr := ⟨_, rfl⟩
          subst hw6
          rcases Nat.lt_or_ge j i with hji | hji
          · have hjd : decide ((j : Int) < (i : Int)) = true := decide_eq_true (by omega)
            have hjd2 : decide (j < i) = true := decide_eq_true hji
            cases f
            · have HF2 := Lib.hid (show (false = true ↔ ∀ j', j' < j + 1 → (Q.getD j' Q0).b ≠ ub) from ⟨fun h => (by cases h), fun h => HF.out.2 fun j' h' => h j' (by omega)⟩)
              go_upto_region 21 with fail
              refine wp_region_since (by kernel_rfl) ?_
              have hS : Since w6 (World.drew w6) := (Below.refl _ _).drew
              refine wpAnyH_take (i := 0) (oi := ⟨some 92, _, _, _, _, _⟩) (v := ?_) rfl (by kernel_rfl) (by kernel_rfl) (by kernel_rfl) (fun _ _ _ h => h) (Or.inl ⟨by rfl, ?_⟩) hS ?_
              rotate_left
              · intro W hW; go_simp; with_reducible rfl
              try simp only [Act.put, List.setIfInBounds_toArray, List.set_cons_zero, List.set_cons_succ]
              refine wpAnyH_take (i := 1) (oi := ⟨some 93, _, _, _, _, _⟩) (v := ?_) rfl (by kernel_rfl) (by kernel_rfl) (by kernel_rfl) (fun _ _ _ h => h) (Or.inl ⟨by rfl, ?_⟩) hS ?_
              rotate_left
              · intro W hW; go_simp; with_reducible rfl
              try simp only [Act.put, List.setIfInBounds_toArray, List.set_cons_zero, List.set_cons_succ]
              refine wpAnyH_take (i := 2) (oi := ⟨some 94, _, _, _, _, _⟩) (v := undef) rfl (by kernel_rfl) (by kernel_rfl) (by kernel_rfl) (fun _ _ _ h => h) (Or.inr ⟨by rfl, rfl⟩) hS ?_
              try simp only [Act.put, List.setIfInBounds_toArray, List.set_cons_zero, List.set_cons_succ]
              refine wpAnyH_take (i := 3) (oi := ⟨some 95, _, _, _, _, _⟩) (v := undef) rfl (by kernel_rfl) (by kernel_rfl) (by kernel_rfl) (fun _ _ _ h => h) (Or.inr ⟨by rfl, rfl⟩) hS ?_
              try simp only [Act.put, List.setIfInBounds_toArray, List.set_cons_zero, List.set_cons_succ]
              refine wpAnyH_take (i := 4) (oi := ⟨some 96, _, _, _, _, _⟩) (v := undef) rfl (by kernel_rfl) (by kernel_rfl) (by kernel_rfl) (fun _ _ _ h => h) (Or.inr ⟨by rfl, rfl⟩) hS ?_
              try simp only [Act.put, List.setIfInBounds_toArray, List.set_cons_zero, List.set_cons_succ]
              refine wpAnyH_take (i := 5) (oi := ⟨some 97, _, _, _, _, _⟩) (v := undef) rfl (by kernel_rfl) (by kernel_rfl) (by kernel_rfl) (fun _ _ _ h => h) (Or.inr ⟨by rfl, rfl⟩) hS ?_
              try simp only [Act.put, List.setIfInBounds_toArray, List.set_cons_zero, List.set_cons_succ]
              refine wpAnyH_take (i := 6) (oi := ⟨some 98, _, _, _, _, _⟩) (v := undef) rfl (by kernel_rfl) (by kernel_rfl) (by kernel_rfl) (fun _ _ _ h => h) (Or.inr ⟨by rfl, rfl⟩) hS ?_
              try simp only [Act.put, List.setIfInBounds_toArray, List.set_cons_zero, List.set_cons_succ]
              refine wpAnyH_take (i := 7) (oi := ⟨some 99, _, _, _, _, _⟩) (v := undef) rfl (by kernel_rfl) (by kernel_rfl) (by kernel_rfl) (fun _ _ _ h => h) (Or.inr ⟨by rfl, rfl⟩) hS ?_
              try simp only [Act.put, List.setIfInBounds_toArray, List.set_cons_zero, List.set_cons_succ]
              refine wpAnyH_take (i := 8) (oi := ⟨some 100, _, _, _, _, _⟩) (v := undef) rfl (by kernel_rfl) (by kernel_rfl) (by kernel_rfl) (fun _ _ _ h => h) (Or.inr ⟨by rfl, rfl⟩) hS ?_
              try simp only [Act.put, List.setIfInBounds_toArray, List.set_cons_zero, List.set_cons_succ]
              refine wpAnyH_take (i := 9) (oi := ⟨some 101, _, _, _, _, _⟩) (v := undef) rfl (by kernel_rfl) (by kernel_rfl) (by kernel_rfl) (fun _ _ _ h => h) (Or.inr ⟨by rfl, rfl⟩) hS ?_
              try simp only [Act.put, List.setIfInBounds_toArray, List.set_cons_zero, List.set_cons_succ]
              refine wpAnyH_take (i := 10) (oi := ⟨some 102, _, _, _, _, _⟩) (v := undef) rfl (by kernel_rfl) (by kernel_rfl) (by kernel_rfl) (fun _ _ _ h => h) (Or.inr ⟨by rfl, rfl⟩) hS ?_
              try simp only [Act.put, List.setIfInBounds_toArray, List.set_cons_zero, List.set_cons_succ]
              refine wpAnyH_take (i := 11) (oi := ⟨some 103, _, _, _, _, _⟩) (v := undef) rfl (by kernel_rfl) (by kernel_rfl) (by kernel_rfl) (fun _ _ _ h => h) (Or.inr ⟨by rfl, rfl⟩) hS ?_
              try simp only [Act.put, List.setIfInBounds_toArray, List.set_cons_zero, List.set_cons_succ]
              refine wpAnyH_take (i := 12) (oi := ⟨some 104, _, _, _, _, _⟩) (v := undef) rfl (by kernel_rfl) (by kernel_rfl) (by kernel_rfl) (fun _ _ _ h => h) (Or.inr ⟨by rfl, rfl⟩) hS ?_
              try simp only [Act.put, List.setIfInBounds_toArray, List.set_cons_zero, List.set_cons_succ]
              refine wpAnyH_take (i := 13) (oi := ⟨some 105, _, _, _, _, _⟩) (v := undef) rfl (by kernel_rfl) (by kernel_rfl) (by kernel_rfl) (fun _ _ _ h => h) (Or.inr ⟨by rfl, rfl⟩) hS ?_
              try simp only [Act.put, List.setIfInBounds_toArray, List.set_cons_zero, List.set_cons_succ]
              refine wpAnyH_take (i := 14) (oi := ⟨some 106, _, _, _, _, _⟩) (v := ?_) rfl (by kernel_rfl) (by kernel_rfl) (by kernel_rfl) (fun _ _ _ h => h) (Or.inl ⟨by rfl, ?_⟩) hS ?_
              rotate_left
              · intro W hW; go_simp; with_reducible rfl
              try simp only [Act.put, List.setIfInBounds_toArray, List.set_cons_zero, List.set_cons_succ]
              refine wpAnyH_take (i := 15) (oi := ⟨some 12, _, _, _, _, _⟩) (v := ?_) rfl (by kernel_rfl) (by kernel_rfl) (by kernel_rfl) (fun _ _ _ h => h) (Or.inl ⟨by rfl, ?_⟩) hS ?_
              rotate_left
              · intro W hW; go_simp; with_reducible rfl
              try simp only [Act.put, List.setIfInBounds_toArray, List.set_cons_zero, List.set_cons_succ]
              refine wpAnyH_done (by kernel_rfl) ?_ _
              have HS7 := Lib.hid (since_trans HS6.out hS)
              clear hS
              go_wp2_with fail
              go_roundw
              case rel => exact ⟨j + 1, false, by simp, rfl, by omega, HF2.out, HS7.out⟩
              case measure => simp [intOf]; omega
            · have hjq : j < Q.length := by have := HIQ.out; omega
              obtain ⟨bj, hbj⟩ : ∃ v : Int, v = (Q.getD j Q0).b := ⟨_, rfl⟩
              have hj? : Q[j]? = some (Q.getD j Q0) := by rw [List.getD_eq_getElem?_getD, List.getElem?_eq_getElem hjq]; rfl
              have v1 : ∀ V, Since w6 V → V.cell? ⟨b, o + j * 3 + 1, none⟩ = some (.int .i64 bj) := fun V hV => by
                obtain ⟨b9, o9, e9, _, h9⟩ := ((HW3.out.below (since_trans HS5.out (since_trans HS6.out hV))).q).get rw_ok hj?
                injection e9 with e9
                injection e9 with e9 e10
                subst e9; subst e10
                rw [hbj]; exact h9 1 _ rfl
              have m3 : ∀ V, Since w6 V → V.cell? ⟨p, 3, none⟩ = some (.slice (some ⟨b, o, none⟩) nq kq) := fun V hV => p3 V (since_trans HS6.out hV)
              have n1 : ∀ V, Since w6 V → V.cell? ⟨g, 1, none⟩ = some (.int .i64 ub) := fun V hV => t1 V (since_trans HS6.out hV)
              obtain ⟨f2, hf2⟩ : ∃ f2 : Bool, f2 = (bj != ub) := ⟨_, rfl⟩
              have hf2' : (bj != ub) = f2 := hf2.symm
              have hf3 : (!bj == ub) = f2 := hf2.symm
              have HF2 := Lib.hid (show (f2 = true ↔ ∀ j', j' < j + 1 → (Q.getD j' Q0).b ≠ ub) by
                rw [hf2, hbj]
                constructor
                · intro h j' h'
                  rcases Nat.lt_or_ge j' j with h2 | h2
                  · exact HF.out.1 rfl j' h2
                  · obtain rfl : j' = j := by omega
                    simpa using h
                · intro h
                  have := h j (by omega)
                  simpa using this)
              clear hbj hj? hf2
              have hjn : j < nq := by omega
              go_upto_region 21 with fail
              refine wp_region_since (by kernel_rfl) ?_
              have hS : Since w6 (World.drew w6) := (Below.refl _ _).drew
              refine wpAnyH_take (i := 0) (oi := ⟨some 92, _, _, _, _, _⟩) (v := ?_) rfl (by kernel_rfl) (by kernel_rfl) (by kernel_rfl) (fun _ _ _ h => h) (Or.inl ⟨by rfl, ?_⟩) hS ?_
              rotate_left
              · intro W hW; go_simp; with_reducible rfl
              try simp only [Act.put, List.setIfInBounds_toArray, List.set_cons_zero, List.set_cons_succ]
              refine wpAnyH_take (i := 1) (oi := ⟨some 93, _, _, _, _, _⟩) (v := ?_) rfl (by kernel_rfl) (by kernel_rfl) (by kernel_rfl) (fun _ _ _ h => h) (Or.inl ⟨by rfl, ?_⟩) hS ?_
              rotate_left
              · intro W hW; go_simp; with_reducible rfl
              try simp only [Act.put, List.setIfInBounds_toArray, List.set_cons_zero, List.set_cons_succ]
              refine wpAnyH_take (i := 2) (oi := ⟨some 94, _, _, _, _, _⟩) (v := ?_) rfl (by kernel_rfl) (by kernel_rfl) (by kernel_rfl) (fun _ _ _ h => h) (Or.inl ⟨by rfl, ?_⟩) hS ?_
              rotate_left
              · intro W hW; go_simp; with_reducible rfl
              try simp only [Act.put, List.setIfInBounds_toArray, List.set_cons_zero, List.set_cons_succ]
              refine wpAnyH_take (i := 3) (oi := ⟨some 95, _, _, _, _, _⟩) (v := ?_) rfl (by kernel_rfl) (by kernel_rfl) (by kernel_rfl) (fun _ _ _ h => h) (Or.inl ⟨by rfl, ?_⟩) hS ?_
              rotate_left
              · intro W hW; go_simp; with_reducible rfl
              try simp only [Act.put, List.setIfInBounds_toArray, List.set_cons_zero, List.set_cons_succ]
              refine wpAnyH_take (i := 4) (oi := ⟨some 96, _, _, _, _, _⟩) (v := ?_) rfl (by kernel_rfl) (by kernel_rfl) (by kernel_rfl) (fun _ _ _ h => h) (Or.inl ⟨by rfl, ?_⟩) hS ?_
              rotate_left
              · intro W hW; go_simp; with_reducible rfl
              try simp only [Act.put, List.setIfInBounds_toArray, List.set_cons_zero, List.set_cons_succ]
              refine wpAnyH_take (i := 5) (oi := ⟨some 97, _, _, _, _, _⟩) (v := ?_) rfl (by kernel_rfl) (by kernel_rfl) (by kernel_rfl) (fun _ _ _ h => h) (Or.inl ⟨by rfl, ?_⟩) hS ?_
              rotate_left
              · intro W hW; go_simp; with_reducible rfl
              try simp only [Act.put, List.setIfInBounds_toArray, List.set_cons_zero, List.set_cons_succ]
              refine wpAnyH_take (i := 6) (oi := ⟨some 98, _, _, _, _, _⟩) (v := ?_) rfl (by kernel_rfl) (by kernel_rfl) (by kernel_rfl) (fun _ _ _ h => h) (Or.inl ⟨by rfl, ?_⟩) hS ?_
              rotate_left
              · intro W hW; go_simp; with_reducible rfl
              try simp only [Act.put, List.setIfInBounds_toArray, List.set_cons_zero, List.set_cons_succ]
              refine wpAnyH_take (i := 7) (oi := ⟨some 99, _, _, _, _, _⟩) (v := ?_) rfl (by kernel_rfl) (by kernel_rfl) (by kernel_rfl) (fun _ _ _ h => h) (Or.inl ⟨by rfl, ?_⟩) hS ?_
              rotate_left
              · intro W hW; go_simp; with_reducible rfl
              try simp only [Act.put, List.setIfInBounds_toArray, List.set_cons_zero, List.set_cons_succ]
              refine wpAnyH_take (i := 8) (oi := ⟨some 100, _, _, _, _, _⟩) (v := ?_) rfl (by kernel_rfl) (by kernel_rfl) (by kernel_rfl) (fun _ _ _ h => h) (Or.inl ⟨by rfl, ?_⟩) hS ?_
              rotate_left
              · intro W hW; go_simp; with_reducible rfl
              try simp only [Act.put, List.setIfInBounds_toArray, List.set_cons_zero, List.set_cons_succ]
              refine wpAnyH_take (i := 9) (oi := ⟨some 101, _, _, _, _, _⟩) (v := ?_) rfl (by kernel_rfl) (by kernel_rfl) (by kernel_rfl) (fun _ _ _ h => h) (Or.inl ⟨by rfl, ?_⟩) hS ?_
              rotate_left
              · intro W hW; go_simp; with_reducible rfl
              try simp only [Act.put, List.setIfInBounds_toArray, List.set_cons_zero, List.set_cons_succ]
              refine wpAnyH_take (i := 10) (oi := ⟨some 102, _, _, _, _, _⟩) (v := ?_) rfl (by kernel_rfl) (by kernel_rfl) (by kernel_rfl) (fun _ _ _ h => h) (Or.inl ⟨by rfl, ?_⟩) hS ?_
              rotate_left
              · intro W hW; go_simp; with_reducible rfl
              try simp only [Act.put, List.setIfInBounds_toArray, List.set_cons_zero, List.set_cons_succ]
              refine wpAnyH_take (i := 11) (oi := ⟨some 103, _, _, _, _, _⟩) (v := ?_) rfl (by kernel_rfl) (by kernel_rfl) (by kernel_rfl) (fun _ _ _ h => h) (Or.inl ⟨by rfl, ?_⟩) hS ?_
              rotate_left
              · intro W hW; go_simp; with_reducible rfl
              try simp only [Act.put, List.setIfInBounds_toArray, List.set_cons_zero, List.set_cons_succ]
              refine wpAnyH_take (i := 12) (oi := ⟨some 104, _, _, _, _, _⟩) (v := ?_) rfl (by kernel_rfl) (by kernel_rfl) (by kernel_rfl) (fun _ _ _ h => h) (Or.inl ⟨by rfl, ?_⟩) hS ?_
              rotate_left
              · intro W hW; go_simp; with_reducible rfl
              try simp only [Act.put, List.setIfInBounds_toArray, List.set_cons_zero, List.set_cons_succ]
              refine wpAnyH_take (i := 13) (oi := ⟨some 105, _, _, _, _, _⟩) (v := ?_) rfl (by kernel_rfl) (by kernel_rfl) (by kernel_rfl) (fun _ _ _ h => h) (Or.inl ⟨by rfl, ?_⟩) hS ?_
              rotate_left
              · intro W hW; go_simp; with_reducible rfl
              try simp only [Act.put, List.setIfInBounds_toArray, List.set_cons_zero, List.set_cons_succ]
              refine wpAnyH_take (i := 14) (oi := ⟨some 106, _, _, _, _, _⟩) (v := ?_) rfl (by kernel_rfl) (by kernel_rfl) (by kernel_rfl) (fun _ _ _ h => h) (Or.inl ⟨by rfl, ?_⟩) hS ?_
              rotate_left
              · intro W hW; go_simp; with_reducible rfl
              try simp only [Act.put, List.setIfInBounds_toArray, List.set_cons_zero, List.set_cons_succ]
              refine wpAnyH_take (i := 15) (oi := ⟨some 12, _, _, _, _, _⟩) (v := ?_) rfl (by kernel_rfl) (by kernel_rfl) (by kernel_rfl) (fun _ _ _ h => h) (Or.inl ⟨by rfl, ?_⟩) hS ?_
              rotate_left
              · intro W hW; go_simp; with_reducible rfl
              try simp only [Act.put, List.setIfInBounds_toArray, List.set_cons_zero, List.set_cons_succ]
              refine wpAnyH_done (by kernel_rfl) ?_ _
              have HS7 := Lib.hid (since_trans HS6.out hS)
              clear hS v1 m3 n1 hf2' hf3
              go_wp2_with fail
              go_roundw
              case rel => exact ⟨j + 1, f2, by simp, rfl, by omega, HF2.out, HS7.out⟩
              case measure => simp [intOf]; omega
          · obtain rfl : j = i := by omega
            have hjd : decide ((j : Int) < (j : Int)) = false := decide_eq_false (by omega)
            cases f
            · go_upto_region 22 with fail
              refine wp_region_since (by kernel_rfl) ?_
              have hS : Since w6 (World.drew w6) := (Below.refl _ _).drew
              refine wpAnyH_take (i := 0) (oi := ⟨some 107, _, _, _, _, _⟩) (v := ?_) rfl (by kernel_rfl) (by kernel_rfl) (by kernel_rfl) (fun _ _ _ h => h) (Or.inl ⟨by rfl, ?_⟩) hS ?_
              rotate_left
              · intro W hW; go_simp; with_reducible rfl
              try simp only [Act.put, List.setIfInBounds_toArray, List.set_cons_zero, List.set_cons_succ]
              refine wpAnyH_take (i := 1) (oi := ⟨some 108, _, _, _, _, _⟩) (v := ?_) rfl (by kernel_rfl) (by kernel_rfl) (by kernel_rfl) (fun _ _ _ h => h) (Or.inl ⟨by rfl, ?_⟩) hS ?_
              rotate_left
              · intro W hW; go_simp; with_reducible rfl
              try simp only [Act.put, List.setIfInBounds_toArray, List.set_cons_zero, List.set_cons_succ]
              refine wpAnyH_take (i := 2) (oi := ⟨some 109, _, _, _, _, _⟩) (v := undef) rfl (by kernel_rfl) (by kernel_rfl) (by kernel_rfl) (fun _ _ _ h => h) (Or.inr ⟨by rfl, rfl⟩) hS ?_
              try simp only [Act.put, List.setIfInBounds_toArray, List.set_cons_zero, List.set_cons_succ]
              refine wpAnyH_take (i := 3) (oi := ⟨some 110, _, _, _, _, _⟩) (v := undef) rfl (by kernel_rfl) (by kernel_rfl) (by kernel_rfl) (fun _ _ _ h => h) (Or.inr ⟨by rfl, rfl⟩) hS ?_
              try simp only [Act.put, List.setIfInBounds_toArray, List.set_cons_zero, List.set_cons_succ]
              refine wpAnyH_take (i := 4) (oi := ⟨some 111, _, _, _, _, _⟩) (v := undef) rfl (by kernel_rfl) (by kernel_rfl) (by kernel_rfl) (fun _ _ _ h => h) (Or.inr ⟨by rfl, rfl⟩) hS ?_
              try simp only [Act.put, List.setIfInBounds_toArray, List.set_cons_zero, List.set_cons_succ]
              refine wpAnyH_take (i := 5) (oi := ⟨some 112, _, _, _, _, _⟩) (v := undef) rfl (by kernel_rfl) (by kernel_rfl) (by kernel_rfl) (fun _ _ _ h => h) (Or.inr ⟨by rfl, rfl⟩) hS ?_
              try simp only [Act.put, List.setIfInBounds_toArray, List.set_cons_zero, List.set_cons_succ]
              refine wpAnyH_take (i := 6) (oi := ⟨some 113, _, _, _, _, _⟩) (v := undef) rfl (by kernel_rfl) (by kernel_rfl) (by kernel_rfl) (fun _ _ _ h => h) (Or.inr ⟨by rfl, rfl⟩) hS ?_
              try simp only [Act.put, List.setIfInBounds_toArray, List.set_cons_zero, List.set_cons_succ]
              refine wpAnyH_take (i := 7) (oi := ⟨some 114, _, _, _, _, _⟩) (v := undef) rfl (by kernel_rfl) (by kernel_rfl) (by kernel_rfl) (fun _ _ _ h => h) (Or.inr ⟨by rfl, rfl⟩) hS ?_
              try simp only [Act.put, List.setIfInBounds_toArray, List.set_cons_zero, List.set_cons_succ]
              refine wpAnyH_take (i := 8) (oi := ⟨some 115, _, _, _, _, _⟩) (v := undef) rfl (by kernel_rfl) (by kernel_rfl) (by kernel_rfl) (fun _ _ _ h => h) (Or.inr ⟨by rfl, rfl⟩) hS ?_
              try simp only [Act.put, List.setIfInBounds_toArray, List.set_cons_zero, List.set_cons_succ]
              refine wpAnyH_take (i := 9) (oi := ⟨some 116, _, _, _, _, _⟩) (v := undef) rfl (by kernel_rfl) (by kernel_rfl) (by kernel_rfl) (fun _ _ _ h => h) (Or.inr ⟨by rfl, rfl⟩) hS ?_
              try simp only [Act.put, List.setIfInBounds_toArray, List.set_cons_zero, List.set_cons_succ]
              refine wpAnyH_take (i := 10) (oi := ⟨some 117, _, _, _, _, _⟩) (v := undef) rfl (by kernel_rfl) (by kernel_rfl) (by kernel_rfl) (fun _ _ _ h => h) (Or.inr ⟨by rfl, rfl⟩) hS ?_
              try simp only [Act.put, List.setIfInBounds_toArray, List.set_cons_zero, List.set_cons_succ]
              refine wpAnyH_take (i := 11) (oi := ⟨some 118, _, _, _, _, _⟩) (v := undef) rfl (by kernel_rfl) (by kernel_rfl) (by kernel_rfl) (fun _ _ _ h => h) (Or.inr ⟨by rfl, rfl⟩) hS ?_
              try simp only [Act.put, List.setIfInBounds_toArray, List.set_cons_zero, List.set_cons_succ]
              refine wpAnyH_take (i := 12) (oi := ⟨some 119, _, _, _, _, _⟩) (v := undef) rfl (by kernel_rfl) (by kernel_rfl) (by kernel_rfl) (fun _ _ _ h => h) (Or.inr ⟨by rfl, rfl⟩) hS ?_
              try simp only [Act.put, List.setIfInBounds_toArray, List.set_cons_zero, List.set_cons_succ]
              refine wpAnyH_take (i := 13) (oi := ⟨some 120, _, _, _, _, _⟩) (v := undef) rfl (by kernel_rfl) (by kernel_rfl) (by kernel_rfl) (fun _ _ _ h => h) (Or.inr ⟨by rfl, rfl⟩) hS ?_
              try simp only [Act.put, List.setIfInBounds_toArray, List.set_cons_zero, List.set_cons_succ]
              refine wpAnyH_take (i := 14) (oi := ⟨some 121, _, _, _, _, _⟩) (v := undef) rfl (by kernel_rfl) (by kernel_rfl) (by kernel_rfl) (fun _ _ _ h => h) (Or.inr ⟨by rfl, rfl⟩) hS ?_
              try simp only [Act.put, List.setIfInBounds_toArray, List.set_cons_zero, List.set_cons_succ]
              refine wpAnyH_take (i := 15) (oi := ⟨some 122, _, _, _, _, _⟩) (v := undef) rfl (by kernel_rfl) (by kernel_rfl) (by kernel_rfl) (fun _ _ _ h => h) (Or.inr ⟨by rfl, rfl⟩) hS ?_
              try simp only [Act.put, List.setIfInBounds_toArray, List.set_cons_zero, List.set_cons_succ]
              refine wpAnyH_take (i := 16) (oi := ⟨some 123, _, _, _, _, _⟩) (v := undef) rfl (by kernel_rfl) (by kernel_rfl) (by kernel_rfl) (fun _ _ _ h => h) (Or.inr ⟨by rfl, rfl⟩) hS ?_
              try simp only [Act.put, List.setIfInBounds_toArray, List.set_cons_zero, List.set_cons_succ]
              refine wpAnyH_take (i := 17) (oi := ⟨some 124, _, _, _, _, _⟩) (v := undef) rfl (by kernel_rfl) (by kernel_rfl) (by kernel_rfl) (fun _ _ _ h => h) (Or.inr ⟨by rfl, rfl⟩) hS ?_
              try simp only [Act.put, List.setIfInBounds_toArray, List.set_cons_zero, List.set_cons_succ]
              refine wpAnyH_take (i := 18) (oi := ⟨some 125, _, _, _, _, _⟩) (v := undef) rfl (by kernel_rfl) (by kernel_rfl) (by kernel_rfl) (fun _ _ _ h => h) (Or.inr ⟨by rfl, rfl⟩) hS ?_
              try simp only [Act.put, List.setIfInBounds_toArray, List.set_cons_zero, List.set_cons_succ]
              refine wpAnyH_take (i := 19) (oi := ⟨some 126, _, _, _, _, _⟩) (v := ?_) rfl (by kernel_rfl) (by kernel_rfl) (by kernel_rfl) (fun _ _ _ h => h) (Or.inl ⟨by rfl, ?_⟩) hS ?_
              rotate_left
              · intro W hW; go_simp; with_reducible rfl
              try simp only [Act.put, List.setIfInBounds_toArray, List.set_cons_zero, List.set_cons_succ]
              refine wpAnyH_done (by kernel_rfl) ?_ _
              have HS7 := Lib.hid (since_trans HS5.out (since_trans HS6.out hS))
              clear hS
              go_wp2_with fail
              go_roundw
              case rel => exact ⟨j + 1, kk, by simp, rfl, by omega, hkk, by show kk = (rdyN T L Q (j + 1)).length; rw [HNO.out]; exact HKK.out, HS7.out⟩
              case measure => simp [intOf]; omega
            · have HPOS := Lib.hid (HFI.out (HF.out.1 rfl))
              obtain ⟨na, hna⟩ : ∃ na, na = (agL T u ub um L).length := ⟨_, rfl⟩
              have HNA := Lib.hid hna
              have hna0 : ((na : Int) == 0) = false := by have := HPOS.out; simp; omega
              have hna1 : (na == 0) = false := by have := HPOS.out; simp; omega
              have HAG := Lib.hid (show ∀ V, Since w6 V → Calls Try.prog 10 #[.agg #[.slice B m kb], .agg #[.slice A n k, .int .i64 c], .int .i64 u, .int .i64 ub, .int .i64 um] V fun e w' => ∃ A' k', e = .returned (.slice A' na k') ∧ Below V.heap.size V w' from fun V hV => by
                have hv := HW3.out.below (since_trans HS5.out (since_trans HS6.out hV))
                refine (against_any B L m kb HW.out.hm HW.out.hk HWT.out.apt.tab A T n k c HW.out.hn HWT.out.apt.good u ub um (by rw [HUM.out]; exact HMAY.out.2) V hv.l hv.x).mono ?_
                rintro e w' ⟨v, rfl, ho, hb⟩
                obtain ⟨A', k', hv', _, _⟩ := ho.form
                exact ⟨A', k', by rw [hv', HNA.out], hb⟩)
              have m0 : ∀ V, Since w6 V → V.cell? ⟨p, 0, none⟩ = some (.slice A n k) := fun V hV => p0 V (since_trans HS6.out hV)
              have m1 : ∀ V, Since w6 V → V.cell? ⟨p, 1, none⟩ = some (.int .i64 c) := fun V hV => p1 V (since_trans HS6.out hV)
              have m2 : ∀ V, Since w6 V → V.cell? ⟨p, 2, none⟩ = some (.slice B m kb) := fun V hV => p2 V (since_trans HS6.out hV)
              have n0 : ∀ V, Since w6 V → V.cell? ⟨g, 0, none⟩ = some (.int .i64 u) := fun V hV => t0 V (since_trans HS6.out hV)
              have n1 : ∀ V, Since w6 V → V.cell? ⟨g, 1, none⟩ = some (.int .i64 ub) := fun V hV => t1 V (since_trans HS6.out hV)
              have n2 : ∀ V, Since w6 V → V.cell? ⟨g, 2, none⟩ = some (.int .i64 um) := fun V hV => t2 V (since_trans HS6.out hV)
              clear hna
              go_upto_region 22 with fail
              refine wp_region_since (by kernel_rfl) ?_
              have hS : Since w6 (World.drew w6) := (Below.refl _ _).drew
              refine wpAnyH_take (i := 0) (oi := ⟨some 107, _, _, _, _, _⟩) (v := ?_) rfl (by kernel_rfl) (by kernel_rfl) (by kernel_rfl) (fun _ _ _ h => h) (Or.inl ⟨by rfl, ?_⟩) hS ?_
              rotate_left
              · intro W hW; go_simp; with_reducible rfl
              try simp only [Act.put, List.setIfInBounds_toArray, List.set_cons_zero, List.set_cons_succ]
              refine wpAnyH_take (i := 1) (oi := ⟨some 108, _, _, _, _, _⟩) (v := ?_) rfl (by kernel_rfl) (by kernel_rfl) (by kernel_rfl) (fun _ _ _ h => h) (Or.inl ⟨by rfl, ?_⟩) hS ?_
              rotate_left
              · intro W hW; go_simp; with_reducible rfl
              try simp only [Act.put, List.setIfInBounds_toArray, List.set_cons_zero, List.set_cons_succ]
              refine wpAnyH_take (i := 2) (oi := ⟨some 109, _, _, _, _, _⟩) (v := ?_) rfl (by kernel_rfl) (by kernel_rfl) (by kernel_rfl) (fun _ _ _ h => h) (Or.inl ⟨by rfl, ?_⟩) hS ?_
              rotate_left
              · intro W hW; go_simp; with_reducible rfl
              try simp only [Act.put, List.setIfInBounds_toArray, List.set_cons_zero, List.set_cons_succ]
              refine wpAnyH_take (i := 3) (oi := ⟨some 110, _, _, _, _, _⟩) (v := ?_) rfl (by kernel_rfl) (by kernel_rfl) (by kernel_rfl) (fun _ _ _ h => h) (Or.inl ⟨by rfl, ?_⟩) hS ?_
              rotate_left
              · intro W hW; go_simp; with_reducible rfl
              try simp only [Act.put, List.setIfInBounds_toArray, List.set_cons_zero, List.set_cons_succ]
              refine wpAnyH_take (i := 4) (oi := ⟨some 111, _, _, _, _, _⟩) (v := ?_) rfl (by kernel_rfl) (by kernel_rfl) (by kernel_rfl) (fun _ _ _ h => h) (Or.inl ⟨by rfl, ?_⟩) hS ?_
              rotate_left
              · intro W hW; go_simp; with_reducible rfl
              try simp only [Act.put, List.setIfInBounds_toArray, List.set_cons_zero, List.set_cons_succ]
              refine wpAnyH_take (i := 5) (oi := ⟨some 112, _, _, _, _, _⟩) (v := ?_) rfl (by kernel_rfl) (by kernel_rfl) (by kernel_rfl) (fun _ _ _ h => h) (Or.inl ⟨by rfl, ?_⟩) hS ?_
              rotate_left
              · intro W hW; go_simp; with_reducible rfl
              try simp only [Act.put, List.setIfInBounds_toArray, List.set_cons_zero, List.set_cons_succ]
              refine wpAnyH_take (i := 6) (oi := ⟨some 113, _, _, _, _, _⟩) (v := ?_) rfl (by kernel_rfl) (by kernel_rfl) (by kernel_rfl) (fun _ _ _ h => h) (Or.inl ⟨by rfl, ?_⟩) hS ?_
              rotate_left
              · intro W hW; go_simp; with_reducible rfl
              try simp only [Act.put, List.setIfInBounds_toArray, List.set_cons_zero, List.set_cons_succ]
              refine wpAnyH_take (i := 7) (oi := ⟨some 114, _, _, _, _, _⟩) (v := ?_) rfl (by kernel_rfl) (by kernel_rfl) (by kernel_rfl) (fun _ _ _ h => h) (Or.inl ⟨by rfl, ?_⟩) hS ?_
              rotate_left
              · intro W hW; go_simp; with_reducible rfl
              try simp only [Act.put, List.setIfInBounds_toArray, List.set_cons_zero, List.set_cons_succ]
              refine wpAnyH_take (i := 8) (oi := ⟨some 115, _, _, _, _, _⟩) (v := ?_) rfl (by kernel_rfl) (by kernel_rfl) (by kernel_rfl) (fun _ _ _ h => h) (Or.inl ⟨by rfl, ?_⟩) hS ?_
              rotate_left
              · intro W hW; go_simp; with_reducible rfl
              try simp only [Act.put, List.setIfInBounds_toArray, List.set_cons_zero, List.set_cons_succ]
              refine wpAnyH_take (i := 9) (oi := ⟨some 116, _, _, _, _, _⟩) (v := ?_) rfl (by kernel_rfl) (by kernel_rfl) (by kernel_rfl) (fun _ _ _ h => h) (Or.inl ⟨by rfl, ?_⟩) hS ?_
              rotate_left
              · intro W hW; go_simp; with_reducible rfl
              try simp only [Act.put, List.setIfInBounds_toArray, List.set_cons_zero, List.set_cons_succ]
              refine wpAnyH_take (i := 10) (oi := ⟨some 117, _, _, _, _, _⟩) (v := ?_) rfl (by kernel_rfl) (by kernel_rfl) (by kernel_rfl) (fun _ _ _ h => h) (Or.inl ⟨by rfl, ?_⟩) hS ?_
              rotate_left
              · intro W hW; go_simp; with_reducible rfl
              try simp only [Act.put, List.setIfInBounds_toArray, List.set_cons_zero, List.set_cons_succ]
              refine wpAnyH_take (i := 11) (oi := ⟨some 118, _, _, _, _, _⟩) (v := ?_) rfl (by kernel_rfl) (by kernel_rfl) (by kernel_rfl) (fun _ _ _ h => h) (Or.inl ⟨by rfl, ?_⟩) hS ?_
              rotate_left
              · intro W hW; go_simp; with_reducible rfl
              try simp only [Act.put, List.setIfInBounds_toArray, List.set_cons_zero, List.set_cons_succ]
              refine wpAnyH_take (i := 12) (oi := ⟨some 119, _, _, _, _, _⟩) (v := ?_) rfl (by kernel_rfl) (by kernel_rfl) (by kernel_rfl) (fun _ _ _ h => h) (Or.inl ⟨by rfl, ?_⟩) hS ?_
              rotate_left
              · intro W hW; go_simp; with_reducible rfl
              try simp only [Act.put, List.setIfInBounds_toArray, List.set_cons_zero, List.set_cons_succ]
              refine wpAnyH_take (i := 13) (oi := ⟨some 120, _, _, _, _, _⟩) (v := ?_) rfl (by kernel_rfl) (by kernel_rfl) (by kernel_rfl) (fun _ _ _ h => h) (Or.inl ⟨by rfl, ?_⟩) hS ?_
              rotate_left
              · intro W hW; go_simp; with_reducible rfl
              try simp only [Act.put, List.setIfInBounds_toArray, List.set_cons_zero, List.set_cons_succ]
              refine wpAnyH_take (i := 14) (oi := ⟨some 121, _, _, _, _, _⟩) (v := ?_) rfl (by kernel_rfl) (by kernel_rfl) (by kernel_rfl) (fun _ _ _ h => h) (Or.inl ⟨by rfl, ?_⟩) hS ?_
              rotate_left
              · intro W hW; go_simp; with_reducible rfl
              try simp only [Act.put, List.setIfInBounds_toArray, List.set_cons_zero, List.set_cons_succ]
              refine wpAnyH_take (i := 15) (oi := ⟨some 122, _, _, _, _, _⟩) (v := ?_) rfl (by kernel_rfl) (by kernel_rfl) (by kernel_rfl) (fun _ _ _ h => h) (Or.inl ⟨by rfl, ?_⟩) hS ?_
              rotate_left
              · intro W hW; go_simp; with_reducible rfl
              try simp only [Act.put, List.setIfInBounds_toArray, List.set_cons_zero, List.set_cons_succ]
              refine wpAnyH_ready (rs := [16]) (by kernel_rfl) (by simp) ?_
              refine AllReadyH.cons (o := ⟨some 123, _, _, _, _, _⟩) rfl (fun Kr hKr => ?_) AllReadyH.nil
              -- operation 16: a call
              go_simp
              refine (HAG.out _ hS).mono ?_
              rintro e w7 ⟨A7, k7, rfl, hb7⟩
              show Kr _ _
              refine hKr.out _ _ ?_ (fun _ => ?_)
              · exact since_trans hS hb7
              clear hKr Kr
              replace hS : Since w6 w7 := since_trans hS hb7
              try simp only [Act.put, List.setIfInBounds_toArray, List.set_cons_zero, List.set_cons_succ]
              refine wpAnyH_take (i := 17) (oi := ⟨some 124, _, _, _, _, _⟩) (v := ?_) rfl (by kernel_rfl) (by kernel_rfl) (by kernel_rfl) (fun _ _ _ h => h) (Or.inl ⟨by rfl, ?_⟩) hS ?_
              rotate_left
              · intro W hW; go_simp; with_reducible rfl
              try simp only [Act.put, List.setIfInBounds_toArray, List.set_cons_zero, List.set_cons_succ]
              refine wpAnyH_take (i := 18) (oi := ⟨some 125, _, _, _, _, _⟩) (v := ?_) rfl (by kernel_rfl) (by kernel_rfl) (by kernel_rfl) (fun _ _ _ h => h) (Or.inl ⟨by rfl, ?_⟩) hS ?_
              rotate_left
              · intro W hW; go_simp; with_reducible rfl
              try simp only [Act.put, List.setIfInBounds_toArray, List.set_cons_zero, List.set_cons_succ]
              refine wpAnyH_take (i := 19) (oi := ⟨some 126, _, _, _, _, _⟩) (v := ?_) rfl (by kernel_rfl) (by kernel_rfl) (by kernel_rfl) (fun _ _ _ h => h) (Or.inl ⟨by rfl, ?_⟩) hS ?_
              rotate_left
              · intro W hW; go_simp; with_reducible rfl
              try simp only [Act.put, List.setIfInBounds_toArray, List.set_cons_zero, List.set_cons_succ]
              refine wpAnyH_done (by kernel_rfl) ?_ _
              have HS7 := Lib.hid (since_trans HS5.out (since_trans HS6.out hS))
              clear hS hb7 m0 m1 m2 n0 n1 n2
              go_wp2_with fail
              go_roundw
              case rel => exact ⟨j + 1, kk, by simp, rfl, by omega, hkk, by show kk = (rdyN T L Q (j + 1)).length; rw [HNO.out]; exact HKK.out, HS7.out⟩
              case measure => simp [intOf]; omega
    · obtain rfl : i = nq := by omega
      have hkn : kk = nr := by
        rw [HKK.out, HNR.out, HRD.out]
        unfold rdyL
        rw [HW.out.hq]
      have HSL := Lib.hid (HB3.out.trans (Below.mono HS.out HB3.out.size))
      subst hkn
      go_wp2_with fail
      go_ret
      exact ⟨rfl, HSL.out⟩
end Go.Proofs.Ytbokhhialfbjcaa
